import PyProof.Rows.All
import Wide.All
import OpenK.AllK
import Wide.FinOn
import Lean
import PyProof.EqAt
import PyProof.EqKinds
import PyProof.TupleCall
import PySem.Challenge.RW_stuckwires_k90_whole_answers_and_groups
open PySem renaming wpAny_bind→yA,wpAny_pure→yD,sizeLine→yM,mainGlobals→jD,boot_len→xA,mem_of_lookup→kZ,Data→yah,Obj→yam,evalArgs_none→yaU,ClassData→ybv,call→ycm
open List renaming length_map→yB,getElem?_eq_getElem→yC,mem_singleton→yE,getElem?_eq_some_iff→yF,getElem?_map→yG,mem_of_getElem?→yH,length_append→yJ,map_append→yK,getD_eq_getElem?_getD→yL,take_add_one→yO,length_take→yP,take_length→yQ,mem_cons→yR,mem_append→yU,size_toArray→yW,length_singleton→yX,mem_map→yY,all_eq_true→yZ,replicate→qG,not_mem_nil→qK,map_cons→qQ,getElem?_append_left→qU,getElem?_append_right→qV,length_cons→qY,getElem?_mapIdx→qZ,getElem_mem→jC,nodup_append→jG,mem_append_right→jJ,contains_iff_mem→jK,ext_getElem?→jM,take_of_length_le→jP,getElem?_of_mem→jQ,mem_cons_of_mem→jU,mem_append_left→jV,append_nil→jW,mem_range→jY,map_congr_left→xC,append_assoc→xF,replicate_succ→xK,nodup_nil→xL,lookup_cons→xM,mem_cons_self→xN,range→xO,nodup_cons→xR,foldl_append→xU,getElem?_eq_none→xX,length_filter_le→xY,length_set→xZ,length_eq_zero_iff→vA,filter_cons_of_neg→vC,filter_cons_of_pos→vD,filter_append→vF,getElem?_set_ne→vG,length→vI,length_replicate→vL,mem_mapIdx→vM,find?_eq_none→vO,Perm→vP,flatMap_cons→vR,getElem?_set→vS,mem_filter→vU,find?_cons→vV,length_nil→vW,flatMap_append→vX,take_append_drop→kI,flatten_cons→kO,foldl_cons→kQ,filter_congr→kW,map_map→kY,length_drop→wB,mem_flatMap→wC,getElem?_set_self→wD,find?_cons_of_pos→wE,length_mapIdx→wH,map_inj_right→wI,getElem?_toArray→wL,mem_of_find?_eq_some→wV,getElem?_take_of_lt→yaj,getElem?_replicate→yan,mapIdx_concat→yao,mem_replicate→yar,filter_nil→yat,find?_cons_of_neg→yav,perm_middle→yaJ,mem_of_mem_take→yaL,any_cons→yaM,dropLast_concat_getLast→yaR,filterMap_cons→yaT,mem_filterMap→ya2,getElem?_zip_eq_some→ya6,of_mem_zip→ybw,map_nil→ybx,nil_append→yby,forIn_cons→ybA,all_cons→ybO,map_take→ybS,map_drop→ybT,set_cons_succ→ybW,map_replicate→ybX,pairwise_map→ybZ,all_map→yb3,map_set→yb4,range'_succ→ycb,mapIdx_cons→yce,filter_cons→ycf,range_succ→yck,foldl→ycl
open PySem.Heap renaming get?_push_of_some→yI,get?_push_size→yT,lt_size→yV,SameBut→qH,get?_update_self→qR,get?_update_other→jO,size_push→yaa,get?_none_of_le→yaK,ExtBut→ybJ
open Nat renaming le_refl→yN,ne_of_lt→qC,zero_le→qL,lt_of_lt_of_le→qN,le_trans→jB,pow_le_pow_right→jT,lt_irrefl→vJ,le_succ_of_le→vT,le_add_right→kB,ne_of_gt→kE,le_of_lt→yai,two_pow_pos→yap,not_lt_zero→yas,testBit_lt_two_pow→yax,lt_trans→yaC,pow_succ→yaE,testBit_two_pow_sub_one→yaW,sub_self→ya4,lt_succ_of_lt→ybe,mul_comm→ybz,zero_mul→ybF,zero_add→ybG,lt_of_le_of_lt→ybQ,add_sub_cancel→ybR,and_one_is_mod→ybV,sub_zero→yb1,lt_or_ge→yb2,zero_testBit→yb8,lt_succ_self→ycd,testBit_xor→ych,testBit_and→yci
open Bool renaming false_ne_true→yS,false_eq_true→qE,and_eq_true→qM,not_eq_true'→xH,eq_iff_iff→xJ,noConfusion→kC,not_true→yaQ,or_false→ybi,and_eq_true_iff→ybI
open PySem.PassesOwn renaming never→qA
open Prod renaming fst→qB
open Option.some renaming inj→qF,injEq→kU
open PySem.Paired renaming length→qI,snoc→yac
open PySem.F renaming plainAttrs_list→qJ,slot_list_append→qO,type_list_append→qP,slot_dict_valueiterator_next→jZ,slot_dict_itemiterator_next→xD,slot_dict_keyiterator_next→xE,called_set→vE,plainAttrs_dict→vQ,args_dict_valueiterator_next_1→wO,args_dict_itemiterator_next_1→wQ,entry_dict_valueiterator_next→wS,entry_dict_itemiterator_next→wW,plain_extend_loop→wX,args_dict_keyiterator_next_1→wY,entry_dict_keyiterator_next→yag,slot_list_getattribute→yak,slot_dict_iter→yaw,slot_dict_get→yaD,slot_dict_values_iter→yaI,slot_dict_items_iter→yaN,slot_dict_setdefault→yaO,args_tuple_add_2→ya7,slot_dict_values→ybb,args_list_init_2→ybc,slot_dict_update→ybd,entry_tuple_add→ybg,args_dict_get_3→ybh,slot_dict_items→ybj,typeCall_list_1→ybk,entry_list_init→ybl,slot_list_index→ybn,plain_list_iadd→ybo,slot_tuple_add→ybr,entry_dict_get→ybs,plain_set_new→ybD,slot_set_iter→ybE,called_list→ybK,slot_int_rmul→ycg
open PySem.Builtin.Int renaming intBits→qS
open PySem.Builtin renaming bitAnd→qT,bitXor→qX,bitOr→jF,bitNot→xG
open PySem.Challenge renaming rw_stuckwires_k90_whole_answers_and_groups→qW,pw_stuckwires_k90_whole_answers_and_groups→jX
open PySem.Heap.SameBut renaming update→jA,extBut→yaf
open PySem.Obj renaming mapSeq→jE,data_mapFields→vB,mapFields→vK,isFreed_of_fields→wJ,data_mapDictKeys→wR,cls_mapFields→yaA,isFreed_of_dict→yaY,data_mapDict→yb9
open Array renaming getElem?_eq_getElem→jI,getElem?_eq_none→xQ,length_toList→xT,getElem?_toList→vN,getElem?_eq_some_iff→ya1,forIn_toList→ybU,toList_inj→ycc
open Ne renaming symm→jL
open Int renaming toNat_natCast→jN,toNat_of_nonneg→vY,emod_lt_of_pos→kJ,emod_nonneg→kX,natCast_nonneg→wG,fdiv_eq_ediv_of_nonneg→wP,zero_add→yal,le_refl→ybp
open PySem.Builtin.Dict_items renaming ownsTuple→jR,ownedTupleFields→yad,ownedTupleIsFree→yae,pairFromOwner→yau,newIterator→yaF,dictOf→ya5
open PySem.Builtin.List renaming listExtendWith→jS,listSameRef→xW,listTooLong→kS,listItems→wF,listLengthHint→wK,listUpdate→ybm
open PySem.SeqAt renaming EqAt→xB,canLay_of_shaped→xP,notIn_listAt→ybP,eqAt_reads→yb7
open PyProof.Rows renaming callWith_type1→xI,slot_tuple_getitem→kM,boot_list→yay,callWith_builtin1→yaB,boot_all→yaG,boot_int→yaH,boot_tuple→ybq,boot_dict→ybu
open PyProof.Rows.F renaming plain_set_update_loop→xS,entry_set_update_loop→wZ
open PySem.Builtin.Dict renaming showsAll→xV,updateFrom→wA,noArgs→yaX,addKeywords→ya9,selfAndRest→yba,mergeDict→ybt
open PySem.Around renaming under_plainId→vH,in1_units→yb6
open PySem.Calls renaming callWith_builtin→vZ,spliced_cons→kF,spliced_nil→wN,Name_function_global→yaZ,evalArgs_plain→ybH
open Option renaming map_eq_some_iff→kA,map_some→yaV,isSome_map→ya8,getD_none→yb5
open PySem.Str renaming ofString→kH
open PySem.Builtin.Slice renaming slicePlaces→kK,sliceAdjust→wT,sliceApplied→ya0
open PySem.Builtin.Tuple renaming tupleExact→kN
open False renaming elim→wM
open PySem.Value.type renaming inj→wU
open PySem.SetTable renaming below→yab,insertAt→ybY
open PySem.Shared renaming TypeIs→yaq
open PySem.Value renaming isInt_shape→yaz
open List.cons renaming inj→yaP
open PySem.PyData renaming eqv→yaS,strOk→yb0
open PySem.SeqAt.Reads renaming unique→ya3
open Sum.inl renaming inj→ybf
open Nat.succ renaming inj→ybB
open PySem.W renaming OpenLaw→ybC
open PySem.SeqAt.EqAt renaming int_str→ybL,str_int→ybM
open PySem.Heap.IsSliceOf renaming new→ybN
open Std.Legacy renaming Range→yca
open PySem.ItemsOf renaming nil→ycj
open PySem.Walks renaming list→ycn
open PyProof.Rows.IsTup renaming new→yco
set_option Elab.async false
set_option linter.all false
set_option maxRecDepth 100000
set_option genSizeOf false
local macro_rules | `(tactic| omega)=>`(tactic| lia)
namespace L2
open PySem
noncomputable def zb6 (s:Stmt):Arguments:=match s with
 | .FunctionDef _ a _ _ _ _ _ _ _ _=>a
 | _=>{posonlyargs:=[],args:=[],vararg:=none,kwonlyargs:=[],kw_defaults:=[],kwarg:=none,defaults:=[]}
noncomputable def zbN (s:Stmt):List Stmt:=match s with
 | .FunctionDef _ _ b _ _ _ _ _ _ _=>b
 | _=>[]
noncomputable def zak (s:Stmt):Scope:=match s with
 | .FunctionDef _ _ _ _ _ _ sc _ _ _=>sc
 | _=>{kind:=.function,names:=[],isGenerator:=false,isCoroutine:=false}
end L2
namespace My
open PySem L2
noncomputable def top (i:Nat):Stmt:=jX.main.body.getD i (.Pass ⟨0,0,0,0⟩)
noncomputable abbrev zdF:Stmt:=top 5
noncomputable abbrev zdB:Stmt:=top 6
noncomputable abbrev zcp:Stmt:=top 7
noncomputable abbrev zcw:Stmt:=top 9
noncomputable abbrev zcm:Stmt:=top 10
noncomputable abbrev zb3:Stmt:=top 11
noncomputable abbrev zcY:Stmt:=top 12
noncomputable abbrev zbO:Stmt:=top 13
noncomputable abbrev zcc:Stmt:=top 15
noncomputable abbrev zcf:Stmt:=top 16
noncomputable abbrev zc1:Stmt:=top 17
noncomputable abbrev zch:Stmt:=top 18
noncomputable abbrev zcb:Stmt:=top 19
noncomputable abbrev zbP:Stmt:=top 20
noncomputable abbrev zdI:Stmt:=top 23
noncomputable abbrev zbK:Stmt:=top 24
noncomputable abbrev zcv:Stmt:=top 25
noncomputable abbrev zc3:Stmt:=top 26
noncomputable abbrev zcx:Stmt:=top 27
noncomputable abbrev zcA:Stmt:=top 30
noncomputable abbrev zdE:Stmt:=top 31
noncomputable abbrev zcE:Stmt:=top 32
noncomputable abbrev zcy:Stmt:=top 33
noncomputable abbrev zdK:Stmt:=top 34
noncomputable abbrev zcX:Stmt:=top 35
noncomputable abbrev zcQ:Stmt:=top 36
noncomputable abbrev zci:Stmt:=top 37
noncomputable abbrev zcB:Stmt:=top 38
noncomputable abbrev zbY:Stmt:=top 39
noncomputable abbrev zdW:Stmt:=top 40
noncomputable abbrev zda:Stmt:=top 42
noncomputable abbrev zdL:Stmt:=top 43
noncomputable abbrev zcj:Stmt:=top 44
noncomputable abbrev zdA:Stmt:=top 46
noncomputable abbrev zck:Stmt:=top 47
noncomputable abbrev zcF:Stmt:=top 49
noncomputable abbrev zeo:Stmt:=top 50
noncomputable abbrev zdJ:Stmt:=top 51
noncomputable abbrev zer:Stmt:=top 52
noncomputable abbrev zdM:Stmt:=top 53
noncomputable abbrev zet:Stmt:=top 54
noncomputable abbrev zc5:Stmt:=top 55
noncomputable abbrev zdR:Stmt:=top 56
noncomputable abbrev zdX:Stmt:=top 57
noncomputable abbrev zcS:Stmt:=top 58
noncomputable abbrev zdH:Stmt:=top 59
noncomputable abbrev zcU:Stmt:=top 60
noncomputable abbrev zi6:Stmt:=top 61
end My
namespace My
open PySem PySem.W
noncomputable abbrev dE (P:Params) (x:Str) (n:Nat) (v:Value):DictEntry:=.mk (PyData.keyHash P x) (.str x n) v
noncomputable abbrev tO (vs:Array Value):Obj:=.mk (.type "tuple") none (.seq vs) #[]
noncomputable abbrev fO (x:Str) (s:Stmt) (dV kV doc pm:Value) (an:Option Addr) (cd ct:Value):Obj:=.mk (.type "function") none (.func (PySem.W.fnOf x x (L2.zb6 s) (L2.zbN s) (L2.zak s) dV kV doc pm an cd ct)) #[]
noncomputable abbrev fD (x:Str) (s:Stmt) (f:Str) (n c:Nat):Obj:=fO x s .none .none .none (.str f n) none (.ref c) .none
noncomputable abbrev cO (x:Str) (n:Nat) (l a:Int) (r:Nat) (u v:Value) (q:Nat) (t:Nat):Obj:=.mk (.type "code") none (.fields #[.str x n,.str x (n+1),.str "/claim/cut.py" (n+2),.int l 0,.int a 0,.int 0 0,.int 0 0,.int 3 0,.ref r,.bool true,.int 181 0,.ref (r+1),.none,u,v,.ref q,.int t 0,.int l 0,.str "/claim/cut.py" (t+1)]) #[]
noncomputable def part:Params→Frag:=fun P=>
 (nat_lit 2,yam.mk .none none (yah.dict #[]) #[])::
 (nat_lit 3,yam.mk (.type "dict") none (yah.dict #[dE P "__name__" 165 (.str "law_stuckwires_k90_whole_answers_and_groups" 534),dE P "__doc__" 166 .none,dE P "__package__" 167 .none,dE P "__loader__" 168 (.builtin "__main__.__loader__#opaque"),dE P "__spec__" 169 .none,dE P "__annotations__" 170 (.ref 6),dE P "__builtins__" 171 (.ref 4),dE P "__file__" 173 (.str "/claim/cut.py" 172),dE P "__cached__" 174 .none,dE P "StuckError" 206 (.ref 24),dE P "NoRow" 222 (.ref 37),dE P "NoFault" 238 (.ref 49),dE P "every_row" 246 (.ref 56),dE P "check_row" 252 (.ref 61),dE P "gate_worth" 264 (.ref 69),dE P "every_fault" 272 (.ref 74),dE P "stuck_places" 284 (.ref 81),dE P "worths_with" 291 (.ref 87),dE P "leg_worths" 297 (.ref 92),dE P "outputs_with" 304 (.ref 98),dE P "outputs_seen" 312 (.ref 103),dE P "rows_at_once" 318 (.ref 108),dE P "outputs_in" 324 (.ref 113),dE P "seen_of_each" 333 (.ref 120),dE P "first_unlike" 343 (.ref 127),dE P "unlike_numbers" 349 (.ref 132),dE P "WELL" 353 (.ref 133),dE P "what_fits" 361 (.ref 140),dE P "seen_of_fitting" 372 (.ref 147),dE P "seen_of_all" 380 (.ref 154),dE P "row_number" 389 (.ref 161),dE P "left_behind" 395 (.ref 166),dE P "FOLDED_KINDS" 401 (.ref 167),dE P "paper_shows" 410 (.ref 174),dE P "is_let_by" 423 (.ref 181),dE P "every_pairs" 429 (.ref 186),dE P "input_pairs" 436 (.ref 193),dE P "leg_pairs" 442 (.ref 198),dE P "with_stuck" 448 (.ref 203),dE P "gate_pairs" 454 (.ref 208),dE P "every_choice" 460 (.ref 213),dE P "chosen_pair" 466 (.ref 218),dE P "outputs_alike" 472 (.ref 223),dE P "are_alike" 478 (.ref 228),dE P "first_test" 488 (.ref 235),dE P "test_told" 498 (.ref 242),dE P "paper_behind" 510 (.ref 249),dE P "parted_at" 521 (.ref 256),dE P "fault_groups" 533 (.ref 263),dE P "_law_cell_at" 543 (.ref 270),dE P "_law_stir" 552 (.ref 277),dE P "_law_digit" 561 (.ref 284),dE P "_law_gate" 567 (.ref 289),dE P "_law_works" 582 (.ref 296),dE P "_law_rows" 591 (.ref 303),dE P "_law_longer" 600 (.ref 310),dE P "_law_worth" 608 (.ref 317),dE P "_law_stuck" 614 (.ref 322),dE P "_law_faults" 628 (.ref 329),dE P "_law_first" 638 (.ref 336),dE P "_law_groups" 644 (.ref 341),dE P "law" 650 (.ref 346)] 62) #[])::
 (nat_lit 15,tO #[.type "ValueError"])::
 (nat_lit 22,tO #[])::
 (nat_lit 23,yam.mk (.type "dict") none (yah.dict #[dE P "__module__" 196 (.str "stuckwires.errors" 187),dE P "__firstlineno__" 200 (.int 2 199),dE P "__static_attributes__" 201 (.ref 22),dE P "__weakref__" 203 (.ref 25),dE P "__doc__" 204 .none] 3) #[])::
 (nat_lit 24,yam.mk (.type "type") none (yah.cls (ybv.mk "StuckError" [.type "ValueError"] [.ref 24,.type "ValueError",.type "Exception",.type "BaseException",.type "object"] 23 "StuckError" Bool.true [] [.ref 37,.ref 49] Bool.false none Bool.false)) #[Option.some (.ref 15),none,Option.some (.str "StuckError" 189),Option.some (.str "StuckError" 197),Option.some (.builtin "ValueError.__new__"),Option.some (.bool Bool.true)])::
 (nat_lit 25,yam.mk (.type "getset_descriptor") none (yah.fields #[.str "__weakref__" 202,.ref 24,.builtin "ExceptionGroup.__weakref__",.none]) #[])::
 (nat_lit 28,tO #[.ref 24])::
 (nat_lit 35,tO #[])::
 (nat_lit 36,yam.mk (.type "dict") none (yah.dict #[dE P "__module__" 214 (.str "stuckwires.errors" 187),dE P "__firstlineno__" 218 (.int 4 217),dE P "__static_attributes__" 219 (.ref 35),dE P "__doc__" 220 .none] 2) #[])::
 (nat_lit 37,yam.mk (.type "type") none (yah.cls (ybv.mk "NoRow" [.ref 24] [.ref 37,.ref 24,.type "ValueError",.type "Exception",.type "BaseException",.type "object"] 36 "NoRow" Bool.true [] [] Bool.false none Bool.false)) #[Option.some (.ref 28),none,Option.some (.str "NoRow" 207),Option.some (.str "NoRow" 215),Option.some (.builtin "ValueError.__new__"),Option.some (.bool Bool.true)])::
 (nat_lit 40,tO #[.ref 24])::
 (nat_lit 47,tO #[])::
 (nat_lit 48,yam.mk (.type "dict") none (yah.dict #[dE P "__module__" 230 (.str "stuckwires.errors" 187),dE P "__firstlineno__" 234 (.int 6 233),dE P "__static_attributes__" 235 (.ref 47),dE P "__doc__" 236 .none] 2) #[])::
 (nat_lit 49,yam.mk (.type "type") none (yah.cls (ybv.mk "NoFault" [.ref 24] [.ref 49,.ref 24,.type "ValueError",.type "Exception",.type "BaseException",.type "object"] 48 "NoFault" Bool.true [] [] Bool.false none Bool.false)) #[Option.some (.ref 40),none,Option.some (.str "NoFault" 223),Option.some (.str "NoFault" 231),Option.some (.builtin "ValueError.__new__"),Option.some (.bool Bool.true)])::
 (nat_lit 52,tO #[])::
 (nat_lit 55,cO "every_row" 241 9 1 52 .none .none 54 244)::
 (nat_lit 56,fD "every_row" zdF "stuckwires.works" 239 55)::
 (nat_lit 57,tO #[])::
 (nat_lit 60,cO "check_row" 247 14 2 57 .none .none 59 250)::
 (nat_lit 61,fD "check_row" zdB "stuckwires.works" 239 60)::
 (nat_lit 62,tO #[.int 1 253])::
 (nat_lit 63,tO #[])::
 (nat_lit 65,tO #[.str "kind" 257,.str "worths" 258,.str "ones" 259,.str "told" 260,.str "worth" 261])::
 (nat_lit 66,tO #[])::
 (nat_lit 68,cO "gate_worth" 254 19 3 63 (.ref 65) (.ref 66) 67 262)::
 (nat_lit 69,fO "gate_worth" zcp (.ref 62) .none .none (.str "stuckwires.works" 239) none (.ref 68) .none)::
 (nat_lit 70,tO #[])::
 (nat_lit 73,cO "every_fault" 267 34 1 70 .none .none 72 270)::
 (nat_lit 74,fD "every_fault" zcw "stuckwires.faults" 265 73)::
 (nat_lit 75,tO #[])::
 (nat_lit 77,tO #[.str "works" 276,.str "faults" 277,.str "known_faults" 278,.str "stuck" 279,.str "fault" 280,.str "place" 281])::
 (nat_lit 78,tO #[])::
 (nat_lit 80,cO "stuck_places" 273 44 2 75 (.ref 77) (.ref 78) 79 282)::
 (nat_lit 81,fD "stuck_places" zcm "stuckwires.faults" 265 80)::
 (nat_lit 82,tO #[.int 1 285])::
 (nat_lit 83,tO #[])::
 (nat_lit 86,cO "worths_with" 286 55 4 83 .none .none 85 289)::
 (nat_lit 87,fO "worths_with" zb3 (.ref 82) .none .none (.str "stuckwires.faults" 265) none (.ref 86) .none)::
 (nat_lit 88,tO #[])::
 (nat_lit 91,cO "leg_worths" 292 62 3 88 .none .none 90 295)::
 (nat_lit 92,fD "leg_worths" zcY "stuckwires.faults" 265 91)::
 (nat_lit 93,tO #[.int 1 298])::
 (nat_lit 94,tO #[])::
 (nat_lit 97,cO "outputs_with" 299 64 4 94 .none .none 96 302)::
 (nat_lit 98,fO "outputs_with" zbO (.ref 93) .none .none (.str "stuckwires.faults" 265) none (.ref 97) .none)::
 (nat_lit 99,tO #[])::
 (nat_lit 102,cO "outputs_seen" 307 68 2 99 .none .none 101 310)::
 (nat_lit 103,fD "outputs_seen" zcc "stuckwires.seen" 305 102)::
 (nat_lit 104,tO #[])::
 (nat_lit 107,cO "rows_at_once" 313 73 1 104 .none .none 106 316)::
 (nat_lit 108,fD "rows_at_once" zcf "stuckwires.seen" 305 107)::
 (nat_lit 109,tO #[])::
 (nat_lit 112,cO "outputs_in" 319 81 2 109 .none .none 111 322)::
 (nat_lit 113,fD "outputs_in" zc1 "stuckwires.seen" 305 112)::
 (nat_lit 114,tO #[])::
 (nat_lit 116,tO #[.str "works" 328,.str "seen" 329,.str "fault" 330])::
 (nat_lit 117,tO #[])::
 (nat_lit 119,cO "seen_of_each" 325 83 1 114 (.ref 116) (.ref 117) 118 331)::
 (nat_lit 120,fD "seen_of_each" zch "stuckwires.seen" 305 119)::
 (nat_lit 121,tO #[])::
 (nat_lit 123,tO #[.str "works" 337,.str "stuck" 338,.str "others" 339,.str "numbers" 340])::
 (nat_lit 124,tO #[])::
 (nat_lit 126,cO "first_unlike" 334 88 3 121 (.ref 123) (.ref 124) 125 341)::
 (nat_lit 127,fD "first_unlike" zcb "stuckwires.seen" 305 126)::
 (nat_lit 128,tO #[])::
 (nat_lit 131,cO "unlike_numbers" 344 91 2 128 .none .none 130 347)::
 (nat_lit 132,fD "unlike_numbers" zbP "stuckwires.seen" 305 131)::
 (nat_lit 133,tO #[.str "well" 352])::
 (nat_lit 134,tO #[])::
 (nat_lit 136,tO #[.str "works" 357,.str "answers" 358])::
 (nat_lit 137,tO #[])::
 (nat_lit 139,cO "what_fits" 354 98 2 134 (.ref 136) (.ref 137) 138 359)::
 (nat_lit 140,fD "what_fits" zdI "stuckwires.answers" 350 139)::
 (nat_lit 141,tO #[])::
 (nat_lit 143,tO #[.str "works" 365,.str "answers" 366,.str "row" 367,.str "outputs" 368,.str "left" 369])::
 (nat_lit 144,tO #[])::
 (nat_lit 146,cO "seen_of_fitting" 362 100 2 141 (.ref 143) (.ref 144) 145 370)::
 (nat_lit 147,fD "seen_of_fitting" zbK "stuckwires.answers" 350 146)::
 (nat_lit 148,tO #[])::
 (nat_lit 150,tO #[.str "works" 376,.str "left" 377])::
 (nat_lit 151,tO #[])::
 (nat_lit 153,cO "seen_of_all" 373 107 1 148 (.ref 150) (.ref 151) 152 378)::
 (nat_lit 154,fD "seen_of_all" zcv "stuckwires.answers" 350 153)::
 (nat_lit 155,tO #[])::
 (nat_lit 157,tO #[.str "row" 384,.str "number" 385,.str "worth" 386])::
 (nat_lit 158,tO #[])::
 (nat_lit 160,cO "row_number" 381 111 1 155 (.ref 157) (.ref 158) 159 387)::
 (nat_lit 161,fD "row_number" zc3 "stuckwires.answers" 350 160)::
 (nat_lit 162,tO #[])::
 (nat_lit 165,cO "left_behind" 390 116 3 162 .none .none 164 393)::
 (nat_lit 166,fD "left_behind" zcx "stuckwires.answers" 350 165)::
 (nat_lit 167,tO #[.str "and" 398,.str "or" 399,.str "odd" 400])::
 (nat_lit 168,tO #[])::
 (nat_lit 170,tO #[.str "works" 405,.str "faults" 406,.str "paper" 407])::
 (nat_lit 171,tO #[])::
 (nat_lit 173,cO "paper_shows" 402 120 3 168 (.ref 170) (.ref 171) 172 408)::
 (nat_lit 174,fD "paper_shows" zcA "stuckwires.papers" 396 173)::
 (nat_lit 175,tO #[])::
 (nat_lit 177,tO #[.str "works" 414,.str "stuck" 415,.str "known" 416,.str "paper" 417,.str "place" 418,.str "low" 419,.str "high" 420])::
 (nat_lit 178,tO #[])::
 (nat_lit 180,cO "is_let_by" 411 122 4 175 (.ref 177) (.ref 178) 179 421)::
 (nat_lit 181,fD "is_let_by" zdE "stuckwires.papers" 396 180)::
 (nat_lit 182,tO #[])::
 (nat_lit 185,cO "every_pairs" 424 131 3 182 .none .none 184 427)::
 (nat_lit 186,fD "every_pairs" zcE "stuckwires.papers" 396 185)::
 (nat_lit 187,tO #[])::
 (nat_lit 189,tO #[.str "worth" 433])::
 (nat_lit 190,tO #[])::
 (nat_lit 192,cO "input_pairs" 430 140 1 187 (.ref 189) (.ref 190) 191 434)::
 (nat_lit 193,fD "input_pairs" zcy "stuckwires.papers" 396 192)::
 (nat_lit 194,tO #[])::
 (nat_lit 197,cO "leg_pairs" 437 144 3 194 .none .none 196 440)::
 (nat_lit 198,fD "leg_pairs" zdK "stuckwires.papers" 396 197)::
 (nat_lit 199,tO #[])::
 (nat_lit 202,cO "with_stuck" 443 146 3 199 .none .none 201 446)::
 (nat_lit 203,fD "with_stuck" zcX "stuckwires.papers" 396 202)::
 (nat_lit 204,tO #[])::
 (nat_lit 207,cO "gate_pairs" 449 150 2 204 .none .none 206 452)::
 (nat_lit 208,fD "gate_pairs" zcQ "stuckwires.papers" 396 207)::
 (nat_lit 209,tO #[])::
 (nat_lit 212,cO "every_choice" 455 155 1 209 .none .none 211 458)::
 (nat_lit 213,fD "every_choice" zci "stuckwires.papers" 396 212)::
 (nat_lit 214,tO #[])::
 (nat_lit 217,cO "chosen_pair" 461 163 2 214 .none .none 216 464)::
 (nat_lit 218,fD "chosen_pair" zcB "stuckwires.papers" 396 217)::
 (nat_lit 219,tO #[])::
 (nat_lit 222,cO "outputs_alike" 467 167 3 219 .none .none 221 470)::
 (nat_lit 223,fD "outputs_alike" zbY "stuckwires.papers" 396 222)::
 (nat_lit 224,tO #[])::
 (nat_lit 227,cO "are_alike" 473 170 1 224 .none .none 226 476)::
 (nat_lit 228,fD "are_alike" zdW "stuckwires.papers" 396 227)::
 (nat_lit 229,tO #[])::
 (nat_lit 231,tO #[.str "works" 484,.str "faults" 485])::
 (nat_lit 232,tO #[])::
 (nat_lit 234,cO "first_test" 481 173 2 229 (.ref 231) (.ref 232) 233 486)::
 (nat_lit 235,fD "first_test" zda "stuckwires.findings" 479 234)::
 (nat_lit 236,tO #[])::
 (nat_lit 238,tO #[.str "works" 492,.str "faults" 493,.str "stuck" 494,.str "row" 495])::
 (nat_lit 239,tO #[])::
 (nat_lit 241,cO "test_told" 489 175 2 236 (.ref 238) (.ref 239) 240 496)::
 (nat_lit 242,fD "test_told" zdL "stuckwires.findings" 479 241)::
 (nat_lit 243,tO #[])::
 (nat_lit 245,tO #[.str "works" 502,.str "stuck" 503,.str "known" 504,.str "ahead" 505,.str "low" 506,.str "high" 507])::
 (nat_lit 246,tO #[])::
 (nat_lit 248,cO "paper_behind" 499 181 3 243 (.ref 245) (.ref 246) 247 508)::
 (nat_lit 249,fD "paper_behind" zcj "stuckwires.findings" 479 248)::
 (nat_lit 250,tO #[])::
 (nat_lit 252,tO #[.str "works" 516,.str "faults" 517,.str "others" 518])::
 (nat_lit 253,tO #[])::
 (nat_lit 255,cO "parted_at" 513 189 3 250 (.ref 252) (.ref 253) 254 519)::
 (nat_lit 256,fD "parted_at" zdA "stuckwires.groups" 511 255)::
 (nat_lit 257,tO #[])::
 (nat_lit 259,tO #[.str "works" 525,.str "right" 526,.str "never_found" 527,.str "groups" 528,.str "fault" 529,.str "seen" 530])::
 (nat_lit 260,tO #[])::
 (nat_lit 262,cO "fault_groups" 522 191 1 257 (.ref 259) (.ref 260) 261 531)::
 (nat_lit 263,fD "fault_groups" zck "stuckwires.groups" 511 262)::
 (nat_lit 264,tO #[])::
 (nat_lit 266,tO #[.str "script" 539,.str "k" 540])::
 (nat_lit 267,tO #[])::
 (nat_lit 269,cO "_law_cell_at" 536 202 2 264 (.ref 266) (.ref 267) 268 541)::
 (nat_lit 270,fD "_law_cell_at" zcF "law_stuckwires_k90_whole_answers_and_groups" 534 269)::
 (nat_lit 271,tO #[])::
 (nat_lit 273,tO #[.str "cell" 547,.str "k" 548,.str "number" 549])::
 (nat_lit 274,tO #[])::
 (nat_lit 276,cO "_law_stir" 544 206 2 271 (.ref 273) (.ref 274) 275 550)::
 (nat_lit 277,fD "_law_stir" zeo "law_stuckwires_k90_whole_answers_and_groups" 534 276)::
 (nat_lit 278,tO #[])::
 (nat_lit 280,tO #[.str "cell" 556,.str "k" 557,.str "many" 558])::
 (nat_lit 281,tO #[])::
 (nat_lit 283,cO "_law_digit" 553 209 3 278 (.ref 280) (.ref 281) 282 559)::
 (nat_lit 284,fD "_law_digit" zdJ "law_stuckwires_k90_whole_answers_and_groups" 534 283)::
 (nat_lit 285,tO #[])::
 (nat_lit 288,cO "_law_gate" 562 213 2 285 .none .none 287 565)::
 (nat_lit 289,fD "_law_gate" zer "law_stuckwires_k90_whole_answers_and_groups" 534 288)::
 (nat_lit 290,tO #[])::
 (nat_lit 292,tO #[.str "script" 571,.str "most_inputs" 572,.str "most_gates" 573,.str "head" 574,.str "inputs" 575,.str "gates" 576,.str "k" 577,.str "wires" 578,.str "outputs" 579])::
 (nat_lit 293,tO #[])::
 (nat_lit 295,cO "_law_works" 568 217 3 290 (.ref 292) (.ref 293) 294 580)::
 (nat_lit 296,fD "_law_works" zdM "law_stuckwires_k90_whole_answers_and_groups" 534 295)::
 (nat_lit 297,tO #[])::
 (nat_lit 299,tO #[.str "inputs" 586,.str "found" 587,.str "k" 588])::
 (nat_lit 300,tO #[])::
 (nat_lit 302,cO "_law_rows" 583 228 1 297 (.ref 299) (.ref 300) 301 589)::
 (nat_lit 303,fD "_law_rows" zet "law_stuckwires_k90_whole_answers_and_groups" 534 302)::
 (nat_lit 304,tO #[])::
 (nat_lit 306,tO #[.str "rows" 595,.str "found" 596,.str "row" 597])::
 (nat_lit 307,tO #[])::
 (nat_lit 309,cO "_law_longer" 592 233 1 304 (.ref 306) (.ref 307) 308 598)::
 (nat_lit 310,fD "_law_longer" zc5 "law_stuckwires_k90_whole_answers_and_groups" 534 309)::
 (nat_lit 311,tO #[])::
 (nat_lit 313,tO #[.str "kind" 604,.str "legs" 605])::
 (nat_lit 314,tO #[])::
 (nat_lit 316,cO "_law_worth" 601 238 2 311 (.ref 313) (.ref 314) 315 606)::
 (nat_lit 317,fD "_law_worth" zdR "law_stuckwires_k90_whole_answers_and_groups" 534 316)::
 (nat_lit 318,tO #[])::
 (nat_lit 321,cO "_law_stuck" 609 250 3 318 .none .none 320 612)::
 (nat_lit 322,fD "_law_stuck" zdX "law_stuckwires_k90_whole_answers_and_groups" 534 321)::
 (nat_lit 323,tO #[])::
 (nat_lit 325,tO #[.str "works" 618,.str "inputs" 619,.str "gates" 620,.str "outputs" 621,.str "found" 622,.str "wire" 623,.str "number" 624,.str "place" 625])::
 (nat_lit 326,tO #[])::
 (nat_lit 328,cO "_law_faults" 615 268 1 323 (.ref 325) (.ref 326) 327 626)::
 (nat_lit 329,fD "_law_faults" zcS "law_stuckwires_k90_whole_answers_and_groups" 534 328)::
 (nat_lit 330,tO #[])::
 (nat_lit 332,tO #[.str "rows" 632,.str "one" 633,.str "other" 634,.str "k" 635])::
 (nat_lit 333,tO #[])::
 (nat_lit 335,cO "_law_first" 629 277 3 330 (.ref 332) (.ref 333) 334 636)::
 (nat_lit 336,fD "_law_first" zdH "law_stuckwires_k90_whole_answers_and_groups" 534 335)::
 (nat_lit 337,tO #[])::
 (nat_lit 340,cO "_law_groups" 639 282 3 337 .none .none 339 642)::
 (nat_lit 341,fD "_law_groups" zcU "law_stuckwires_k90_whole_answers_and_groups" 534 340)::
 (nat_lit 342,tO #[])::
 (nat_lit 345,cO "law" 645 292 1 342 .none .none 344 648)::
 (nat_lit 346,fD "law" zi6 "law_stuckwires_k90_whole_answers_and_groups" 534 345)::[]
def zi8:List Addr:=[2,3,15,22,23,24,25,28,35,36,37,40,47,48,49,52,55,56,57,60,61,62,63,65,66,68,69,70,73,74,75,77,78,80,81,82,83,86,87,88,91,92,93,94,97,98,99,102,103,104,107,108,109,112,113,114,116,117,119,120,121,123,124,126,127,128,131,132,133,134,136,137,139,140,141,143,144,146,147,148,150,151,153,154,155,157,158,160,161,162,165,166,167,168,170,171,173,174,175,177,178,180,181,182,185,186,187,189,190,192,193,194,197,198,199,202,203,204,207,208,209,212,213,214,217,218,219,222,223,224,227,228,229,231,232,234,235,236,238,239,241,242,243,245,246,248,249,250,252,253,255,256,257,259,260,262,263,264,266,267,269,270,271,273,274,276,277,278,280,281,283,284,285,288,289,290,292,293,295,296,297,299,300,302,303,304,306,307,309,310,311,313,314,316,317,318,321,322,323,325,326,328,329,330,332,333,335,336,337,340,341,342,345,346]
noncomputable def view:Program:={jX with main:={jX.main with body:=[1,2,3,5,6,9,10,12,15,16,17,18,19,20,22,23,24,25,26,27,29,30,31,32,33,34,35,36,37,38,39,40,42,43,44,46,47,49,50,51,52,53,54,55,56,57,58,59,60,61].map top}}
end My
section
open PySem PySem.W PyProof.Rows
set_option maxRecDepth 100000 in
set_option maxHeartbeats 0 in
theorem My.hl0:PySem.W.LeftO qW.row.prog My.view ["gate_worth","worths_with","outputs_with"] (fun s=>xlAt My.view [] s && recOk (RowW.records (OpenRow.toRowW qW.row)) s) (Hook.obs (kHook My.part My.zi8 (fun _=>by kernel_rfl))) (Hook.val (kHook My.part My.zi8 (fun _=>by kernel_rfl))) 4366:=by intro w;kernel_rfl
end
namespace L2
open PySem PySem.Spec PyProof.Rows
noncomputable abbrev Key:=Sum Int Str
noncomputable def zma:Key→Value→Bool
 | .inl k,v=>Value.isInt k v
 | .inr x,v=>Value.isStrOf x v
noncomputable def keyH (w:World):Key→Int
 | .inl k=>hashInt k
 | .inr x=>hashStr w x
theorem zbp:∀ {k:Key} {v:Value},zma k v=true→(∃ i t,k=Sum.inl i∧v=Value.int i t)∨(∃ x t,k=Sum.inr x∧v=Value.str x t)
 | .inl i,v,h=>by
  obtain ⟨t,e⟩:=yaz (k:=i) (v:=v) h
  exact .inl ⟨i,t,rfl,e⟩
 | .inr x,v,h=>by
  obtain ⟨t,e⟩:=Value.isStrOf_shape (x:=x) (v:=v) h
  exact .inr ⟨x,t,rfl,e⟩
theorem zny (i:Int)(t:Tok):zma (.inl i) (.int i t)=true:=by simp [zma,Value.isInt]
theorem zm1 (x:Str)(t:Tok):zma (.inr x) (.str x t)=true:=by simp [zma,Value.isStrOf]
theorem key_ll (a b:Int):decide ((Sum.inl a:Key)=Sum.inl b)=(a==b):=by
 by_cases e:a=b
 ·subst e;simp
 ·have h:¬(Sum.inl a:Key)=Sum.inl b:=fun q=>e (ybf q)
  rw [decide_eq_false h]
  exact (beq_eq_false_iff_ne.mpr e).symm
theorem key_rr (a b:Str):decide ((Sum.inr a:Key)=Sum.inr b)=decide (a=b):=by
 by_cases e:a=b
 ·subst e;simp
 ·have h:¬(Sum.inr a:Key)=Sum.inr b:=fun q=>e (Sum.inr.inj q)
  rw [decide_eq_false h,decide_eq_false e]
theorem key_lr (a:Int)(b:Str):decide ((Sum.inl a:Key)=Sum.inr b)=false:=decide_eq_false (fun q=>nomatch q)
theorem key_rl (a:Str)(b:Int):decide ((Sum.inr a:Key)=Sum.inl b)=false:=decide_eq_false (fun q=>nomatch q)
noncomputable def zaw (prog:Program) (w:World):PySem.KeyKind prog w Key where
 is:=zma
 hash:=keyH w
 inj:=fun v a b ha hb=>by
  rcases zbp ha with ⟨i,t,rfl,rfl⟩ | ⟨x,t,rfl,rfl⟩
  ·rcases zbp hb with ⟨j,u,rfl,e⟩ | ⟨y,u,rfl,e⟩
   ·injection e with e1 _;rw [e1]
   ·exact nomatch e
  ·rcases zbp hb with ⟨j,u,rfl,e⟩ | ⟨y,u,rfl,e⟩
   ·exact nomatch e
   ·injection e with e1 _;rw [e1]
 byValue:=fun k v h=>by
  rcases zbp h with ⟨i,t,rfl,rfl⟩ | ⟨x,t,rfl,rfl⟩ <;> rfl
 pyHash:=fun hv h=>by
  rcases zbp hv with ⟨i,t,rfl,rfl⟩ | ⟨x,t,rfl,rfl⟩
  ·exact wpAny_pyHash_int h
  ·exact wpAny_pyHash_str h
 eqBool:=fun hu hv h=>by
  rcases zbp hu with ⟨i,t,rfl,rfl⟩ | ⟨x,t,rfl,rfl⟩
  ·rcases zbp hv with ⟨j,u,rfl,rfl⟩ | ⟨y,u,rfl,rfl⟩
   ·rw [key_ll] at h;exact wpAny_eqBool_int h
   ·rw [key_lr] at h;exact ybL i t y u _ _ _ _ h
  ·rcases zbp hv with ⟨j,u,rfl,rfl⟩ | ⟨y,u,rfl,rfl⟩
   ·rw [key_rl] at h;exact ybM x t j u _ _ _ _ h
   ·rw [key_rr] at h;exact wpAny_eqBool_str h
 «strs» :=fun k x t v h=>by
  rcases zbp h with ⟨i,u,rfl,e⟩ | ⟨y,u,rfl,e⟩
  ·exact nomatch e
  ·injection e with e1 _
   subst e1
   cases v <;> rfl
theorem zkA (prog:Program)(w:World)(i:Int)(t:Tok):(zaw prog w).is (.inl i) (.int i t)=true:=zny i t
theorem zkQ (prog:Program)(w:World)(x:Str)(t:Tok):(zaw prog w).is (.inr x) (.str x t)=true:=zm1 x t
inductive V where
 | non | bl (b:Bool) | int (i:Int) | str (x:Str) | byt (b:Array UInt8) | flt (b:UInt64) | ref (a:Addr) | ty (n:String)
 deriving DecidableEq
noncomputable def RelV:V→Value→Prop
 | .non,u=>u=Value.none
 | .bl b,u=>u=Value.bool b
 | .int i,u=>∃ t,u=Value.int i t
 | .str x,u=>∃ t,u=Value.str x t
 | .byt b,u=>∃ t,u=Value.bytes b t
 | .flt b,u=>∃ t,u=Value.float b t
 | .ref a,u=>u=Value.ref a
 | .ty n,u=>u=Value.type n
noncomputable abbrev Vals:List V→List Value→Prop:=Paired RelV
theorem Vals.length {xs:List V}{us:List Value}(r:Vals xs us):xs.length=us.length:=qI r
theorem Vals.get:∀ {xs:List V} {us:List Value} {i:Nat} {x:V},Vals xs us→xs[i]? =some x→∃ u,us[i]? =some u∧RelV x u
 | _,_,_,_,.nil,e=>by simp at e
 | _,_,0,_,.cons r _,e=>by simp at e;subst e;exact ⟨_,rfl,r⟩
 | _,_,i+1,x,.cons _ t,e=>by
  obtain ⟨u,h1,h2⟩:=Vals.get (i:=i) (x:=x) t (by simpa using e)
  exact ⟨u,by simpa using h1,h2⟩
theorem Vals.set {x:V}{u:Value}(r:RelV x u):∀ {xs:List V} {us:List Value} (i:Nat),Vals xs us→Vals (xs.set i x) (us.set i u)
 | _,_,_,.nil=>.nil
 | _,_,0,.cons _ t=>.cons r t
 | _,_,i+1,.cons q t=>.cons q (Vals.set r i t)
theorem Vals.append:∀ {xs ys:List V} {us ws:List Value},Vals xs us→Vals ys ws→Vals (xs++ys) (us++ws)
 | _,_,_,_,.nil,s=>s
 | _,_,_,_,.cons r t,s=>.cons r (Vals.append t s)
theorem Vals.take:∀ {xs:List V} {us:List Value} (n:Nat),Vals xs us→Vals (xs.take n) (us.take n)
 | _,_,0,_=>.nil
 | _,_,_+1,.nil=>.nil
 | _,_,n+1,.cons r t=>.cons r (Vals.take n t)
theorem Vals.drop:∀ {xs:List V} {us:List Value} (n:Nat),Vals xs us→Vals (xs.drop n) (us.drop n)
 | _,_,0,r=>r
 | _,_,_+1,.nil=>.nil
 | _,_,n+1,.cons _ t=>Vals.drop n t
noncomputable def RelO:Option V→Option Value→Prop
 | some v,some u=>RelV v u
 | none,none=>True
 | _,_=>False
noncomputable def KV {κ :Type}:List (κ×V)→List (κ×Value)→Prop:=Paired fun (p: κ×V) (q: κ×Value)=>p.1=q.1∧RelV p.2 q.2
noncomputable def kV:Key→V
 | .inl i=>.int i
 | .inr x=>.str x
inductive HO where
  | lst (xs:List V)
  | tup (xs:List V)
  | dK (kvs:List (Key×V)) | dT (kvs:List (List Key×V))
  | set (S:Int→Bool) (n:Nat)
  | ins (C dx:Addr) (fs:List (Str×V))
  | own (x:Addr)
  | xd (fs:List (Str×V))
  | met (f x:Addr)
  | rng (lo hi:Int)
  | frz (o:Obj) (u:HO)
  | tbl (ps:Array Value)
  | ext (φ :Heap→Prop)
noncomputable abbrev Hp:=Addr→Option HO
noncomputable def upd (H:Hp) (a:Addr) (o:HO):Hp:=fun b=>if b=a then some o else H b
theorem zab {H:Hp}{a:Addr}{o:HO}:upd H a o a=some o:=by unfold upd;rw [if_pos rfl]
theorem zai {H:Hp}{a b:Addr}{o:HO}(h:b≠a):upd H a o b=H b:=by unfold upd;rw [if_neg h]
theorem zmm {H:Hp}{a b:Addr}{o u:HO}(h:H a=some o)(h':H b=some u)(d:o≠u):a≠b:=by
 intro e;subst e;rw [h] at h';exact d (qF h')
theorem zam {H:Hp}{a b:Addr}{o:HO}(h:H a=some o)(h':H b=none):a≠b:=by
 intro e;subst e;rw [h] at h';cases h'
noncomputable def RdT (H:Hp) (b:Addr) (xs:List V):Prop:=H b=some (.tup xs)∨∃ o,H b=some (.frz o (.tup xs))
theorem RdT.put {H:Hp}{a c:Addr}{o:HO}{xs:List V}(q:RdT H c xs)(n:c≠a):RdT (upd H a o) c xs:=by
 rcases q with q | ⟨u,q⟩
 ·exact .inl (by rw [zai n];exact q)
 ·exact .inr ⟨u,by rw [zai n];exact q⟩
theorem RdT.upd {H:Hp}{a c:Addr}{o:HO}{xs:List V}(q:RdT H c xs)(n:H a=none):RdT (L2.upd H a o) c xs:=by
 rcases q with q | ⟨u,q⟩
 ·exact RdT.put (.inl q) (zam q n)
 ·exact RdT.put (.inr ⟨u,q⟩) (zam q n)
theorem RdT.same {H H':Hp}{c:Addr}{xs:List V}(q:RdT H c xs)(s:∀ b o,H b=some o→H' b=some o):RdT H' c xs:=by
 rcases q with q | ⟨u,q⟩
 ·exact .inl (s _ _ q)
 ·exact .inr ⟨u,s _ _ q⟩
theorem RdT.write {H:Hp}{D c:Addr}{l:List V}{o:HO}{xs:List V}(q:RdT H c xs)(hD:H D=some (.lst l)):RdT (L2.upd H D o) c xs:=by
 rcases q with q | ⟨u,q⟩
 ·exact RdT.put (.inl q) (zmm q hD (fun z=>nomatch z))
 ·exact RdT.put (.inr ⟨u,q⟩) (zmm q hD (fun z=>nomatch z))
theorem RdT.keep {H H':Hp}{c:Addr}{xs:List V}(q:RdT H c xs)(k:∀ o,H c=some o→(∃ ys,o= .tup ys∨∃ u,o= .frz u (.tup ys))→H' c=some o):RdT H' c xs:=by
 rcases q with q | ⟨u,q⟩
 ·exact .inl (k _ q ⟨xs,.inl rfl⟩)
 ·exact .inr ⟨u,k _ q ⟨xs,.inr ⟨u,rfl⟩⟩⟩
section
variable (P:Program) (w:World)
noncomputable def zbM (H:Hp) (h:Heap) (a:Addr):HO→Prop
 | .lst xs=>xs.length≤yM∧∃ (its:List Value) (n:Nat),Vals xs its∧h.get? a=some {cls:=.type "list",data:=.seq its.toArray n}
 | .tup xs=>xs.length≤yM∧∃ its:List Value,Vals xs its∧IsTup h a its.toArray
 | .dK kvs=>kvs.length≤yM∧(a==sysModules)=false∧∃ vs,KV kvs vs∧h.DictOf (zaw P w) a vs
 | .dT kvs=>kvs.length≤yM∧(a==sysModules)=false∧∃ xs:List (List Key×Addr×Value),
   Paired (fun (p:List Key×V) (q:List Key×Addr×Value)=>p.1=q.1∧RdT H q.2.1 (p.1.map kV)∧RelV p.2 q.2.2) kvs xs∧
   ∃ o es ep,h.get? a=some o∧o.ExactDict∧o.data= .dict es ep∧es.toList=xs.map (entryOfKey (tupleKind (zaw P w)))∧(xs.map (·.1)).Nodup
 | .set S n=>h.SetOf (intKind P w) a S n
 | .ins C dx fs=>H dx=some (.own a)∧fs.length≤1000∧dx≠a∧h.get? a=some (PySem.W.instObj C dx)∧
   ∃ mA,h.Ns1 dx mA∧(∀ f,RelO (fs.lookup f) (mA f))∧PySem.Within mA (fs.map (·.1))
 | .own _=>∃ o,h.get? a=some o
 | .xd fs=>∃ mA,h.Ns1 a mA∧∀ f,RelO (fs.lookup f) (mA f)
 | .rng lo hi=>∃ t u v,h.get? a=some {cls:=.type "range",data:=.fields #[.int lo t,.int hi u,.int 1 v]}
 | .frz o u=>h.get? a=some o∧zbM H h a u
 | .tbl ps=>h.get? a=some {cls:=.none,data:=.fields ps}
 | .met f x=>h.get? a=some (PySem.W.methodObj (.ref f) (.ref x))
 | .ext φ =>φ h∧(∃ o,h.get? a=some o)∧∀ h1 h2:Heap,φ h1→(∀ o,h1.get? a=some o→h2.get? a=some o)→φ h2
noncomputable def HOk (H:Hp) (h:Heap):Prop:=∀ a o,H a=some o→zbM P w H h a o
end
section
variable {P:Program} {w:World} {H H':Hp} {h h':Heap} {a:Addr} {o:HO}
theorem zbM.lt (x:zbM P w H h a o):a < h.objs.size:=by
 cases o with
 | lst xs=>obtain ⟨_,_,_,_,e⟩:=x;exact yV e
 | tup xs=>obtain ⟨_,_,_,p⟩:=x;exact p.lt
 | dK kvs=>obtain ⟨_,_,_,_,o,_,_,e,_⟩:=x;exact yV e
 | dT kvs=>obtain ⟨_,_,_,_,o,_,_,e,_⟩:=x;exact yV e
 | set S n=>obtain ⟨o,_,_,_,e,_⟩:=x;exact yV e
 | ins C dx fs=>obtain ⟨_,_,_,e,_⟩:=x;exact yV e
 | own y=>obtain ⟨_,e⟩:=x;exact yV e
 | xd fs=>obtain ⟨_,⟨_,_,_,e,_⟩,_⟩:=x;exact yV e
 | rng lo hi=>obtain ⟨_,_,_,e⟩:=x;exact yV e
 | frz ob u=>obtain ⟨e,_⟩:=x;exact yV e
 | tbl ps=>exact yV (show h.get? a=some _ from x)
 | met f y=>exact yV (show h.get? a=some _ from x)
 | ext φ =>obtain ⟨_,⟨_,e⟩,_⟩:=x;exact yV e
theorem Paired.mapP {α β :Type}{F G: α→β→Prop}:∀ {l₁ :List α} {l₂ :List β},Paired F l₁ l₂→(∀ a b,F a b→G a b)→Paired G l₁ l₂
 | _,_,.nil,_=>.nil
 | _,_,.cons r t,f=>.cons (f _ _ r) (Paired.mapP t f)
theorem zbM.stay (x:zbM P w H h a o)(k:∀ b u,(b=a∨H b=some (.own a))→h.get? b=some u→h'.get? b=some u)
  (ho:∀ b,H b=some (.own a)→H' b=some (.own a)) (ht:∀ b xs,RdT H b xs→RdT H' b xs):zbM P w H' h' a o:=by
 induction o with
 | lst xs=>obtain ⟨z,its,n,r,e⟩:=x;exact ⟨z,its,n,r,k _ _ (.inl rfl) e⟩
 | tup xs=>obtain ⟨z,its,r,ob,e,c⟩:=x;exact ⟨z,its,r,ob,k _ _ (.inl rfl) e,c⟩
 | dK kvs=>obtain ⟨z,y,vs,r,ob,es,ep,e,c⟩:=x;exact ⟨z,y,vs,r,ob,es,ep,k _ _ (.inl rfl) e,c⟩
 | dT kvs=>
  obtain ⟨z,y,xs,r,ob,es,ep,e,c⟩:=x
  exact ⟨z,y,xs,Paired.mapP r fun p q z=>⟨z.1,ht _ _ z.2.1,z.2.2⟩,ob,es,ep,k _ _ (.inl rfl) e,c⟩
 | set S n=>obtain ⟨ob,es,ep,t,e,c⟩:=x;exact ⟨ob,es,ep,t,k _ _ (.inl rfl) e,c⟩
 | ins C dx fs=>
  obtain ⟨d,z,ne,e,mA,⟨od,es,ep,e2,c⟩,r⟩:=x
  exact ⟨ho _ d,z,ne,k _ _ (.inl rfl) e,mA,⟨od,es,ep,k _ _ (.inr d) e2,c⟩,r⟩
 | own y=>obtain ⟨ob,e⟩:=x;exact ⟨ob,k _ _ (.inl rfl) e⟩
 | xd fs=>obtain ⟨mA,⟨od,es,ep,e,c⟩,r⟩:=x;exact ⟨mA,⟨od,es,ep,k _ _ (.inl rfl) e,c⟩,r⟩
 | rng lo hi=>obtain ⟨t,u,v,e⟩:=x;exact ⟨t,u,v,k _ _ (.inl rfl) e⟩
 | frz ob u ih=>obtain ⟨e,q⟩:=x;exact ⟨k _ _ (.inl rfl) e,ih q⟩
 | tbl ps=>
  have e:h.get? a=some {cls:=.none,data:=.fields ps}:=x
  show h'.get? a=some {cls:=.none,data:=.fields ps}
  exact k a _ (.inl rfl) e
 | met f y=>
  have e:h.get? a=some (PySem.W.methodObj (.ref f) (.ref y)):=x
  show h'.get? a=some (PySem.W.methodObj (.ref f) (.ref y))
  exact k a _ (.inl rfl) e
 | ext φ =>obtain ⟨p,⟨o,e⟩,st⟩:=x;exact ⟨st _ _ p fun o q=>k _ _ (.inl rfl) q,⟨o,k _ _ (.inl rfl) e⟩,st⟩
theorem HOk.lt (x:HOk P w H h)(e:H a=some o):a < h.objs.size:=(x a o e).lt
theorem HOk.fresh (x:HOk P w H h)(e:h.objs.size≤a):H a=none:=by
 cases q:H a with
 | none=>rfl
 | some u=>exact absurd (qN (x.lt q) e) (vJ _)
theorem HOk.kept (x:HOk P w H h)(k:∀ b u,h.get? b=some u→h'.get? b=some u):HOk P w H h':=fun a o e=>
 (x a o e).stay (fun b u _ q=>k b u q) (fun _ q=>q) fun _ _ q=>q
theorem HOk.laid (x:HOk P w H h)(k:∀ b u,h.get? b=some u→h'.get? b=some u)(hp:h.objs.size≤a)(new:zbM P w (upd H a o) h' a o):HOk P w (upd H a o) h':=fun b u e=>by
 have hn:=x.fresh hp
 by_cases hb:b=a
 ·subst hb;rw [zab] at e;cases e;exact new
 ·rw [zai hb] at e
  exact (x b u e).stay (fun c v _ q=>k c v q) (fun c q=>by rw [zai (zam q hn)];exact q) fun c xs q=>q.upd hn
end
noncomputable def Rd (H:Hp) (a:Addr) (u:HO):Prop:=H a=some u∨∃ o,H a=some (.frz o u)
theorem Rd.ok {P:Program}{w:World}{H:Hp}{h:Heap}{a:Addr}{u:HO}(r:Rd H a u)(x:HOk P w H h):zbM P w H h a u:=by
 rcases r with r | ⟨o,r⟩
 ·exact x a u r
 ·obtain ⟨_,q⟩:=x a _ r
  exact q
noncomputable def Mut:Option HO→Prop
 | some (.lst _)=>True
 | some (.dK _)=>True
 | some (.dT _)=>True
 | some (.set _ _)=>True
 | some (.ins _ _ _)=>True
 | some (.ext _)=>True
 | _=>False
section
variable {P:Program} {w:World} {H:Hp} {h h':Heap} {x e:Addr} {o':HO}
theorem HOk.write (ok:HOk P w H h)(mu:Mut (H x))(he:e=x∨H e=some (.own x))(k:∀ b u,b≠e→h.get? b=some u→h'.get? b=some u)(heo:∃ u,h'.get? e=some u)
  (new:zbM P w (upd H x o') h' x o'):HOk P w (upd H x o') h':=fun b u q=>by
 have nown:∀ c y,H c=some (.own y)→c≠x:=fun c y r z=>by subst z;rw [r] at mu;exact mu
 have ntup:∀ c xs,RdT H c xs→c≠x:=fun c xs r z=>by subst z;rcases r with r | ⟨_,r⟩ <;> (rw [r] at mu;exact mu)
 by_cases hb:b=x
 ·subst hb;rw [zab] at q;cases q;exact new
 ·rw [zai hb] at q
  by_cases hbe:b=e
  ·have q':H b=some (.own x):=by
    rcases he with z | z
    ·exact absurd (hbe.trans z) hb
    ·rw [hbe];exact z
   rw [q] at q';cases q'
   obtain ⟨v,hv⟩:=heo
   exact ⟨v,by rw [hbe];exact hv⟩
  ·refine (ok b u q).stay (fun c v hc r=>k c v ?_ r) (fun c r=>by rw [zai (nown c b r)];exact r) fun c xs r=>r.put (ntup c xs r)
   rcases hc with rfl | hc
   ·exact hbe
   ·rintro rfl
    rcases he with z | z
    ·exact nown c b hc z
    ·rw [hc] at z;cases z;exact hb rfl
end
structure Un (fs ex:List Addr) (H H':Hp) (h h':Heap):Prop where
 keep:∀ b o,h.get? b=some o→H b=none→b∉fs→b∉ex→h'.get? b=some o
 slot:∀ b o,h.get? b=some o→H b=none→b∈fs→b∉ex→∃ sl,h'.get? b=some {o with slots:=sl}
 free:∀ b o,h.get? b=some o→H b=none→b∉ex→H' b=none
 there:∀ b o,h.get? b=some o→b∉ex→∃ o',h'.get? b=some o'
 tups:∀ b xs,H b=some (.tup xs)→H' b=some (.tup xs)
 frzs:∀ b o u,H b=some (.frz o u)→H' b=some (.frz o u)
 tbls:∀ b ps,H b=some (.tbl ps)→∃ more,H' b=some (.tbl (ps++more))
section
variable {fs fs' ex ex':List Addr} {H H1 H2:Hp} {h h1 h2 h':Heap} {a x e:Addr} {o:HO}
theorem Un.any (u:Un fs ex H H1 h h1){b:Addr}{ob:Obj}(q:h.get? b=some ob)(n:H b=none)(hx:b∉ex):∃ sl,h1.get? b=some {ob with slots:=sl}:=by
 by_cases hb:b∈fs
 ·exact u.slot b ob q n hb hx
 ·exact ⟨ob.slots,u.keep b ob q n hb hx⟩
theorem Un.kept (k:∀ b u,h.get? b=some u→h'.get? b=some u):Un fs ex H H h h':=
 ⟨fun b ob q _ _ _=>k b ob q,fun b ob q _ _ _=>⟨ob.slots,k b ob q⟩,fun _ _ _ n _=>n,fun b ob q _=>⟨ob,k b ob q⟩,fun _ _ q=>q,fun _ _ _ q=>q,fun _ ps q=>⟨#[],by rw [q];simp⟩⟩
theorem Un.refl:Un fs ex H H h h:=Un.kept fun _ _ q=>q
theorem Un.laid (k:∀ b u,h.get? b=some u→h'.get? b=some u)(hp:h.objs.size≤a)(hn:H a=none):Un fs ex H (upd H a o) h h' where
 keep:=fun b u q _ _ _=>k b u q
 slot:=fun b u q _ _ _=>⟨u.slots,k b u q⟩
 free:=fun b u q n _=>by rw [zai (qC (qN (yV q) hp))];exact n
 there:=fun b u q _=>⟨u,k b u q⟩
 tups:=fun b xs q=>by rw [zai (zam q hn)];exact q
 frzs:=fun b u xs q=>by rw [zai (zam q hn)];exact q
 tbls:=fun b ps q=>⟨#[],by rw [zai (zam q hn),q];simp⟩
theorem Un.write (mu:Mut (H x))(he:e=x∨H e=some (.own x))(k:∀ b u,b≠e→h.get? b=some u→h'.get? b=some u)(heo:∃ u,h'.get? e=some u):Un fs ex H (upd H x o) h h':=by
 have hx:∀ b,H b=none→b≠x:=fun b n z=>by subst z;rw [n] at mu;exact mu
 have hb:∀ b,H b=none→b≠e:=fun b n z=>by
  subst z
  rcases he with r | r
  ·exact hx b n r
  ·rw [n] at r;cases r
 have hm:∀ b u,H b=some u→¬Mut (some u)→b≠x:=fun b u q nm z=>by subst z;rw [q] at mu;exact nm mu
 refine ⟨fun b u q n _ _=>k b u (hb b n) q,fun b u q n _ _=>⟨u.slots,k b u (hb b n) q⟩,fun b u q n _=>by rw [zai (hx b n)];exact n,fun b u q _=>?_,
  fun b xs q=>by rw [zai (hm b _ q fun z=>z)];exact q,fun b u xs q=>by rw [zai (hm b _ q fun z=>z)];exact q,fun b ps q=>⟨#[],by rw [zai (hm b _ q fun z=>z),q];simp⟩⟩
 by_cases hbe:b=e
 ·subst hbe;exact heo
 ·exact ⟨u,k b u hbe q⟩
end
noncomputable def trk (h:Heap) (H:Hp):List Addr:=(xO h.objs.size).filter fun a=>(H a).isSome
noncomputable def hidT (h:Heap) (H:Hp):Heap:=PySem.W.hideAll h (trk h H)
theorem znT (h:Heap)(H:Hp):(hidT h H).objs.size=h.objs.size:=PySem.W.hideAll_size _ _
theorem zom {h:Heap}{H:Hp}{b:Addr}{o:Obj}(e:h.get? b=some o)(n:H b=none):(hidT h H).get? b=some o:=
 PySem.W.hideAll_get _ e fun hm=>by
  have q:(H b).isSome=true:=(vU.mp hm).2
  rw [n] at q;simp at q
theorem zpM {h:Heap}{H:Hp}{b:Addr}{o:Obj}(e:(hidT h H).get? b=some o):h.get? b=some o∧H b=none:=by
 have e':h.get? b=some o:=PySem.W.of_hideAll (trk h H) e
 refine ⟨e',?_⟩
 cases q:H b with
 | none=>rfl
 | some x=>
  have hm:b∈trk h H:=vU.mpr ⟨jY.mpr (yV e'),by simp [q]⟩
  have z:(hidT h H).get? b=none:=PySem.W.hideAll_none (trk h H) hm
  rw [z] at e;cases e
noncomputable def zqc (g h:Heap) (L:Addr):List (Addr×Obj):=(xO h.objs.size).filterMap fun a=>if a=L∨(g.get? a).isSome=true then none else (h.get? a).map fun o=>(a,o)
noncomputable def rest (g h:Heap) (L d:Addr):List (Addr×Obj):=(zqc g h L).filter fun p=>decide (p.1≠d)
structure Mod (K:PySem.W.Frag) (mg:Str→Option Value) (base:Heap):Prop where
 kin:K.In base
 glob:base.Ns jD mg
 blt:∃ mb,base.Ns builtinsNs mb∧∀ x:Str,x≠"__name__"→mb x=bootBuiltins x
 nolimit:base.NoLimit
structure Cx where
 prog:Program
 w:World
 K:PySem.W.Frag
 mg:Str→Option Value
 base:Heap
 A:Around
 N:List Str
 s₀ :Shared
 H₀ :Hp
 env:Env
 outer:List Env
 stack:List Env
 ex:List Addr
 fn:Str→Bool
 calm:Bool
 pn:List (Addr×Obj)
 xe:Value→Shared→Prop
noncomputable def frs (l:List Env):List Addr:=l.filterMap (·.frame)
noncomputable abbrev Cx.fs (X:Cx):List Addr:=frs X.outer
noncomputable def Vis (sc:Scope) (x:Str):Prop:=sc.names.lookup x=some .local∨sc.names.lookup x=some .cell∨sc.names.lookup x=some .free
noncomputable def Loc (sc:Scope) (x:Str):Prop:=sc.names.lookup x=some .local∨sc.names.lookup x=some .cell
noncomputable def Look (env:Env) (h:Heap) (m:Str→Option Value) (x:Str) (u:Value):Prop:=
 (env.kindOf x=some .local∧m x=some u)∨((env.kindOf x=some .cell∨env.kindOf x=some .free)∧∃ c,env.cells.lookup x=some c∧h.IsCell c (some u))
structure Cx.Ok (X:Cx):Prop where
 mod:Mod X.K X.mg X.base
 kind:X.env.scope.kind= .function
 glob:X.env.globals=jD
 blt:X.env.builtins=builtinsNs
 above:X.s₀.heap.objs.size≤X.env.locals
 inj:∀ x y c,X.env.cells.lookup x=some c→X.env.cells.lookup y=some c→x=y
 has:∀ x,(X.env.kindOf x=some .cell∨X.env.kindOf x=some .free)→∃ c,X.env.cells.lookup x=some c
 cab:∀ x c,X.fn x=true→X.env.cells.lookup x=some c→X.s₀.heap.objs.size≤c
 hd:X.calm=true→X.A.handled=none
 frames:X.A.frames=some X.stack
 stk:X.stack=X.outer∨(X.stack=X.env::X.outer∧X.env.frame=some X.env.locals)
 exf:∀ b∈X.ex,b≠X.env.locals∧∀ x c,X.env.cells.lookup x=some c→c≠b
 bs:∀ b o,X.base.get? b=some o→X.s₀.heap.get? b=some o∧X.H₀ b=none
 bsz:X.base.objs.size≤X.s₀.heap.objs.size
 noex:∀ b o,X.base.get? b=some o→b∉X.ex
 exfs:∀ b∈X.ex,b∉X.fs
 funs:X.s₀.heap.FunFrames X.base X.outer
 frf:∀ b∈X.fs,X.H₀ b=none
structure Inv (X:Cx) (pins:List (Addr×Obj)) (σ :List (Option V)) (H:Hp) (s:Shared):Prop where
 ok:X.Ok
 os:s.os=X.s₀.os
 bare:AllBare s.gens
 base:Un X.fs X.ex X.H₀ H X.s₀.heap s.heap
 loc:∃ m,s.heap.Ns X.env.locals m∧∀ (i:Nat) (x:Str) (v:V),X.N[i]? =some x→σ[i]? =some (some v)→Vis X.env.scope x→∃ u,RelV v u∧Look X.env s.heap m x u
 cell:∀ x c,X.env.cells.lookup x=some c→∃ v,s.heap.IsCell c v
 free:H X.env.locals=none
 freeC:∀ x c,X.env.cells.lookup x=some c→H c=none
 pin:∀ p∈X.pn++pins,s.heap.get? p.1=some p.2∧H p.1=none∧p.1≠X.env.locals∧p.1∉X.fs∧∀ v,p.2.data≠.cell v
 hok:HOk X.prog X.w H s.heap
 len: σ.length=X.N.length
section
variable {X:Cx} {pins:List (Addr×Obj)} {σ :List (Option V)} {H H':Hp} {s:Shared} {h':Heap}
theorem Cx.Ok.nofr (ok:X.Ok){b:Addr}{o:Obj}(e:X.base.get? b=some o):b∉X.fs:=fun hb=>by
 have:=(ok.funs.mem hb).1
 rw [e] at this;cases this
theorem Inv.bs (I:Inv X pins σ H s):∀ b o,X.base.get? b=some o→s.heap.get? b=some o∧H b=none:=fun b o e=>
 ⟨I.base.keep b o (I.ok.bs b o e).1 (I.ok.bs b o e).2 (I.ok.nofr e) (I.ok.noex b o e),I.base.free b o (I.ok.bs b o e).1 (I.ok.bs b o e).2 (I.ok.noex b o e)⟩
theorem Inv.bk (I:Inv X pins σ H s):∀ b o,X.base.get? b=some o→s.heap.get? b=some o:=fun b o e=>(I.bs b o e).1
theorem Inv.mod (I:Inv X pins σ H s):Mod X.K X.mg X.base:=I.ok.mod
theorem Inv.kIn (I:Inv X pins σ H s):X.K.In s.heap:=I.ok.mod.kin.keeps I.bk
theorem Inv.lt (I:Inv X pins σ H s):X.env.locals < s.heap.objs.size:=let ⟨_,hn,_⟩:=I.loc;hn.lt
theorem Inv.sz (I:Inv X pins σ H s):X.s₀.heap.objs.size≤s.heap.objs.size:=jB I.ok.above (yai I.lt)
theorem Inv.nofs (I:Inv X pins σ H s){a:Addr}(h:s.heap.objs.size≤a):a∉X.fs:=fun hb=>by
 obtain ⟨_,o,ho,_⟩:=I.ok.funs.mem hb
 exact absurd (qN (yV ho) (jB I.sz h)) (vJ _)
theorem Inv.cne (I:Inv X pins σ H s):∀ x c,X.env.cells.lookup x=some c→c≠X.env.locals:=fun x c e z=>by
 obtain ⟨v,o,ho,hd⟩:=I.cell x c e
 obtain ⟨m,⟨o',es,ep,ho',hd',_⟩,_⟩:=I.loc
 rw [z,ho'] at ho;cases ho;rw [hd'] at hd;cases hd
theorem Inv.funs (I:Inv X pins σ H s):s.heap.FunFrames X.base X.outer:=by
 have all:∀ (l:List Env),(∀ b∈frs l,b∈X.fs)→X.s₀.heap.FunFrames X.base l→s.heap.FunFrames X.base l:=by
  intro l
  induction l with
  | nil=>intro _ _;trivial
  | cons env r ih=>
   intro hs hl
   obtain ⟨hk,⟨L,o,hf,hn,ho,hd⟩,hr⟩:=hl
   have hL:L∈X.fs:=hs L (by unfold frs;rw [yaT,hf];exact xN)
   obtain ⟨sl,e⟩:=I.base.slot L o ho (I.ok.frf L hL) hL fun z=>I.ok.exfs L z hL
   exact ⟨hk,⟨L,_,hf,hn,e,hd⟩,ih (fun b hb=>hs b (by unfold frs;rw [yaT,hf];exact jU _ hb)) hr⟩
 exact all X.outer (fun _ hb=>hb) I.ok.funs
theorem Inv.stack (I:Inv X pins σ H s):s.heap.FunFrames X.base X.stack:=by
 rcases I.ok.stk with e | ⟨e,hf⟩
 ·rw [e];exact I.funs
 ·rw [e]
  obtain ⟨m,hn,_⟩:=I.loc
  refine .cons (by rw [I.ok.kind];decide) hf hn ?_ I.funs
  exact yaK (jB I.ok.bsz I.ok.above)
theorem Inv.stkSub (I:Inv X pins σ H s):∀ b∈frs X.stack,b∈X.env.locals::X.fs:=fun b hb=>by
 rcases I.ok.stk with e | ⟨e,hf⟩
 ·rw [e] at hb;exact jU _ hb
 ·rw [e] at hb
  unfold frs at hb
  rw [yaT,hf] at hb
  exact hb
theorem Inv.stkFree (I:Inv X pins σ H s):∀ b∈frs X.stack,H b=none:=fun b hb=>by
 rcases yR.mp (I.stkSub b hb) with e | hb
 ·rw [e];exact I.free
 ·obtain ⟨_,o,ho,_⟩:=I.ok.funs.mem hb
  exact I.base.free b o ho (I.ok.frf b hb) fun z=>I.ok.exfs b z hb
theorem Inv.step {g':Array GenState}{t':Nat}{d':Drawn}{ch:List Addr}(I:Inv X pins σ H s)
  (hch:∀ b∈ch,(b∈X.ex∨X.s₀.heap.objs.size≤b)∧b≠X.env.locals∧(∀ x c,X.env.cells.lookup x=some c→c≠b)∧∀ p∈X.pn++pins,p.1≠b)
  (keep:∀ b o,b≠X.env.locals→b∉X.fs→b∉ch→s.heap.get? b=some o→H b=none→h'.get? b=some o)
  (slot:∀ b o,b≠X.env.locals→b∈X.fs→b∉ch→s.heap.get? b=some o→H b=none→∃ sl,h'.get? b=some {o with slots:=sl}) (free:∀ b o,b∉ch→s.heap.get? b=some o→H b=none→H' b=none)
  (there:∀ b o,b∉ch→s.heap.get? b=some o→∃ o',h'.get? b=some o')
  (tups:∀ b xs,H b=some (.tup xs)→H' b=some (.tup xs)) (frzs:∀ b o u,H b=some (.frz o u)→H' b=some (.frz o u)) (tbls:∀ b ps,H b=some (.tbl ps)→∃ more,H' b=some (.tbl (ps++more)))
  (ns:∀ m,s.heap.Ns X.env.locals m→h'.Ns X.env.locals m) (hok:HOk X.prog X.w H' h') (hg:AllBare g'):
  Inv X pins σ H' {s with heap:=h',gens:=g',drawn:=d',toks:=t'}:=by
 have neL:∀ b o,X.s₀.heap.get? b=some o→b≠X.env.locals:=fun b o e=>qC (qN (yV e) I.ok.above)
 have neC:∀ b o,X.s₀.heap.get? b=some o→b∉X.ex→b∉ch:=fun b o e hx hb=>by
  rcases (hch b hb).1 with z | z
  ·exact hx z
  ·exact absurd (qN (yV e) z) (vJ _)
 have cellK:∀ x c,X.env.cells.lookup x=some c→∀ v,s.heap.IsCell c v→h'.IsCell c v:=fun x c e v ⟨o,ho,hd⟩=>by
  have nch:c∉ch:=fun z=>(hch c z).2.2.1 x c e rfl
  by_cases hc:c∈X.fs
  ·obtain ⟨sl,q⟩:=slot c o (I.cne x c e) hc nch ho (I.freeC x c e)
   exact ⟨_,q,hd⟩
  ·exact ⟨o,keep c o (I.cne x c e) hc nch ho (I.freeC x c e),hd⟩
 refine ⟨I.ok,I.os,hg,⟨fun b o e n hb hx=>?_,fun b o e n hb hx=>?_,fun b o e n hx=>?_,fun b o e hx=>?_,fun b xs e=>tups b xs (I.base.tups b xs e),fun b o xs e=>frzs b o xs (I.base.frzs b o xs e),fun b ps e=>?_⟩,?_,fun x c e=>?_,?_,fun x c e=>?_,fun p hp=>?_,hok,I.len⟩
 ·exact keep b o (neL b o e) hb (neC b o e hx) (I.base.keep b o e n hb hx) (I.base.free b o e n hx)
 ·obtain ⟨sl,e1⟩:=I.base.slot b o e n hb hx
  obtain ⟨sl',e2⟩:=slot b _ (neL b o e) hb (neC b o e hx) e1 (I.base.free b o e n hx)
  exact ⟨sl',e2⟩
 ·obtain ⟨o',e1⟩:=I.base.there b o e hx
  exact free b o' (neC b o e hx) e1 (I.base.free b o e n hx)
 ·obtain ⟨o',e1⟩:=I.base.there b o e hx
  exact there b o' (neC b o e hx) e1
 ·obtain ⟨m1,e1⟩:=I.base.tbls b ps e
  obtain ⟨m2,e2⟩:=tbls b _ e1
  exact ⟨m1++m2,by rw [e2,Array.append_assoc]⟩
 ·obtain ⟨m,hn,hl⟩:=I.loc
  refine ⟨m,ns m hn,fun i x v e1 e2 e3=>?_⟩
  obtain ⟨u,r,l⟩:=hl i x v e1 e2 e3
  refine ⟨u,r,?_⟩
  rcases l with l | ⟨k,c,e,z⟩
  ·exact .inl l
  ·exact .inr ⟨k,c,e,cellK x c e _ z⟩
 ·obtain ⟨v,z⟩:=I.cell x c e
  exact ⟨v,cellK x c e v z⟩
 ·obtain ⟨m,⟨o,_,_,ho,_⟩,_⟩:=I.loc
  exact free _ o (fun z=>(hch _ z).2.1 rfl) ho I.free
 ·obtain ⟨v,o,ho,hd⟩:=I.cell x c e
  exact free c o (fun z=>(hch c z).2.2.1 x c e rfl) ho (I.freeC x c e)
 ·obtain ⟨e,n,ne,nf,d⟩:=I.pin p hp
  have nch:p.1∉ch:=fun z=>(hch p.1 z).2.2.2 p hp rfl
  exact ⟨keep p.1 p.2 ne nf nch e n,free p.1 p.2 nch e n,ne,nf,d⟩
theorem Inv.un {t':Nat}(I:Inv X pins σ H s)(u:Un X.fs [] H H' s.heap h')(hok:HOk X.prog X.w H' h'):Inv X pins σ H' {s with heap:=h',toks:=t'}:=by
 obtain ⟨m,⟨o,es,ep,ho,r⟩,_⟩:=id I.loc
 obtain ⟨sl,hL⟩:=u.any ho I.free (by simp)
 exact I.step (g':=s.gens) (d':=s.drawn) (ch:=[]) (fun _ z=>nomatch z) (fun b o _ hb _ e n=>u.keep b o e n hb (by simp)) (fun b o _ hb _ e n=>u.slot b o e n hb (by simp)) (fun b o _ e n=>u.free b o e n (by simp)) (fun b o _ e=>u.there b o e (by simp)) u.tups u.frzs u.tbls (fun m' hm=>by
  obtain ⟨o',es',ep',ho',r'⟩:=hm
  rw [ho] at ho';cases ho'
  exact ⟨_,es',ep',hL,r'⟩) hok I.bare
theorem Inv.call {g':Array GenState}{t':Nat}{d':Drawn}{ch:List Addr}(I:Inv X pins σ H s)(u:Un (frs X.stack) ch H H' s.heap h')(hok:HOk X.prog X.w H' h')(hg:AllBare g')
  (hch:∀ b∈ch,(b∈X.ex∨X.s₀.heap.objs.size≤b)∧b≠X.env.locals∧(∀ x c,X.env.cells.lookup x=some c→c≠b)∧∀ p∈X.pn++pins,p.1≠b):
  Inv X pins σ H' {s with heap:=h',gens:=g',drawn:=d',toks:=t'}:=by
 obtain ⟨m,⟨o,es,ep,ho,r⟩,_⟩:=id I.loc
 obtain ⟨sl,hL⟩:=u.any ho I.free fun z=>(hch _ z).2.1 rfl
 exact I.step (ch:=ch) hch (fun b o hL hb hc e n=>u.keep b o e n (fun z=>(yR.mp (I.stkSub b z)).elim hL hb) hc) (fun b o _ _ hc e n=>u.any e n hc) (fun b o hc e n=>u.free b o e n hc) (fun b o hc e=>u.there b o e hc) u.tups u.frzs u.tbls (fun m' hm=>by
  obtain ⟨o',es',ep',ho',r'⟩:=hm
  rw [ho] at ho';cases ho'
  exact ⟨_,es',ep',hL,r'⟩) hok hg
theorem Inv.turned {t':Nat}{it:Addr}(I:Inv X pins σ H s)(k:∀ b o,b≠it→s.heap.get? b=some o→h'.get? b=some o)(hn:H it=none)(hL:it≠X.env.locals)
  (h1:it∈X.ex∨X.s₀.heap.objs.size≤it) (h2:∀ x c,X.env.cells.lookup x=some c→c≠it) (h3:∀ p∈X.pn++pins,p.1≠it):Inv X pins σ H {s with heap:=h',toks:=t'}:=by
 have nit:∀ b u,H b=some u→b≠it:=fun b u e z=>by rw [z,hn] at e;cases e
 refine I.step (g':=s.gens) (d':=s.drawn) (ch:=[it]) (fun b hb=>?_) (fun b o _ _ hc e _=>k b o (fun z=>hc (by simp [z])) e) (fun b o _ _ hc e _=>⟨o.slots,k b o (fun z=>hc (by simp [z])) e⟩) (fun _ _ _ _ n=>n)
  (fun b o hc e=>⟨o,k b o (fun z=>hc (by simp [z])) e⟩) (fun _ _ e=>e) (fun _ _ _ e=>e) (fun b ps e=>⟨#[],by rw [e];simp⟩) (fun m hm=>?_) (fun b u e=>?_) I.bare
 ·have e:b=it:=by simpa using hb
  subst e
  exact ⟨h1,hL,h2,h3⟩
 ·obtain ⟨o,es,ep,ho,r⟩:=hm
  exact ⟨o,es,ep,k _ o (jL hL) ho,r⟩
 ·refine (I.hok b u e).stay (fun c v hc q=>k c v ?_ q) (fun _ q=>q) fun _ _ q=>q
  rcases hc with z | z
  ·rw [z];exact nit b u e
  ·exact nit c _ z
theorem Inv.tok (I:Inv X pins σ H s)(t:Nat):Inv X pins σ H {s with toks:=t}:=I.un (h':=s.heap) (t':=t) Un.refl I.hok
theorem Inv.kept {t':Nat}(I:Inv X pins σ H s)(k:∀ b u,s.heap.get? b=some u→h'.get? b=some u):Inv X pins σ H {s with heap:=h',toks:=t'}:=I.un (Un.kept k) (I.hok.kept k)
theorem Inv.laid {a:Addr}{o:HO}{t':Nat}(I:Inv X pins σ H s)(k:∀ b u,s.heap.get? b=some u→h'.get? b=some u)(hp:s.heap.objs.size≤a)(new:zbM X.prog X.w (upd H a o) h' a o):
  Inv X pins σ (upd H a o) {s with heap:=h',toks:=t'}:=I.un (Un.laid k hp (I.hok.fresh hp)) (I.hok.laid k hp new)
theorem Inv.write {x e:Addr}{o:HO}{t':Nat}(I:Inv X pins σ H s)(mu:Mut (H x))(he:e=x∨H e=some (.own x))(k:∀ b u,b≠e→s.heap.get? b=some u→h'.get? b=some u)(heo:∃ u,h'.get? e=some u)
  (new:zbM X.prog X.w (upd H x o) h' x o):Inv X pins σ (upd H x o) {s with heap:=h',toks:=t'}:=I.un (Un.write mu he k heo) (I.hok.write mu he k heo new)
theorem Inv.weak {σ':List (Option V)}(I:Inv X pins σ H s)(hl: σ'.length= σ.length)(w:∀ (i:Nat) v,σ'[i]? =some (some v)→σ[i]? =some (some v)):Inv X pins σ' H s:=
 ⟨I.ok,I.os,I.bare,I.base,let ⟨m,hn,hl'⟩:=I.loc;⟨m,hn,fun i x v e1 e2 e3=>hl' i x v e1 (w i v e2) e3⟩,I.cell,I.free,I.freeC,I.pin,I.hok,hl.trans I.len⟩
theorem Inv.pins_of {pins':List (Addr×Obj)}(I:Inv X pins σ H s)(h:∀ p∈pins',s.heap.get? p.1=some p.2∧H p.1=none∧p.1≠X.env.locals∧p.1∉X.fs∧∀ v,p.2.data≠.cell v):Inv X pins' σ H s:=
 ⟨I.ok,I.os,I.bare,I.base,I.loc,I.cell,I.free,I.freeC,fun p hp=>(yU.mp hp).elim (fun z=>I.pin p (jV _ z)) (h p),I.hok,I.len⟩
theorem zlq {N:List Str}(hN:N.Nodup){i j:Nat}{x:Str}(a:N[i]? =some x)(b:N[j]? =some x):i=j:=by
 obtain ⟨h1,e1⟩:=yF.mp a
 obtain ⟨h2,e2⟩:=yF.mp b
 exact (List.getElem_inj hN).mp (e1.trans e2.symm)
theorem zjr {M:Model}{A:Around}{E:Value→Shared→Prop}{i:Nat}{x:Str}{v:V}{u:Value}{Q:Unit→Shared→Prop}(I:Inv X pins σ H s)(hN:X.N.Nodup)(hi:X.N[i]? =some x)(hx:Loc X.env.scope x)(r:RelV v u)
  (h:∀ s',Inv X pins (σ.set i (some v)) H s'→(∃ a,qH a s.heap s'.heap∧(a=X.env.locals∨X.env.cells.lookup x=some a))→Q () s') (hf:X.fn x=true∨X.env.scope.names.lookup x=some .local:=by first | exact .inl rfl | exact .inr rfl | assumption):wpAny M A (storeName X.env x u) Q E s:=by
 obtain ⟨m,hn,hl⟩:=id I.loc
 have hcls:(X.env.scope.kind== .class || (X.env.scope.kind== .module && X.env.locals !=X.env.globals))=false:=by rw [I.ok.kind];rfl
 have hiσ :i < σ.length:=by rw [I.len];exact (yF.mp hi).1
 have cne:=I.cne
 have tracked:∀ {a:Addr} {h':Heap},(∃ o,s.heap.get? a=some o∧H a=none)→qH a s.heap h'→HOk X.prog X.w H h':=fun {a h'} ha hs b ob e=>by
  obtain ⟨_,_,hfree⟩:=ha
  refine (I.hok b ob e).stay (fun c w' hc q=>(hs.2 c ?_).trans q) (fun _ q=>q) fun _ _ q=>q
  rintro rfl
  rcases hc with rfl | hc
  ·rw [hfree] at e;cases e
  ·rw [hfree] at hc;cases hc
 rcases hx with hk | hk
 ·refine wpAny_storeName_local hk hn (fun h' hn' hs=>?_) hcls
  obtain ⟨oL,_,_,hoL,_⟩:=id hn
  refine h _ ⟨I.ok,I.os,I.bare,⟨fun b o e n hb hx=>?_,fun b o e n hb hx=>?_,I.base.free,fun b o e hx=>?_,I.base.tups,I.base.frzs,I.base.tbls⟩,⟨_,hn',fun j y v' e1 e2 e3=>?_⟩,fun y c e=>?_,I.free,I.freeC,fun p hp=>?_,tracked ⟨oL,hoL,I.free⟩ hs,by simpa using I.len⟩ ⟨_,hs,.inl rfl⟩
  ·exact (hs.2 b (qC (qN (yV e) I.ok.above))).trans (I.base.keep b o e n hb hx)
  ·obtain ⟨sl,e1⟩:=I.base.slot b o e n hb hx
   exact ⟨sl,(hs.2 b (qC (qN (yV e) I.ok.above))).trans e1⟩
  ·obtain ⟨o',e1⟩:=I.base.there b o e hx
   exact ⟨o',(hs.2 b (qC (qN (yV e) I.ok.above))).trans e1⟩
  ·by_cases hj:j=i
   ·subst hj
    rw [hi] at e1;cases e1
    rw [wD hiσ] at e2
    cases e2
    exact ⟨u,r,.inl ⟨hk,by simp⟩⟩
   ·rw [vG (jL hj)] at e2
    obtain ⟨u',r',q⟩:=hl j y v' e1 e2 e3
    refine ⟨u',r',?_⟩
    rcases q with ⟨k,e⟩ | ⟨k,c,e,z⟩
    ·refine .inl ⟨k,?_⟩
     have:y≠x:=fun e=>hj (zlq hN e1 (e ▸ hi))
     simp [this,e]
    ·exact .inr ⟨k,c,e,z.sameBut hs (cne y c e)⟩
  ·obtain ⟨w',z⟩:=I.cell y c e
   exact ⟨w',z.sameBut hs (cne y c e)⟩
  ·obtain ⟨e,n,ne,nf,d⟩:=I.pin p hp
   exact ⟨(hs.2 p.1 ne).trans e,n,ne,nf,d⟩
 ·have hfn:X.fn x=true:=by
   rcases hf with z | z
   ·exact z
   ·rw [z] at hk;cases hk
  obtain ⟨c,hc⟩:=I.ok.has x (.inl hk)
  obtain ⟨w',z⟩:=I.cell x c hc
  refine wpAny_storeName_cell I.ok.kind hk hc z (fun h' hc' hs=>?_)
  obtain ⟨oc,hoc,hocd⟩:=id z
  refine h {s with heap:=h'} ⟨I.ok,I.os,I.bare,⟨fun b o e n hb hx=>?_,fun b o e n hb hx=>?_,I.base.free,fun b o e hx=>?_,I.base.tups,I.base.frzs,I.base.tbls⟩,⟨m,hn.sameBut hs (jL (cne x c hc)),fun j y v' e1 e2 e3=>?_⟩,fun y c' e=>?_,I.free,I.freeC,fun p hp=>?_,tracked ⟨oc,hoc,I.freeC x c hc⟩ hs,by simpa using I.len⟩ ⟨c,hs,.inr hc⟩
  ·exact (hs.2 b (qC (qN (yV e) (I.ok.cab x c hfn hc)))).trans (I.base.keep b o e n hb hx)
  ·obtain ⟨sl,e1⟩:=I.base.slot b o e n hb hx
   exact ⟨sl,(hs.2 b (qC (qN (yV e) (I.ok.cab x c hfn hc)))).trans e1⟩
  ·obtain ⟨o',e1⟩:=I.base.there b o e hx
   exact ⟨o',(hs.2 b (qC (qN (yV e) (I.ok.cab x c hfn hc)))).trans e1⟩
  ·by_cases hj:j=i
   ·subst hj
    rw [hi] at e1;cases e1
    rw [wD hiσ] at e2
    cases e2
    exact ⟨u,r,.inr ⟨.inl hk,c,hc,hc'⟩⟩
   ·rw [vG (jL hj)] at e2
    obtain ⟨u',r',q⟩:=hl j y v' e1 e2 e3
    refine ⟨u',r',?_⟩
    rcases q with q | ⟨k,c',e,z'⟩
    ·exact .inl q
    ·refine .inr ⟨k,c',e,z'.sameBut hs ?_⟩
     rintro rfl
     exact hj (zlq hN e1 (I.ok.inj _ _ _ e hc ▸ hi))
  ·by_cases hcc:c'=c
   ·subst hcc;exact ⟨_,hc'⟩
   ·obtain ⟨w2,z2⟩:=I.cell y c' e
    exact ⟨w2,z2.sameBut hs hcc⟩
  ·obtain ⟨e,n,ne,nf,d⟩:=I.pin p hp
   refine ⟨(hs.2 p.1 ?_).trans e,n,ne,nf,d⟩
   intro q
   rw [q,hoc] at e
   have q':oc=p.2:=qF e
   exact d w' (by rw [← q'];exact hocd)
theorem zlt {M:Model}{A:Around}{E:Value→Shared→Prop}{i:Nat}{x:Str}{v:V}{u:Value}{Q:Unit→Shared→Prop}(I:Inv X pins σ H s)(hN:X.N.Nodup)(hi:X.N[i]? =some x)(hx:Loc X.env.scope x)(r:RelV v u)
  (h:∀ s',Inv X pins (σ.set i (some v)) H s'→Q () s') (hf:X.fn x=true∨X.env.scope.names.lookup x=some .local:=by first | exact .inl rfl | exact .inr rfl | assumption):wpAny M A (storeName X.env x u) Q E s:=
 zjr I hN hi hx r (fun s' I' _=>h s' I') hf
theorem Inv.call' {s':Shared}{ch:List Addr}(I:Inv X pins σ H s)(ho:s'.os=s.os)(u:Un (frs X.stack) ch H H' s.heap s'.heap)(hok:HOk X.prog X.w H' s'.heap)(hg:AllBare s'.gens)
  (hch:∀ b∈ch,(b∈X.ex∨X.s₀.heap.objs.size≤b)∧b≠X.env.locals∧(∀ x c,X.env.cells.lookup x=some c→c≠b)∧∀ p∈X.pn++pins,p.1≠b):Inv X pins σ H' s':=by
 obtain ⟨h',g',d',t',o'⟩:=s'
 have e:o'=s.os:=ho
 subst e
 exact I.call (g':=g') (t':=t') (d':=d') u hok hg hch
end
noncomputable abbrev XK:=Value→Option Addr→Hp→Prop
noncomputable abbrev St:=List (Option V)
noncomputable abbrev VK:=V→Hp→Prop
noncomputable abbrev TE:=St→Hp→VK→Prop
noncomputable abbrev TT:=St→Hp→(Bool→Hp→Prop)→Prop
noncomputable abbrev TA:=St→Hp→(List V→Hp→Prop)→Prop
structure Ends where
 nx:St→Hp→Prop
 rt:VK
 bk:St→Hp→Prop:=fun _ _=>False
 ct:St→Hp→Prop:=fun _ _=>False
noncomputable abbrev TS:=Ends→St→Hp→Prop
noncomputable def EP (X:Cx) (pins:List (Addr×Obj)) (σ :St) (Q:VK) (u:Value) (s':Shared):Prop:=∃ v H',Inv X pins σ H' s'∧RelV v u∧Q v H'
noncomputable def TP (X:Cx) (pins:List (Addr×Obj)) (σ :St) (Q:Bool→Hp→Prop) (b:Bool) (s':Shared):Prop:=∃ H',Inv X pins σ H' s'∧Q b H'
noncomputable def AP (X:Cx) (pins:List (Addr×Obj)) (σ :St) (Q:List V→Hp→Prop) (us:List Value) (s':Shared):Prop:=∃ vs H',Inv X pins σ H' s'∧Vals vs us∧Q vs H'
noncomputable def SP (X:Cx) (pins:List (Addr×Obj)) (D:Ends) (f:Flow) (s':Shared):Prop:=
 match f with
 | .next=>∃ σ' H',Inv X pins σ' H' s'∧D.nx σ' H'
 | .brk=>∃ σ' H',Inv X pins σ' H' s'∧D.bk σ' H'
 | .cont=>∃ σ' H',Inv X pins σ' H' s'∧D.ct σ' H'
 | .ret u=>∃ v σ' H',Inv X pins σ' H' s'∧RelV v u∧D.rt v H'
noncomputable def PE (X:Cx) (e:Expr) (t:TE):Prop:=
 ∀ (pins:List (Addr×Obj)) (s:Shared) (σ :St) (H:Hp) (Q:VK),Inv X pins σ H s→t σ H Q→wpAny (model X.prog X.w) X.A (eval e X.env) (EP X pins σ Q) X.xe s
noncomputable def PT (X:Cx) (e:Expr) (t:TT):Prop:=
 ∀ (pins:List (Addr×Obj)) (s:Shared) (σ :St) (H:Hp) (Q:Bool→Hp→Prop),Inv X pins σ H s→t σ H Q→wpAny (model X.prog X.w) X.A (isTrue e X.env (eval e X.env)) (TP X pins σ Q) X.xe s
noncomputable def PW (X:Cx) (e:Expr) (t:TT):Prop:=
 ∀ (zff:Sem Value) (pins:List (Addr×Obj)) (s:Shared) (σ :St) (H:Hp) (Q:Bool→Hp→Prop),Inv X pins σ H s→t σ H Q→wpAny (model X.prog X.w) X.A (isTrue e X.env zff) (TP X pins σ Q) X.xe s
theorem PW.pt {X:Cx}{e:Expr}{t:TT}(h:PW X e t):PT X e t:=h _
noncomputable def PA (X:Cx) (es:List Expr) (t:TA):Prop:=
 ∀ (pos:Pos) (pins:List (Addr×Obj)) (s:Shared) (σ :St) (H:Hp) (Q:List V→Hp→Prop),Inv X pins σ H s→t σ H Q→wpAny (model X.prog X.w) X.A (spliced (backTo pos (starEach es X.env))) (AP X pins σ Q) X.xe s
noncomputable def PS (X:Cx) (st:Stmt) (t:TS):Prop:=
 ∀ (pins:List (Addr×Obj)) (s:Shared) (σ :St) (H:Hp) (D:Ends),Inv X pins σ H s→t D σ H→wpAny (model X.prog X.w) X.A (exec st X.env) (SP X pins D) X.xe s
noncomputable def PSs (X:Cx) (st:List Stmt) (t:TS):Prop:=
 ∀ (pins:List (Addr×Obj)) (s:Shared) (σ :St) (H:Hp) (D:Ends),Inv X pins σ H s→t D σ H→wpAny (model X.prog X.w) X.A (execs st X.env) (SP X pins D) X.xe s
theorem thn {α :Type}{t:Sem α}{Q Q': α→Shared→Prop}{M:Model}{A:Around}{E:Value→Shared→Prop}{s:Shared}(h:wpAny M A t Q E s)(hQ:∀ a s,Q a s→Q' a s):wpAny M A t Q' E s:=wpAny_mono h hQ fun _ _ x=>x
section
variable {X:Cx}
noncomputable def tVar (i:Nat):TE:=fun σ H Q=>∃ v,σ[i]? =some (some v)∧Q v H
noncomputable def tC (v:V):TE:=fun _ H Q=>Q v H
theorem zpc {i:Nat}{x:Str}{pos:Pos}(hN:X.N[i]? =some x)(hv:Vis X.env.scope x)(hd:(x==("__debug__" :Str))=false:=by decide)(hcd:(x==("__classdict__" :Str))=false:=by decide):PE X (.Name x pos) (tVar i):=by
 intro pins s σ H Q I h
 obtain ⟨v,e,h⟩:=h
 obtain ⟨m,hn,hl⟩:=I.loc
 obtain ⟨u,r,l⟩:=hl i x v hN e hv
 have fin:EP X pins σ Q u s:=⟨v,H,I,r,h⟩
 rcases l with ⟨hk,hm⟩ | ⟨hk,c,hc,hcell⟩
 ·exact wpAny_Name (wpAny_loadName_local I.ok.kind hk hn hm fin) hd
 ·rcases hk with hk | hk
  ·exact wpAny_Name (wpAny_loadName_cell I.ok.kind hk hc hcell fin) hd
  ·exact wpAny_Name (wpAny_loadName_free I.ok.kind hk hc hcell fin hcd) hd
theorem pe_int {i j pos}:PE X (.Constant (.int i) j pos) (tC (.int i)):=fun _ _ _ H _ I h=>wpAny_Constant_int ⟨.int i,H,I.tok _,⟨_,rfl⟩,h⟩
theorem pe_bl {b j pos}:PE X (.Constant (.bool b) j pos) (tC (.bl b)):=fun _ _ _ H _ I h=>Constant_bool ⟨.bl b,H,I,rfl,h⟩
theorem pe_non {j pos}:PE X (.Constant .none j pos) (tC .non):=fun _ _ _ H _ I h=>Constant_none ⟨.non,H,I,rfl,h⟩
theorem pe_str {x j pos}:PE X (.Constant (.str x) j pos) (tC (.str x)):=fun _ _ _ H _ I h=>Calls.Constant_str ⟨.str x,H,I.tok _,⟨_,rfl⟩,h⟩
noncomputable def Gl (X:Cx) (x:Str):Prop:=X.env.kindOf x=some .globalImplicit
theorem zmQ {E:Value→Shared→Prop}{pins:List (Addr×Obj)}{s:Shared}{σ :St}{H:Hp}{x:Str}{u:Value}{pos:Pos}{Q:Value→Shared→Prop}(I:Inv X pins σ H s)(hg:Gl X x)(hm:X.mg x=some u)(h:Q u s)
  (hd:(x==("__debug__" :Str))=false:=by decide):wpAny (model X.prog X.w) X.A (eval (.Name x pos) X.env) Q E s:=
 yaZ I.ok.kind hg (Calls.loadGlobal_global (by rw [I.ok.glob];exact I.mod.glob.keeps I.bk) hm h) hd
theorem zf3 {E:Value→Shared→Prop}{pins:List (Addr×Obj)}{s:Shared}{σ :St}{H:Hp}{x:Str}{u:Value}{pos:Pos}{Q:Value→Shared→Prop}(I:Inv X pins σ H s)(hg:Gl X x)(hm:X.mg x=none)(hv:bootBuiltins x=some u)(h:Q u s)
  (hn:x≠"__name__" :=by decide) (hd:(x==("__debug__" :Str))=false:=by decide):wpAny (model X.prog X.w) X.A (eval (.Name x pos) X.env) Q E s:=by
 obtain ⟨mb,h1,h2⟩:=I.mod.blt
 exact yaZ I.ok.kind hg (Calls.loadGlobal_builtin (by rw [I.ok.glob];exact I.mod.glob.keeps I.bk) hm (by rw [I.ok.blt];exact h1.keeps I.bk) ((h2 x hn).trans hv) h) hd
theorem zp6 {x:Str}{v:V}{u:Value}{pos:Pos}(hg:Gl X x)(hm:X.mg x=some u)(r:RelV v u)(hd:(x==("__debug__" :Str))=false:=by decide):PE X (.Name x pos) (tC v):=
 fun _ _ _ H _ I h=>zmQ I hg hm ⟨v,H,I,r,h⟩ hd
variable {a b:Expr} {ta tb:TE} {pos:Pos}
noncomputable def PC (X:Cx) (op:CmpOp) (a b:Expr) (t:TE):Prop:=
 ∀ (pins:List (Addr×Obj)) (s:Shared) (σ :St) (H:Hp) (Q:VK),Inv X pins σ H s→t σ H Q→
  wpAny (model X.prog X.w) X.A (eval a X.env) (fun v s₁ =>wpAny (model X.prog X.w) X.A (eval b X.env) (fun u s₂ =>wpAny (model X.prog X.w) X.A (compareOp op v u) (EP X pins σ Q) X.xe s₂) X.xe s₁) X.xe s
theorem zgx (b:Expr){op:CmpOp}(h:op≠.In)(h2:op≠.NotIn):behindInMarks op b=false:=by
 have e1:(op==CmpOp.In)=false:=by cases op <;> first | rfl | exact absurd rfl h
 have e2:(op==CmpOp.NotIn)=false:=by cases op <;> first | rfl | exact absurd rfl h2
 cases b <;> simp [behindInMarks,e1,e2]
noncomputable def tIsN (ta:TE):TE:=fun σ H Q=>ta σ H fun x H1=>Q (.bl (decide (x= .non))) H1
noncomputable def tNotN (ta:TE):TE:=fun σ H Q=>ta σ H fun x H1=>Q (.bl (!decide (x= .non))) H1
theorem RelV.none_iff {x:V}{v:Value}(r:RelV x v):(v==Value.none)=decide (x= .non):=by
 cases x with
 | non=>cases r;rfl
 | bl _=>cases r;rfl
 | int _=>obtain ⟨t,rfl⟩:=r;rfl
 | str _=>obtain ⟨t,rfl⟩:=r;rfl
 | byt _=>obtain ⟨t,rfl⟩:=r;rfl
 | flt _=>obtain ⟨t,rfl⟩:=r;rfl
 | ref _=>cases r;rfl
 | ty _=>cases r;rfl
theorem pc_isN {j pos'}(ha:PE X a ta):PC X .Is a (.Constant .none j pos') (tIsN ta):=by
 intro pins s σ H Q I h
 refine thn (ha pins s σ H _ I h) fun v s1 ⟨x,H1,I1,r1,q1⟩=>?_
 exact Constant_none (is_none_gen ⟨.bl _,H1,I1,by rw [r1.none_iff];rfl,q1⟩)
theorem zpI {j pos'}(ha:PE X a ta):PC X .IsNot a (.Constant .none j pos') (tNotN ta):=by
 intro pins s σ H Q I h
 refine thn (ha pins s σ H _ I h) fun v s1 ⟨x,H1,I1,r1,q1⟩=>?_
 exact Constant_none (isnot_none_gen ⟨.bl _,H1,I1,by rw [r1.none_iff];rfl,q1⟩)
noncomputable def tB (t:TE):TT:=fun σ H Q=>t σ H fun x H1=>∃ c,x= .bl c∧Q c H1
theorem pe_cmp {op:CmpOp}{t:TE}(h:PC X op a b t)(h1:behindInMarks op b=false:=by first | exact zgx _ (by decide) (by decide) | rfl):PE X (.Compare a [op] [b] pos) t:=fun pins s σ H Q I hw=>wpAny_Compare1 (h pins s σ H Q I hw) h1
theorem pt_cmp {op:CmpOp}{t:TE}(h:PC X op a b t)(h1:behindInMarks op b=false:=by first | exact zgx _ (by decide) (by decide) | rfl):PT X (.Compare a [op] [b] pos) (tB t):=by
 intro pins s σ H Q I hw
 refine wpAny_isTrue_Compare1 (thn (h pins s σ H _ I hw) fun v s1 h1=>thn h1 fun u s2 h2=>thn h2 fun c s3 ⟨x,H1,I1,r1,q1⟩=>?_) h1
 obtain ⟨d,rfl,q⟩:=q1
 cases r1
 exact wpAny_truthy_bool ⟨H1,I1,q⟩
theorem pt_val {e:Expr}{t:TE}(h:PE X e t)(he:∀ zff,isTrue e X.env zff=(do let v ← zff;standAt e.pos;holding [v] (truthy v)):=by intro _;rfl):PT X e (tB t):=by
 intro pins s σ H Q I hw
 refine isTrue_plain (thn (h pins s σ H _ I hw) fun v s1 ⟨x,H1,I1,r1,q1⟩=>?_) (he _)
 obtain ⟨d,rfl,q⟩:=q1
 cases r1
 exact wpAny_truthy_bool ⟨H1,I1,q⟩
variable {tA tB':TT} {rest:List Expr}
noncomputable def tAnd (t u:TT):TT:=fun σ H Q=>t σ H fun c H1=>if c=true then u σ H1 Q else Q false H1
noncomputable def tOr (t u:TT):TT:=fun σ H Q=>t σ H fun c H1=>if c=true then Q true H1 else u σ H1 Q
noncomputable def tNot (t:TT):TT:=fun σ H Q=>t σ H fun c H1=>Q (!c) H1
theorem zpq (ha:PT X a tA):PW X (.BoolOp .And [a] pos) tA:=by
 intro wh pins s σ H Q I h
 refine isTrue_and (thn (ha pins s σ H Q I h) fun c s1 e=>?_)
 cases c with
 | true=>exact isTrue_and_nil e
 | false=>exact e
theorem pw_or1 (ha:PT X a tA):PW X (.BoolOp .Or [a] pos) tA:=by
 intro wh pins s σ H Q I h
 refine isTrue_or (thn (ha pins s σ H Q I h) fun c s1 e=>?_)
 cases c with
 | false=>exact isTrue_or_nil e
 | true=>exact e
theorem pw_and (ha:PT X a tA)(hb:PW X (.BoolOp .And (b::rest) pos) tB'):PW X (.BoolOp .And (a::b::rest) pos) (tAnd tA tB'):=by
 intro wh pins s σ H Q I h
 refine isTrue_and (thn (ha pins s σ H _ I h) fun c s1 ⟨H1,I1,q1⟩=>?_)
 cases c with
 | true=>exact hb wh pins s1 σ H1 Q I1 q1
 | false=>exact ⟨H1,I1,q1⟩
theorem pw_or (ha:PT X a tA)(hb:PW X (.BoolOp .Or (b::rest) pos) tB'):PW X (.BoolOp .Or (a::b::rest) pos) (tOr tA tB'):=by
 intro wh pins s σ H Q I h
 refine isTrue_or (thn (ha pins s σ H _ I h) fun c s1 ⟨H1,I1,q1⟩=>?_)
 cases c with
 | true=>exact ⟨H1,I1,q1⟩
 | false=>exact hb wh pins s1 σ H1 Q I1 q1
theorem pt_not (ha:PT X a tA):PT X (.UnaryOp .Not a pos) (tNot tA):=by
 intro pins s σ H Q I h
 exact isTrue_not (ha pins s σ H (fun c H1=>Q (!c) H1) I h)
noncomputable def tAndV (ta tb:TE):TE:=fun σ H Q=>ta σ H fun x H1=>∃ c,x= .bl c∧if c=true then tb σ H1 Q else Q (.bl false) H1
theorem pe_one {op}{t:TE}(h:PE X a t):PE X (.BoolOp op [a] pos) t:=fun pins s σ H Q I hw=>BoolOp_one (h pins s σ H Q I hw)
theorem pe_and (ha:PE X a ta)(hb:PE X (.BoolOp .And (b::rest) pos) tb):PE X (.BoolOp .And (a::b::rest) pos) (tAndV ta tb):=by
 intro pins s σ H Q I h
 refine BoolOp_and (thn (ha pins s σ H _ I h) fun v s1 ⟨x,H1,I1,r1,q1⟩=>?_)
 obtain ⟨c,rfl,q1⟩:=q1
 cases r1
 refine wpAny_truthy_bool ?_
 cases c with
 | true=>exact hb pins s1 σ H1 Q I1 q1
 | false=>exact ⟨.bl false,H1,I1,rfl,q1⟩
noncomputable def tIf (t:TT) (ta tb:TE):TE:=fun σ H Q=>t σ H fun c H1=>if c=true then ta σ H1 Q else tb σ H1 Q
theorem zoE {c:Expr}(hc:PT X c tA)(ha:PE X a ta)(hb:PE X b tb):PE X (.IfExp c a b pos) (tIf tA ta tb):=by
 intro pins s σ H Q I h
 refine wpAny_IfExp (thn (hc pins s σ H _ I h) fun d s1 ⟨H1,I1,q1⟩=>?_)
 cases d with
 | true=>exact ha pins s1 σ H1 Q I1 q1
 | false=>exact hb pins s1 σ H1 Q I1 q1
end
noncomputable def SqL (K:PySem.W.Frag) (H:Hp) (a:Addr) (xs:List V):Prop:=
 Rd H a (.lst xs)∨
  ∃ (o:Obj) (its:Array Value) (n:Nat),K.lookup a=some o∧o.cls= .type "list"∧o.dict=none∧o.data= .seq its n∧its.size≤yM∧Vals xs its.toList
noncomputable def SqT (K:PySem.W.Frag) (H:Hp) (a:Addr) (xs:List V):Prop:=
 Rd H a (.tup xs)∨
  ∃ (o:Obj) (its:Array Value) (n:Nat),K.lookup a=some o∧o.cls= .type "tuple"∧o.data= .seq its n∧its.size≤yM∧Vals xs its.toList
noncomputable def absV:Value→Option V
 | .none=>some .non
 | .bool b=>some (.bl b)
 | .int i _=>some (.int i)
 | .str x _=>some (.str x)
 | .bytes b _=>some (.byt b)
 | .float b _=>some (.flt b)
 | .ref a=>some (.ref a)
 | .type n=>some (.ty n)
 | _=>none
theorem RelV.abs {x:V}{u:Value}(r:RelV x u):absV u=some x:=by
 cases x with
 | non=>cases r;rfl
 | bl _=>cases r;rfl
 | int _=>obtain ⟨t,rfl⟩:=r;rfl
 | str _=>obtain ⟨t,rfl⟩:=r;rfl
 | byt _=>obtain ⟨t,rfl⟩:=r;rfl
 | flt _=>obtain ⟨t,rfl⟩:=r;rfl
 | ref _=>cases r;rfl
 | ty _=>cases r;rfl
theorem RelV.inj {x y:V}{u:Value}(r:RelV x u)(q:RelV y u):x=y:=qF (r.abs.symm.trans q.abs)
theorem Vals.inj:∀ {xs ys:List V} {us:List Value},Vals xs us→Vals ys us→xs=ys
 | _,_,_,.nil,.nil=>rfl
 | _,_,_,.cons r t,.cons r' t'=>by rw [r.inj r',Vals.inj t t']
section
variable {X:Cx} {pins:List (Addr×Obj)} {σ :St} {H:Hp} {s:Shared} {a:Addr} {xs ys:List V}
theorem SqL.of {K:PySem.W.Frag}(h:H a=some (.lst xs)):SqL K H a xs:=.inl (.inl h)
theorem SqT.of {K:PySem.W.Frag}(h:H a=some (.tup xs)):SqT K H a xs:=.inl (.inl h)
theorem Inv.list (I:Inv X pins σ H s)(h:SqL X.K H a xs):∃ its:List Value,Vals xs its∧PlainL s.heap a its.toArray∧xs.length≤yM:=by
 rcases h with h | ⟨o,its,n,hk,hc,hd,hs,hz,r⟩
 ·obtain ⟨z,its,n,r,e⟩:=h.ok I.hok
  exact ⟨its,r,⟨_,n,e,rfl,rfl,rfl⟩,z⟩
 ·refine ⟨its.toList,r,⟨o,n,I.kIn a o hk,hc,hd,by simpa using hs⟩,?_⟩
  have e:=r.length
  simp only [xT] at e
  omega
theorem Inv.tuple (I:Inv X pins σ H s)(h:SqT X.K H a xs):∃ its:List Value,Vals xs its∧IsTup s.heap a its.toArray∧xs.length≤yM:=by
 rcases h with h | ⟨o,its,n,hk,hc,hs,hz,r⟩
 ·obtain ⟨z,its,r,p⟩:=h.ok I.hok
  exact ⟨its,r,p,z⟩
 ·refine ⟨its.toList,r,⟨o,I.kIn a o hk,hc,n,by simpa using hs⟩,?_⟩
  have e:=r.length
  simp only [xT] at e
  omega
theorem Inv.list_inj (I:Inv X pins σ H s)(h:SqL X.K H a xs)(h':SqL X.K H a ys):xs=ys:=by
 obtain ⟨its,r,⟨o,n,e,_,_,d⟩,_⟩:=I.list h
 obtain ⟨its',r',⟨o',n',e',_,_,d'⟩,_⟩:=I.list h'
 rw [e] at e';cases e'
 rw [d] at d'
 injection d' with d1 _
 have:its=its':=by simpa using congrArg Array.toList d1
 subst this
 exact r.inj r'
theorem Inv.tuple_inj (I:Inv X pins σ H s)(h:SqT X.K H a xs)(h':SqT X.K H a ys):xs=ys:=by
 obtain ⟨its,r,⟨o,e,_,n,d⟩,_⟩:=I.tuple h
 obtain ⟨its',r',⟨o',e',_,n',d'⟩,_⟩:=I.tuple h'
 rw [e] at e';cases e'
 rw [d] at d'
 injection d' with d1 _
 have:its=its':=by simpa using congrArg Array.toList d1
 subst this
 exact r.inj r'
end
noncomputable abbrev Cx.wish (X:Cx) (E:Value→Shared→Prop):Cx:={X with xe:=E}
noncomputable abbrev Cx.nox (X:Cx):Cx:=X.wish fun _ _=>False
theorem Cx.Ok.wish {X:Cx}(ok:X.Ok)(E:Value→Shared→Prop):(X.wish E).Ok:=
 ⟨ok.mod,ok.kind,ok.glob,ok.blt,ok.above,ok.inj,ok.has,ok.cab,ok.hd,ok.frames,ok.stk,ok.exf,ok.bs,ok.bsz,ok.noex,ok.exfs,ok.funs,ok.frf⟩
theorem Cx.Ok.unwish {X:Cx}{E:Value→Shared→Prop}(ok:(X.wish E).Ok):X.Ok:=
 ⟨ok.mod,ok.kind,ok.glob,ok.blt,ok.above,ok.inj,ok.has,ok.cab,ok.hd,ok.frames,ok.stk,ok.exf,ok.bs,ok.bsz,ok.noex,ok.exfs,ok.funs,ok.frf⟩
section
variable {X:Cx} {pins:List (Addr×Obj)} {σ :St} {H:Hp} {s:Shared} {E:Value→Shared→Prop}
theorem Inv.wish (I:Inv X pins σ H s)(E:Value→Shared→Prop):Inv (X.wish E) pins σ H s:=⟨I.ok.wish E,I.os,I.bare,I.base,I.loc,I.cell,I.free,I.freeC,I.pin,I.hok,I.len⟩
theorem Inv.unwish (I:Inv (X.wish E) pins σ H s):Inv X pins σ H s:=⟨I.ok.unwish,I.os,I.bare,I.base,I.loc,I.cell,I.free,I.freeC,I.pin,I.hok,I.len⟩
theorem SP.unwish {D:Ends}{f:Flow}{s':Shared}(h:SP (X.wish E) pins D f s'):SP X pins D f s':=by
 cases f with
 | next=>obtain ⟨σ',H',I,q⟩:=h;exact ⟨σ',H',I.unwish,q⟩
 | brk=>obtain ⟨σ',H',I,q⟩:=h;exact ⟨σ',H',I.unwish,q⟩
 | cont=>obtain ⟨σ',H',I,q⟩:=h;exact ⟨σ',H',I.unwish,q⟩
 | ret u=>obtain ⟨v,σ',H',I,r,q⟩:=h;exact ⟨v,σ',H',I.unwish,r,q⟩
theorem PSs.nox {st:List Stmt}{t:TS}(h:PSs X.nox st t):PSs X st t:=fun pins s σ H D I hw=>
 wpAny_mono (h pins s σ H D (I.wish _) hw) (fun _ _ q=>q.unwish) fun _ _ z=>wM z
end
section
variable {X:Cx} {st:Stmt} {rest:List Stmt} {t u:TS} {e:Expr} {te:TE} {pos:Pos}
noncomputable def tNext:TS:=fun D σ H=>D.nx σ H
noncomputable def tSeq (t u:TS):TS:=fun D σ H=>t {D with nx:=u D} σ H
theorem zpW:PSs X [] tNext:=fun _ _ σ H _ I h=>wpAny_execs_nil ⟨σ,H,I,h⟩
theorem zoo (h1:PS X st t)(h2:PSs X rest u):PSs X (st::rest) (tSeq t u):=by
 intro pins s σ H D I h
 refine wpAny_execs_cons (thn (h1 pins s σ H {D with nx:=u D} I h) fun f s1 q=>?_)
 cases f with
 | next=>
  obtain ⟨σ',H',I',q⟩:=q
  exact h2 pins s1 σ' H' D I' q
 | ret v=>exact q
 | brk=>exact q
 | cont=>exact q
theorem zpH (h1:PS X st t):PSs X [st] t:=by
 intro pins s σ H D I h
 refine wpAny_execs_cons (thn (h1 pins s σ H D I h) fun f s1 q=>?_)
 cases f with
 | next=>exact wpAny_execs_nil q
 | ret v=>exact q
 | brk=>exact q
 | cont=>exact q
theorem Inv.quiet {pins:List (Addr×Obj)}{σ :St}{H:Hp}{s:Shared}(I:Inv X pins σ H s):interactive X.env=false:=by simp [interactive,I.ok.kind]
noncomputable def tDrop (te:TE):TS:=fun D σ H=>te σ H fun _ H1=>D.nx σ H1
theorem zpO (he:PE X e te)(hs:swapsWith e none pos.line X.env=pure false:=by rfl):PS X (.Expr e pos) (tDrop te):=by
 intro pins s σ H D I h
 exact wpAny_Expr_any (thn (he pins s σ H _ I h) fun v s1 ⟨x,H1,I1,r1,q1⟩=>⟨σ,H1,I1,q1⟩) I.quiet hs
noncomputable def tRet (te:TE):TS:=fun D σ H=>te σ H D.rt
theorem ps_ret (he:PE X e te):PS X (.Return (some e) pos) (tRet te):=by
 intro pins s σ H D I h
 exact wpAny_Return_some (thn (he pins s σ H _ I h) fun v s1 ⟨x,H1,I1,r1,q1⟩=>⟨x,σ,H1,I1,r1,q1⟩)
noncomputable def tIfS (c:TT) (t u:TS):TS:=fun D σ H=>c σ H fun b H1=>if b=true then t D σ H1 else u D σ H1
theorem ps_if {c:Expr}{a b:List Stmt}{tc:TT}(hc:PT X c tc)(ha:PSs X a t)(hb:PSs X b u):PS X (.If c a b pos) (tIfS tc t u):=by
 intro pins s σ H D I h
 refine wpAny_If (thn (hc pins s σ H _ I h) fun d s1 ⟨H1,I1,q1⟩=>?_)
 cases d with
 | true=>exact ha pins s1 σ H1 D I1 q1
 | false=>exact hb pins s1 σ H1 D I1 q1
noncomputable def zo9:TS:=fun _ _ _=>False
theorem zoU:PS X st zo9:=fun _ _ _ _ _ _ h=>h.elim
end
noncomputable abbrev TG:=V→St→Hp→(St→Hp→Prop)→Prop
noncomputable abbrev TGs:=List V→St→Hp→(St→Hp→Prop)→Prop
noncomputable def PG (X:Cx) (target:Expr) (t:TG):Prop:=
 ∀ (pins:List (Addr×Obj)) (s:Shared) (σ :St) (H:Hp) (v:V) (u:Value) (Q:St→Hp→Prop),Inv X pins σ H s→RelV v u→t v σ H Q→
  wpAny (model X.prog X.w) X.A (assign target X.env u) (fun _ s'=>∃ σ' H',Inv X pins σ' H' s'∧Q σ' H') X.xe s
noncomputable def PGs (X:Cx) (ts:List Expr) (t:TGs):Prop:=
 ∀ (pins:List (Addr×Obj)) (s:Shared) (σ :St) (H:Hp) (vs:List V) (us:List Value) (Q:St→Hp→Prop),Inv X pins σ H s→Vals vs us→t vs σ H Q→
  wpAny (model X.prog X.w) X.A (assignInOrder ((assignEach ts X.env).map (·.2)) us) (fun _ s'=>∃ σ' H',Inv X pins σ' H' s'∧Q σ' H') X.xe s
noncomputable abbrev TSet:=V→V→V→Hp→(Hp→Prop)→Prop
noncomputable def PSet (X:Cx) (t:TSet):Prop:=
 ∀ (pins:List (Addr×Obj)) (s:Shared) (σ :St) (H:Hp) (o i v:V) (ov iv u:Value) (Q:Hp→Prop),Inv X pins σ H s→RelV o ov→RelV i iv→RelV v u→t o i v H Q→
  wpAny (model X.prog X.w) X.A (setItem ov iv u) (fun _ s'=>∃ H',Inv X pins σ H' s'∧Q H') X.xe s
section
variable {X:Cx} {pos:Pos}
noncomputable def zfL (i:Nat):TG:=fun v σ H Q=>Q (σ.set i (some v)) H
theorem zpV {i:Nat}{x:Str}(hN:X.N.Nodup)(hi:X.N[i]? =some x)(hx:Loc X.env.scope x)(hf:X.fn x=true∨X.env.scope.names.lookup x=some .local:=by first | exact .inl rfl | exact .inr rfl | assumption):PG X (.Name x pos) (zfL i):=by
 intro pins s σ H v u Q I r h
 exact wpAny_assign_Name (zlt I hN hi hx r (fun s' I'=>⟨_,H,I',h⟩) hf)
noncomputable def gNil:TGs:=fun vs σ H Q=>vs= []∧Q σ H
noncomputable def zkv (t:TG) (u:TGs):TGs:=fun vs σ H Q=>∃ v r,vs=v::r∧t v σ H fun σ' H'=>u r σ' H' Q
theorem zpX:PGs X [] gNil:=by
 intro pins s σ H vs us Q I r h
 obtain ⟨e,h⟩:=h
 subst e
 cases r
 exact assignInOrder_nil ⟨σ,H,I,h⟩
theorem zop {e:Expr}{es:List Expr}{t:TG}{u:TGs}(h1:PG X e t)(h2:PGs X es u)
  (hs:(assignEach (e::es) X.env).map (·.2)=assign e X.env::(assignEach es X.env).map (·.2):=by rfl):PGs X (e::es) (zkv t u):=by
 intro pins s σ H vs us Q I r h
 obtain ⟨v,vr,e1,h⟩:=h
 subst e1
 cases r with
 | cons r rr=>
  rw [hs]
  refine assignInOrder_cons (thn (h1 pins s σ H _ _ _ I r h) fun _ s1 ⟨σ1,H1,I1,q1⟩=>?_)
  exact h2 pins s1 σ1 H1 _ _ Q I1 rr q1
noncomputable def gTup (K:PySem.W.Frag) (n:Nat) (t:TGs):TG:=fun v σ H Q=>∃ a xs,v= .ref a∧SqT K H a xs∧xs.length=n∧t xs σ H Q
theorem zpm {es:List Expr}{k:Nat}{t:TGs}{n:Nat}(hc:X.calm=true)(h:PGs X es t)
  (hn:(assignEach es X.env).length=n:=by rfl) (hst:(assignEach es X.env).findIdx? (·.1)=none:=by rfl):PG X (.Tuple es k pos) (gTup X.K n t):=by
 intro pins s σ H v u Q I r hw
 obtain ⟨a,xs,e1,hq,hl,hw⟩:=hw
 subst e1
 cases r
 obtain ⟨its,rv,ht,hz⟩:=I.tuple hq
 refine assign_Tuple_tuple (I.ok.hd hc) ht (by simp [hn,← hl,rv.length]) hst fun h' hx=>?_
 have I1:Inv X pins σ H {s with heap:=h'}:=I.kept (t':=s.toks) fun b o e=>hx b o (qC (yV e)) e
 exact h pins _ σ H xs _ Q I1 (by simpa using rv) hw
noncomputable def gSub (to ti:TE) (t:TSet):TG:=fun v σ H Q=>to σ H fun o H1=>ti σ H1 fun i H2=>t o i v H2 fun H3=>Q σ H3
theorem pg_sub {o i:Expr}{to ti:TE}{t:TSet}(ho:PE X o to)(hi:PE X i ti)(hs:PSet X t)
  (ha:∀ v,assign (.Subscript o i pos) X.env v=(do
   let ov ← holding [v] (eval o X.env)
   let iv ← holding [v,ov] (eval i X.env)
   standAt pos
   holding [v,ov,iv] (setItem ov iv v)
   release [v,ov,iv] []):=by intro _;rfl):PG X (.Subscript o i pos) (gSub to ti t):=by
 intro pins s σ H v u Q I r h
 rw [ha]
 refine yA (wpAny_holding (thn (ho pins s σ H _ I h) fun ov s1 ⟨x,H1,I1,r1,q1⟩=>?_))
 refine yA (wpAny_holding (thn (hi pins s1 σ H1 _ I1 q1) fun iv s2 ⟨y,H2,I2,r2,q2⟩=>?_))
 refine yA (wpAny_standAt (yA (wpAny_holding (thn (hs pins s2 σ H2 x y v ov iv u _ I2 r1 r2 r q2) fun _ s3 ⟨H3,I3,q3⟩=>?_))))
 exact wpAny_release ⟨σ,H3,I3,q3⟩
noncomputable def tAsg (te:TE) (g:TG):TS:=fun D σ H=>te σ H fun x H1=>g x σ H1 D.nx
theorem ps_asg {tg e:Expr}{te:TE}{g:TG}(he:PE X e te)(hg:PG X tg g)(hs:swapsWithSole [tg] e pos.line X.env=pure false:=by rfl)(hw:swappedStores [tg] e X.env=pure none:=by rfl)
  (h1:(assignEach [tg] X.env).map (·.2)= [assign tg X.env]:=by rfl):PS X (.Assign [tg] e pos) (tAsg te g):=by
 intro pins s σ H D I h
 refine wpAny_Assign_stores (thn (he pins s σ H _ I h) fun v s1 ⟨x,H1,I1,r1,q1⟩=>?_) hs hw
 rw [h1]
 exact thn (hg pins s1 σ H1 x v _ I1 r1 q1) fun _ s2 q=>q
theorem ps_set {i:Nat}{x:Str}{e:Expr}{te:TE}{pos':Pos}(hN:X.N.Nodup)(hi:X.N[i]? =some x)(hx:Loc X.env.scope x)(he:PE X e te)(hs:swapsWith e (some (.Name x pos')) pos.line X.env=pure false:=by rfl)(hf:X.fn x=true∨X.env.scope.names.lookup x=some .local:=by first | exact .inl rfl | exact .inr rfl | assumption):
  PS X (.Assign [.Name x pos'] e pos) (tAsg te (zfL i)):=by
 intro pins s σ H D I h
 refine wpAny_Assign_Name (thn (he pins s σ H _ I h) fun v s1 ⟨y,H1,I1,r1,q1⟩=>?_) hs
 exact zlt I1 hN hi hx r1 (fun s2 I2=>⟨_,H1,I2,q1⟩) hf
end
section
variable {X:Cx} {pos:Pos}
end
structure It where
 go:Nat→Hp→Prop
 yld:Nat→Hp→V→Hp→Prop
 stop:Nat→Hp→Prop
noncomputable def FpOk (X:Cx) (pins:List (Addr×Obj)) (H:Hp) (b:Addr):Prop:=
 H b=none∧b≠X.env.locals∧b∉X.fs∧(b∈X.ex∨X.s₀.heap.objs.size≤b)∧(∀ x c,X.env.cells.lookup x=some c→c≠b)∧∀ p∈X.pn++pins,p.1≠b
theorem Inv.fpOk {X:Cx}{pins:List (Addr×Obj)}{σ :St}{H H':Hp}{s:Shared}{b:Addr}(I:Inv X pins σ H s)(hb:s.heap.objs.size≤b)(hn:H' b=none):FpOk X pins H' b:=by
 refine ⟨hn,kE (qN I.lt hb),I.nofs hb,.inr (jB I.sz hb),fun x c e z=>?_,fun p hp z=>?_⟩
 ·obtain ⟨v,q⟩:=I.cell x c e
  exact absurd (qN q.lt (by rw [z];exact hb)) (vJ _)
 ·exact absurd (qN (yV (I.pin p hp).1) (by rw [z];exact hb)) (vJ _)
structure Turn (P:Program) (w:World) (K:PySem.W.Frag) (tg:Expr) (J:It) (fp:List Addr) (it:Addr) (tn:Nat→Heap→Prop):Prop where
 mem:it∈fp
 obj:∀ i h,tn i h→∀ b∈fp,∃ o,h.get? b=some o∧∀ v,o.data≠.cell v
 keep:∀ i h h',tn i h→(∀ b∈fp,∀ o,h.get? b=some o→h'.get? b=some o)→tn i h'
 item:∀ (X:Cx),X.prog=P→X.w=w→X.K=K→X.calm=true→∀ (i:Nat) (pins:List (Addr×Obj)) (s:Shared) (σ :St) (H:Hp) (E:Value→Shared→Prop),Inv X pins σ H s→(∀ b∈fp,FpOk X pins H b)→tn i s.heap→J.go i H→
  wpAny (model P w) X.A (pyNext (.ref it)) (fun r s1=>∃ u,r=some u∧
   wpAny (model P w) X.A (letOwnedTupleGo tg (.ref it) u) (fun _ s2=>∃ x H',Inv X pins σ H' s2∧RelV x u∧J.yld i H x H'∧tn (i+1) s2.heap∧∀ b∈fp,H' b=none) E s1) E s
 done:∀ (X:Cx),X.prog=P→X.w=w→X.K=K→X.calm=true→∀ (i:Nat) (pins:List (Addr×Obj)) (s:Shared) (σ :St) (H:Hp) (E:Value→Shared→Prop),Inv X pins σ H s→(∀ b∈fp,FpOk X pins H b)→tn i s.heap→J.stop i H→
  wpAny (model P w) X.A (pyNext (.ref it)) (fun r s1=>r=none∧Inv X pins σ H s1) E s
 self:∀ (A:Around) (i:Nat) (s:Shared) (Q:Value→Shared→Prop) (E:Value→Shared→Prop),tn i s.heap→Q (.ref it) s→wpAny (model P w) A (pyIter (.ref it)) Q E s
noncomputable abbrev TI:=St→Hp→(It→Hp→Prop)→Prop
noncomputable def PIE (X:Cx) (pins:List (Addr×Obj)) (σ :St) (tg:Expr) (R:It→Hp→Prop) (itv:Value) (s2:Shared):Prop:=
 ∃ (it:Addr) (fp:List Addr) (tn:Nat→Heap→Prop) (J:It) (H':Hp),itv= .ref it∧Inv X pins σ H' s2∧Turn X.prog X.w X.K tg J fp it tn∧tn 0 s2.heap∧(∀ b∈fp,FpOk X pins H' b)∧R J H'
noncomputable def PI (X:Cx) (tg iter:Expr) (wi:TI):Prop:=
 ∀ (pins:List (Addr×Obj)) (s:Shared) (σ :St) (H:Hp) (R:It→Hp→Prop),Inv X pins σ H s→wi σ H R→
  wpAny (model X.prog X.w) X.A (eval iter X.env) (fun v s1=>wpAny (model X.prog X.w) X.A (pyIter v) (PIE X pins σ tg R) X.xe s1) X.xe s
theorem zpP {M:Model}{A:Around}{E:Value→Shared→Prop}{s:Shared}{tg:Expr}{it:Addr}{u:Value}{o:Obj}{n:String}{vs:Array Value}{Q:Unit→Shared→Prop}(ho:s.heap.get? it=some o)(hc:o.cls= .type n)(hd:o.data= .fields vs)
  (hn:["enumerate","zip","dict_itemiterator","dict_reverseitemiterator","odict_iterator","itertools.zip_longest","itertools.pairwise"].contains n=false) (hQ:Q () s):wpAny M A (letOwnedTupleGo tg (.ref it) u) Q E s:=by
 unfold letOwnedTupleGo
 cases tg <;> first
  | exact yD hQ
  | (cases u <;> first
    | exact yD hQ
    | (refine yA (wpAny_load ho ?_)
       rw [hc,hd]
       show wpAny M A (if (["enumerate","zip","dict_itemiterator","dict_reverseitemiterator","odict_iterator","itertools.zip_longest","itertools.pairwise"].contains n && vs[0]? ==some (rawInt _))=true then _ else _) Q E s
       rw [if_neg (by intro h;rw [hn,Bool.false_and] at h;cases h)]
       exact yD hQ))
noncomputable def Itl (K:PySem.W.Frag) (a:Addr):It:=
 ⟨fun i H=>∃ xs x,SqL K H a xs∧xs[i]? =some x,fun i H x H'=>H'=H∧∀ xs,SqL K H a xs→xs[i]? =some x,fun i H=>∃ xs,SqL K H a xs∧xs.length≤i⟩
noncomputable def Itt (K:PySem.W.Frag) (a:Addr):It:=
 ⟨fun i H=>∃ xs x,SqT K H a xs∧xs[i]? =some x,fun i H x H'=>H'=H∧∀ xs,SqT K H a xs→xs[i]? =some x,fun i H=>∃ xs,SqT K H a xs∧xs.length≤i⟩
noncomputable def Itr (lo:Int) (n:Nat):It:=⟨fun i _=>i < n,fun i H x H'=>H'=H∧x= .int (lo+i),fun i _=>n≤i⟩
theorem zmR {P:Program}{w:World}{K:PySem.W.Frag}{tg:Expr}(a it:Addr):Turn P w K tg (Itl K a) [it] it (fun i h=>h.IsListIter it a i) where
 mem:=by simp
 obj:=fun i h st b hb=>by
  have e:b=it:=by simpa using hb
  subst e
  obtain ⟨o,e,c,d⟩:=st
  exact ⟨o,e,fun v z=>by rw [d] at z;cases z⟩
 keep:=fun i h h' st k=>st.at fun o e=>k it (by simp) o e
 item:=by
  intro X hP hw hK hc i pins s σ H E I hf st hg
  subst hP hw hK
  obtain ⟨xs,x,hq,hx⟩:=hg
  obtain ⟨its,rv,p,hz⟩:=I.list hq
  obtain ⟨u,hu,ru⟩:=rv.get hx
  obtain ⟨f0,f1,f2,f3,f4,f5⟩:=hf it (by simp)
  refine wpAny_pyNext_list_item st p.isList (x:=u) (by simpa using hu) fun h' st' sb=>?_
  have I1:Inv X pins σ H {s with heap:=h'}:=I.turned (t':=s.toks) (fun b o hb e=>(sb.2 b hb).trans e) f0 f1 f3 f4 f5
  obtain ⟨o,e,c,d⟩:=id st'
  exact ⟨u,rfl,zpP (s:={s with heap:=h'}) e c d (by decide) ⟨x,H,I1,ru,⟨rfl,fun ys hy=>by rw [I.list_inj hy hq];exact hx⟩,st',fun b hb=>(hf b hb).1⟩⟩
 done:=by
  intro X hP hw hK hc i pins s σ H E I hf st hg
  subst hP hw hK
  obtain ⟨xs,hq,hx⟩:=hg
  obtain ⟨its,rv,p,hz⟩:=I.list hq
  obtain ⟨f0,f1,f2,f3,f4,f5⟩:=hf it (by simp)
  have hl:=rv.length
  exact wpAny_pyNext_list_end (I.ok.hd hc) st p.isList (by simp;omega) fun h' eb=>⟨rfl,I.turned (t':=s.toks) (fun b o hb e=>eb b o hb e) f0 f1 f3 f4 f5⟩
 self:=fun _ _ _ _ _ st h=>wpAny_pyIter_listiter st h
theorem zl4 {P:Program}{w:World}{K:PySem.W.Frag}{tg:Expr}(a it:Addr):Turn P w K tg (Itt K a) [it] it (fun i h=>h.IsTupleIter it a i) where
 mem:=by simp
 obj:=fun i h st b hb=>by
  have e:b=it:=by simpa using hb
  subst e
  obtain ⟨o,e,c,d⟩:=st
  exact ⟨o,e,fun v z=>by rw [d] at z;cases z⟩
 keep:=fun i h h' st k=>st.at fun o e=>k it (by simp) o e
 item:=by
  intro X hP hw hK hc i pins s σ H E I hf st hg
  subst hP hw hK
  obtain ⟨xs,x,hq,hx⟩:=hg
  obtain ⟨its,rv,p,hz⟩:=I.tuple hq
  obtain ⟨u,hu,ru⟩:=rv.get hx
  obtain ⟨f0,f1,f2,f3,f4,f5⟩:=hf it (by simp)
  refine wpAny_pyNext_tuple_item st (show s.heap.IsTuple a its.toArray from p) (x:=u) (by simpa using hu) fun h' st' sb=>?_
  have I1:Inv X pins σ H {s with heap:=h'}:=I.turned (t':=s.toks) (fun b o hb e=>(sb.2 b hb).trans e) f0 f1 f3 f4 f5
  obtain ⟨o,e,c,d⟩:=id st'
  exact ⟨u,rfl,zpP (s:={s with heap:=h'}) e c d (by decide) ⟨x,H,I1,ru,⟨rfl,fun ys hy=>by rw [I.tuple_inj hy hq];exact hx⟩,st',fun b hb=>(hf b hb).1⟩⟩
 done:=by
  intro X hP hw hK hc i pins s σ H E I hf st hg
  subst hP hw hK
  obtain ⟨xs,hq,hx⟩:=hg
  obtain ⟨its,rv,p,hz⟩:=I.tuple hq
  obtain ⟨f0,f1,f2,f3,f4,f5⟩:=hf it (by simp)
  have hl:=rv.length
  exact wpAny_pyNext_tuple_end (I.ok.hd hc) st (show s.heap.IsTuple a its.toArray from p) (by simp;omega) fun h' eb=>⟨rfl,I.turned (t':=s.toks) (fun b o hb e=>eb b o hb e) f0 f1 f3 f4 f5⟩
 self:=fun _ _ _ _ _ st h=>wpAny_pyIter_tupleiter st h
theorem zmh {P:Program}{w:World}{K:PySem.W.Frag}{tg:Expr}(it:Addr)(lo:Int)(n:Nat):Turn P w K tg (Itr lo n) [it] it (fun i h=>IsRangeIter h it (lo+(i:Nat) * 1) ((n:Int) - (i:Nat)) 1) where
 mem:=by simp
 obj:=fun i h st b hb=>by
  have e:b=it:=by simpa using hb
  subst e
  exact ⟨_,st,fun v z=>by
   have z':Data.fields _=Data.cell v:=z
   cases z'⟩
 keep:=fun i h h' st k=>k it (by simp) _ st
 item:=by
  intro X hP hw hK hc i pins s σ H E I hf st hg
  subst hP hw hK
  obtain ⟨f0,f1,f2,f3,f4,f5⟩:=hf it (by simp)
  have W:=Walks.range (prog:=X.prog) (w:=X.w) (I.ok.hd hc) it lo 1 n
  refine W.item i s _ _ hg st fun v h' tk hv st' kk=>?_
  obtain ⟨t,rfl⟩:=hv
  have I1:Inv X pins σ H {s with heap:=h',toks:=tk}:=I.turned (fun b o hb e=>kk b o (by simpa using hb) e) f0 f1 f3 f4 f5
  refine ⟨_,rfl,zpP (s:={s with heap:=h',toks:=tk}) (n:="range_iterator") st' rfl rfl (by decide) ⟨.int (lo+i),H,I1,⟨t,?_⟩,⟨rfl,rfl⟩,st',fun b hb=>(hf b hb).1⟩⟩
  rw [Int.mul_one]
 done:=by
  intro X hP hw hK hc i pins s σ H E I hf st hg
  subst hP hw hK
  obtain ⟨f0,f1,f2,f3,f4,f5⟩:=hf it (by simp)
  exact wpAny_pyNext_range_end (I.ok.hd hc) st (by have:n≤i:=hg;omega) fun h' eb=>⟨rfl,I.turned (t':=s.toks) (fun b o hb e=>eb b o hb e) f0 f1 f3 f4 f5⟩
 self:=fun _ _ _ _ _ st h=>wpAny_pyIter_rangeiter st h
section
variable {X:Cx} {tg:Expr}
noncomputable def iList (K:PySem.W.Frag) (tl:TE):TI:=fun σ H R=>tl σ H fun x H1=>∃ a,x= .ref a∧(∃ xs,SqL K H1 a xs)∧R (Itl K a) H1
noncomputable def iTup (K:PySem.W.Frag) (tl:TE):TI:=fun σ H R=>tl σ H fun x H1=>∃ a,x= .ref a∧(∃ xs,SqT K H1 a xs)∧R (Itt K a) H1
theorem zpu {l:Expr}{tl:TE}(hl:PE X l tl):PI X tg l (iList X.K tl):=by
 intro pins s σ H R I h
 refine thn (hl pins s σ H _ I h) fun v s1 ⟨x,H1,I1,r1,q1⟩=>?_
 obtain ⟨a,e,⟨xs,hq⟩,q⟩:=q1
 subst e
 cases r1
 obtain ⟨its,rv,p,hz⟩:=I1.list hq
 refine wpAny_pyIter_list p.isList ?_
 refine ⟨s1.heap.objs.size,[s1.heap.objs.size],_,_,H1,rfl,I1.kept (t':=s1.toks) fun b o e=>yI _ e,zmR a _,⟨_,yT _ rfl,rfl,rfl⟩,fun b hb=>?_,q⟩
 have e:b=s1.heap.objs.size:=by simpa using hb
 subst e
 exact I1.fpOk (yN _) (I1.hok.fresh (yN _))
theorem pi_tup {l:Expr}{tl:TE}(hl:PE X l tl):PI X tg l (iTup X.K tl):=by
 intro pins s σ H R I h
 refine thn (hl pins s σ H _ I h) fun v s1 ⟨x,H1,I1,r1,q1⟩=>?_
 obtain ⟨a,e,⟨xs,hq⟩,q⟩:=q1
 subst e
 cases r1
 obtain ⟨its,rv,p,hz⟩:=I1.tuple hq
 refine wpAny_pyIter_tuple (show s1.heap.IsTuple a its.toArray from p) ?_
 refine ⟨s1.heap.objs.size,[s1.heap.objs.size],_,_,H1,rfl,I1.kept (t':=s1.toks) fun b o e=>yI _ e,zl4 a _,⟨_,yT _ rfl,rfl,rfl⟩,fun b hb=>?_,q⟩
 have e:b=s1.heap.objs.size:=by simpa using hb
 subst e
 exact I1.fpOk (yN _) (I1.hok.fresh (yN _))
theorem zoP {pins:List (Addr×Obj)}{σ :St}{H:Hp}{s:Shared}{R:It→Hp→Prop}{E:Value→Shared→Prop}{lo hi:Int}{t u v:Tok}{tk:Nat}(I:Inv X pins σ H s)(h1: -(2 ^ 62)≤lo)(h2:lo < 2 ^ 62)(h3: -(2 ^ 62)≤hi)(h4:hi < 2 ^ 62)
  (q:R (Itr lo (hi - lo).toNat) H):wpAny (model X.prog X.w) X.A (pyIter (.ref s.heap.objs.size)) (PIE X pins σ tg R) E {s with heap:=s.heap.push {cls:=.type "range",data:=.fields #[.int lo t,.int hi u,.int 1 v]},toks:=tk}:=by
 refine wpAny_pyIter_range (IsRange.new ..) (small_one h1 h2 h3 h4) ?_
 have I1:Inv X pins σ H {s with heap:=s.heap.push {cls:=.type "range",data:=.fields #[.int lo t,.int hi u,.int 1 v]},toks:=tk}:=I.kept fun b o e=>yI _ e
 refine ⟨(s.heap.push {cls:=.type "range",data:=.fields #[.int lo t,.int hi u,.int 1 v]}).objs.size,[(s.heap.push {cls:=.type "range",data:=.fields #[.int lo t,.int hi u,.int 1 v]}).objs.size],_,_,H,rfl,
  I1.kept (t':=tk) fun b o e=>yI _ e,zmh _ lo (hi - lo).toNat,?_,fun b hb=>?_,q⟩
 ·have e1:lo+((0:Nat):Int) * 1=lo:=by simp
  have e2:(((hi - lo).toNat:Nat):Int) - ((0:Nat):Int)=Builtin.Range.rangeSize lo hi 1:=by rw [rangeSize_one];split <;> omega
  show IsRangeIter _ _ (lo+((0:Nat):Int) * 1) ((((hi - lo).toNat:Nat):Int) - ((0:Nat):Int)) 1
  rw [e1,e2]
  exact yT _ rfl
 ·have e:b=(s.heap.push {cls:=.type "range",data:=.fields #[.int lo t,.int hi u,.int 1 v]}).objs.size:=by simpa using hb
  subst e
  exact I1.fpOk (yN _) (I1.hok.fresh (yN _))
noncomputable def iRng1 (ta:TA):TI:=fun σ H R=>ta σ H fun vs H1=>∃ j:Int,vs= [.int j]∧-(2 ^ 62)≤j∧j < 2 ^ 62∧R (Itr 0 j.toNat) H1
theorem znS {a:Expr}{ta:TA}{p pos:Pos}(hg:Gl X "range")(hm:X.mg "range" =none)(ha:PA X [a] ta)(hs:starEach [a] X.env= [(false,eval a X.env)]:=by rfl):PI X tg (.Call (.Name "range" p) [a] [] pos) (iRng1 ta):=by
 intro pins s σ H R I h
 refine Call_ (zf3 I hg hm boot_range (xI (thn (ha pos pins s σ H _ I h) fun us s1 ⟨vs,H1,I1,r1,q1⟩=>?_) hs rfl))
 obtain ⟨j,e,q1,q2,q⟩:=q1
 subst e
 cases r1 with
 | cons r rr=>
  cases rr
  obtain ⟨t,rfl⟩:=r
  exact call_range_1 (zoP I1 (by omega) (by omega) q1 q2 (by simpa using q))
noncomputable def tFor (wi:TI) (g:TG) (tb:TS):TS:=fun D σ H=>wi σ H fun J H1=>∃ W:Nat→Nat→St→Hp→Prop,(∃ m,W 0 m σ H1)∧∀ i m σ H,W i m σ H→
 (J.stop i H∧D.nx σ H)∨(J.go i H∧∃ N:St→Hp→Prop,(∀ σ' H',N σ' H'→∃ m',m' < m∧W (i+1) m' σ' H')∧∀ x H',J.yld i H x H'→g x σ H' fun σ2 H2=>tb {D with nx:=N,ct:=N,bk:=D.nx} σ2 H2)
noncomputable def zjX (fp:List Addr) (h:Heap):List (Addr×Obj):=fp.filterMap fun b=>(h.get? b).map fun o=>(b,o)
theorem zeq {fp:List Addr}{h:Heap}{b:Addr}{o:Obj}(hb:b∈fp)(e:h.get? b=some o):(b,o)∈zjX fp h:=ya2.mpr ⟨b,hb,by rw [e];rfl⟩
theorem znN {fp:List Addr}{h:Heap}{p:Addr×Obj}(hp:p∈zjX fp h):p.1∈fp∧h.get? p.1=some p.2:=by
 obtain ⟨b,hb,e⟩:=ya2.mp hp
 cases q:h.get? b with
 | none=>rw [q] at e;cases e
 | some o=>
  rw [q] at e
  have e':(b,o)=p:=qF e
  subst e'
  exact ⟨hb,q⟩
theorem Inv.pinned {pins:List (Addr×Obj)}{σ :St}{H:Hp}{s:Shared}{fp:List Addr}(I:Inv X pins σ H s)(hf:∀ b∈fp,FpOk X pins H b)(ho:∀ b∈fp,∃ o,s.heap.get? b=some o∧∀ v,o.data≠.cell v):Inv X (pins++zjX fp s.heap) σ H s:=
 I.pins_of fun p hp=>(yU.mp hp).elim (fun z=>I.pin p (jJ _ z)) fun z=>by
  obtain ⟨hb,e⟩:=znN z
  obtain ⟨f0,f1,f2,_⟩:=hf p.1 hb
  obtain ⟨o,e',d⟩:=ho p.1 hb
  rw [e] at e';cases e'
  exact ⟨e,f0,f1,f2,d⟩
theorem Inv.unpinned {pins pl:List (Addr×Obj)}{σ :St}{H:Hp}{s:Shared}(I:Inv X (pins++pl) σ H s):Inv X pins σ H s:=I.pins_of fun p hp=>I.pin p (jJ _ (jV _ hp))
theorem ps_for {iter:Expr}{body:List Stmt}{wi:TI}{g:TG}{tb:TS}{pos:Pos}(hp:PassesOwn (model X.prog X.w) X.A X.env X.xe)(hc:X.calm=true)(hi:PI X tg iter wi)(hg:PG X tg g)(hb:PSs X body tb)
  (hs:∀ x,foldedSetIterable iter X.env x=pure x:=by intro _;rfl):PS X (.For tg iter body [] pos) (tFor wi g tb):=by
 intro pins s σ H D I h
 refine wpAny_For (thn (hi pins s σ H _ I h) fun v s1 h1=>thn h1 fun itv s2 h2=>?_) hs
 obtain ⟨it,fp,tn,J,H2,e,I2,T,st2,f2,W,⟨m0,w0⟩,turn⟩:=h2
 subst e
 have stat:∀ {H':Hp},(∀ b∈fp,H' b=none)→∀ b∈fp,FpOk X pins H' b:=fun hn b hb=>⟨hn b hb,(f2 b hb).2⟩
 refine codeAny_forLoop_any (fun n s'=>∃ i σ' H',Inv X pins σ' H' s'∧tn i s'.heap∧(∀ b∈fp,H' b=none)∧W i n σ' H') ?_ m0 ⟨0,σ,H2,I2,st2,fun b hb=>(f2 b hb).1,w0⟩
 rintro n s3 ⟨i,σ3,H3,I3,st3,fr3,w3⟩
 rcases turn i n σ3 H3 w3 with ⟨stop,qn⟩ | ⟨go,N,hN,step⟩
 ·refine wpAny_passesOwn hp (thn (T.done X rfl rfl rfl hc i pins s3 σ3 H3 X.xe I3 (stat fr3) st3 stop) fun r s4 ⟨hr,I4⟩=>?_)
  subst hr
  exact wpAny_execs_nil ⟨σ3,H3,I4,qn⟩
 ·refine wpAny_passesOwn hp (thn (T.item X rfl rfl rfl hc i pins s3 σ3 H3 X.xe I3 (stat fr3) st3 go) fun r s4 ⟨u,hr,h4⟩=>?_)
  subst hr
  refine wpAny_passesOwn hp (thn h4 fun _ s5 ⟨x,H5,I5,r5,y5,st5,fr5⟩=>?_)
  have I5':=I5.pinned (stat fr5) (T.obj _ _ st5)
  refine wpAny_passesOwn hp (thn (hg _ s5 σ3 H5 x u _ I5' r5 (step x H5 y5)) fun _ s6 ⟨σ6,H6,I6,q6⟩=>?_)
  refine wpAny_passesOwn hp (thn (hb _ s6 σ6 H6 _ I6 q6) fun f s7 q7=>?_)
  have again:∀ {σ7:St} {H7:Hp},Inv X (pins++zjX fp s5.heap) σ7 H7 s7→N σ7 H7→∃ m,m < n∧∃ i σ' H',Inv X pins σ' H' s7∧tn i s7.heap∧(∀ b∈fp,H' b=none)∧W i m σ' H':=fun {σ7 H7} I7 n7=>by
   obtain ⟨m',hm,w7⟩:=hN σ7 H7 n7
   refine ⟨m',hm,i+1,σ7,H7,I7.unpinned,T.keep _ _ _ st5 fun b hb o e=>(I7.pin (b,o) (jJ _ (jJ _ (zeq hb e)))).1,fun b hb=>?_,w7⟩
   obtain ⟨o,e,d⟩:=T.obj _ _ st5 b hb
   exact (I7.pin (b,o) (jJ _ (jJ _ (zeq hb e)))).2.1
  cases f with
  | next=>obtain ⟨σ7,H7,I7,n7⟩:=q7;exact again I7 n7
  | cont=>obtain ⟨σ7,H7,I7,n7⟩:=q7;exact again I7 n7
  | brk=>obtain ⟨σ7,H7,I7,q7⟩:=q7;exact ⟨σ7,H7,I7.unpinned,q7⟩
  | ret v=>obtain ⟨x7,σ7,H7,I7,r7,q7⟩:=q7;exact ⟨x7,σ7,H7,I7.unpinned,r7,q7⟩
end
theorem zaV {K:PySem.W.Frag}{a:Addr}{xs:List V}{g:TG}{tb:TS}{D:Ends}{σ :St}{H:Hp}(Pv:Nat→St→Hp→Prop)(h0:Pv 0 σ H)(hl:∀ i σ H,i≤xs.length→Pv i σ H→SqL K H a xs)
  (hs:∀ i x σ H,xs[i]? =some x→Pv i σ H→g x σ H fun σ2 H2=>tb {D with nx:=Pv (i+1),ct:=Pv (i+1),bk:=D.nx} σ2 H2) (hd:∀ σ H,Pv xs.length σ H→D.nx σ H):
  ∃ W:Nat→Nat→St→Hp→Prop,(∃ m,W 0 m σ H)∧∀ i m σ H,W i m σ H→
   ((Itl K a).stop i H∧D.nx σ H)∨((Itl K a).go i H∧∃ N:St→Hp→Prop,(∀ σ' H',N σ' H'→∃ m',m' < m∧W (i+1) m' σ' H')∧∀ x H',(Itl K a).yld i H x H'→g x σ H' fun σ2 H2=>tb {D with nx:=N,ct:=N,bk:=D.nx} σ2 H2):=by
 refine ⟨fun i m σ H=>m=xs.length - i∧i≤xs.length∧Pv i σ H,⟨xs.length,by simp,qL _,h0⟩,?_⟩
 rintro i m σ H ⟨rfl,hi,p⟩
 have q:=hl i σ H hi p
 by_cases hlt:i < xs.length
 ·refine .inr ⟨⟨xs,xs[i],q,by simp [hlt]⟩,Pv (i+1),fun σ' H' p'=>⟨xs.length - (i+1),by omega,rfl,hlt,p'⟩,fun x H' y=>?_⟩
  obtain ⟨e,y⟩:=y
  subst e
  exact hs i x σ _ (y xs q) p
 ·have e:i=xs.length:=by omega
  subst e
  exact .inl ⟨⟨xs,q,yN _⟩,hd σ H p⟩
theorem zeg {lo:Int}{n:Nat}{g:TG}{tb:TS}{D:Ends}{σ :St}{H:Hp}(Pv:Nat→St→Hp→Prop)(h0:Pv 0 σ H)
  (hs:∀ i σ H,i < n→Pv i σ H→g (.int (lo+i)) σ H fun σ2 H2=>tb {D with nx:=Pv (i+1),ct:=Pv (i+1),bk:=D.nx} σ2 H2) (hd:∀ σ H,Pv n σ H→D.nx σ H):
  ∃ W:Nat→Nat→St→Hp→Prop,(∃ m,W 0 m σ H)∧∀ i m σ H,W i m σ H→
   ((Itr lo n).stop i H∧D.nx σ H)∨((Itr lo n).go i H∧∃ N:St→Hp→Prop,(∀ σ' H',N σ' H'→∃ m',m' < m∧W (i+1) m' σ' H')∧∀ x H',(Itr lo n).yld i H x H'→g x σ H' fun σ2 H2=>tb {D with nx:=N,ct:=N,bk:=D.nx} σ2 H2):=by
 refine ⟨fun i m σ H=>m=n - i∧i≤n∧Pv i σ H,⟨n,by simp,qL _,h0⟩,?_⟩
 rintro i m σ H ⟨rfl,hi,p⟩
 by_cases hlt:i < n
 ·refine .inr ⟨hlt,Pv (i+1),fun σ' H' p'=>⟨n - (i+1),by omega,rfl,hlt,p'⟩,fun x H' y=>?_⟩
  obtain ⟨e,y⟩:=y
  subst e y
  exact hs i σ _ hlt p
 ·have e:i=n:=by omega
  subst e
  exact .inl ⟨yN _,hd σ H p⟩
noncomputable abbrev R2:=V→V→Hp→VK→Prop
noncomputable def OpR (X:Cx) (f:Value→Value→Sem Value) (r:R2):Prop:=
 ∀ (pins:List (Addr×Obj)) (s:Shared) (σ :St) (H:Hp) (x y:V) (v u:Value) (Q:VK),Inv X pins σ H s→RelV x v→RelV y u→r x y H Q→
  wpAny (model X.prog X.w) X.A (f v u) (EP X pins σ Q) X.xe s
noncomputable def UnR (X:Cx) (f:Value→Sem Value) (r:V→Hp→VK→Prop):Prop:=
 ∀ (pins:List (Addr×Obj)) (s:Shared) (σ :St) (H:Hp) (x:V) (v:Value) (Q:VK),Inv X pins σ H s→RelV x v→r x H Q→
  wpAny (model X.prog X.w) X.A (f v) (EP X pins σ Q) X.xe s
noncomputable def zfD (X:Cx) (f:Value) (r:List V→Hp→VK→Prop):Prop:=
 ∀ (pins:List (Addr×Obj)) (s:Shared) (σ :St) (H:Hp) (xs:List V) (us:List Value) (Q:VK),Inv X pins σ H s→Vals xs us→r xs H Q→
  wpAny (model X.prog X.w) X.A (call f us) (EP X pins σ Q) X.xe s
noncomputable def tOp (r:R2) (ta tb:TE):TE:=fun σ H Q=>ta σ H fun x H1=>tb σ H1 fun y H2=>r x y H2 Q
noncomputable def tUn (r:V→Hp→VK→Prop) (ta:TE):TE:=fun σ H Q=>ta σ H fun x H1=>r x H1 Q
noncomputable def rI (C:Int→Int→Prop) (g:Int→Int→V):R2:=fun x y H Q=>∃ i j,x= .int i∧y= .int j∧C i j∧Q (g i j) H
noncomputable def rI0 (g:Int→Int→V):R2:=fun x y H Q=>∃ i j,x= .int i∧y= .int j∧Q (g i j) H
noncomputable def rU (g:Int→V):V→Hp→VK→Prop:=fun x H Q=>∃ i,x= .int i∧Q (g i) H
section
variable {X:Cx} {a b c:Expr} {ta tb tc:TE} {pos:Pos}
theorem binT (ha:PE X a ta)(hb:PE X b tb){pins:List (Addr×Obj)}{s:Shared}{σ :St}{H:Hp}{R:V→V→Hp→Prop}(I:Inv X pins σ H s)
  (h:ta σ H fun x H1=>tb σ H1 fun y H2=>R x y H2) {Q:Value→Shared→Prop} {f:Value→Value→Sem Value}
  (hf:∀ v u s2 x y H2,Inv X pins σ H2 s2→RelV x v→RelV y u→R x y H2→wpAny (model X.prog X.w) X.A (f v u) Q X.xe s2):
  wpAny (model X.prog X.w) X.A (eval a X.env) (fun v s₁ =>wpAny (model X.prog X.w) X.A (eval b X.env) (fun u s₂ =>wpAny (model X.prog X.w) X.A (f v u) Q X.xe s₂) X.xe s₁) X.xe s:=by
 refine thn (ha pins s σ H _ I h) fun v s1 ⟨x,H1,I1,r1,q1⟩=>?_
 refine thn (hb pins s1 σ H1 _ I1 q1) fun u s2 ⟨y,H2,I2,r2,q2⟩=>?_
 exact hf v u s2 x y H2 I2 r1 r2 q2
theorem pe_op {op:Operator}{r:R2}(ho:OpR X (binaryOp op) r)(ha:PE X a ta)(hb:PE X b tb):PE X (.BinOp a op b pos) (tOp r ta tb):=by
 intro pins s σ H Q I h
 exact wpAny_BinOp (binT ha hb I h fun v u s2 x y H2 I2 rx ry q=>ho pins s2 σ H2 x y v u Q I2 rx ry q)
theorem pe_un {op:UnaryOp}{r:V→Hp→VK→Prop}(ho:UnR X (unaryOp op) r)(ha:PE X a ta):PE X (.UnaryOp op a pos) (tUn r ta):=by
 intro pins s σ H Q I h
 exact UnaryOp_ (thn (ha pins s σ H _ I h) fun v s1 ⟨x,H1,I1,r1,q1⟩=>ho pins s1 σ H1 x v Q I1 r1 q1)
theorem opI {f:Value→Value→Sem Value}{C:Int→Int→Prop}{g:Int→Int→Int}
  (rule:∀ (i j:Int) (t u:Tok) (s:Shared) (Q:Value→Shared→Prop) (E:Value→Shared→Prop),C i j→Q (.int (g i j) s.toks) {s with toks:=s.toks+1}→wpAny (model X.prog X.w) X.A (f (.int i t) (.int j u)) Q E s):
  OpR X f (rI C fun i j=>.int (g i j)):=by
 intro pins s σ H x y v u Q I rx ry h
 obtain ⟨i,j,rfl,rfl,hc,q⟩:=h
 obtain ⟨t,rfl⟩:=rx
 obtain ⟨t',rfl⟩:=ry
 exact rule i j t t' s _ _ hc ⟨.int (g i j),H,I.tok _,⟨_,rfl⟩,q⟩
theorem opI0 {f:Value→Value→Sem Value}{g:Int→Int→Int}
  (rule:∀ (i j:Int) (t u:Tok) (s:Shared) (Q:Value→Shared→Prop) (E:Value→Shared→Prop),Q (.int (g i j) s.toks) {s with toks:=s.toks+1}→wpAny (model X.prog X.w) X.A (f (.int i t) (.int j u)) Q E s):
  OpR X f (rI0 fun i j=>.int (g i j)):=by
 intro pins s σ H x y v u Q I rx ry h
 obtain ⟨i,j,rfl,rfl,q⟩:=h
 obtain ⟨t,rfl⟩:=rx
 obtain ⟨t',rfl⟩:=ry
 exact rule i j t t' s _ _ ⟨.int (g i j),H,I.tok _,⟨_,rfl⟩,q⟩
theorem opB0 {f:Value→Value→Sem Value}{g:Int→Int→Bool}
  (rule:∀ (i j:Int) (t u:Tok) (s:Shared) (Q:Value→Shared→Prop) (E:Value→Shared→Prop),Q (.bool (g i j)) s→wpAny (model X.prog X.w) X.A (f (.int i t) (.int j u)) Q E s):
  OpR X f (rI0 fun i j=>.bl (g i j)):=by
 intro pins s σ H x y v u Q I rx ry h
 obtain ⟨i,j,rfl,rfl,q⟩:=h
 obtain ⟨t,rfl⟩:=rx
 obtain ⟨t',rfl⟩:=ry
 exact rule i j t t' s _ _ ⟨.bl (g i j),H,I,rfl,q⟩
noncomputable def CDiv (i j:Int):Prop:=0 < j∧j < 1073741824
noncomputable def CPow (i j:Int):Prop:=0≤j∧j≤1000000∧i.natAbs < 2 ^ 64
noncomputable def CMul (i j:Int):Prop:=(-(2 ^ 64) < i∧i < 2 ^ 64)∨(-(2 ^ 64) < j∧j < 2 ^ 64)
theorem CMul.ok {i j:Int}(h:CMul i j):IntMulOk i j:=by
 rcases h with ⟨h1,h2⟩ | ⟨h1,h2⟩
 ·exact .of_left (intBits_le_64 h1 h2)
 ·exact .of_right (intBits_le_64 h1 h2)
theorem zmd (k:Nat):(0:Int)≤2 ^ k:=by
 rw [two_pow_cast]
 exact wG _
theorem zbE:OpR X (binaryOp .Add) (rI0 fun i j=>.int (i+j)):=opI0 fun _ _ _ _ _ _ _ q=>add_int q
theorem zg6:OpR X (binaryOp .Sub) (rI0 fun i j=>.int (i - j)):=opI0 fun _ _ _ _ _ _ _ q=>sub_int q
theorem zmT:OpR X (binaryOp .Mult) (rI CMul fun i j=>.int (i * j)):=opI fun _ _ _ _ _ _ _ hc q=>mul_int q hc.ok
theorem ziC:OpR X (binaryOp .FloorDiv) (rI CDiv fun i j=>.int (i / j)):=opI fun i j _ _ _ _ _ hc q=>by
 have h1:(0:Int) < j:=hc.1
 have h2:j < 1073741824:=hc.2
 exact floordiv_int (by omega) (by rw [wP i (by omega)];exact q) (.inl (PyProof.noPylong_small (by omega)))
theorem zd8:OpR X (binaryOp .Mod) (rI (fun _ j=>0 < j) fun i j=>.int (i % j)):=opI fun i j _ _ _ _ _ hc q=>by
 have h1:(0:Int) < j:=hc
 exact mod_int' (by omega) (by rw [Int.fmod_eq_emod_of_nonneg i (by omega)];exact q)
theorem znJ:OpR X (binaryOp .Pow) (rI CPow fun i j=>.int (i ^ j.toNat)):=opI fun _ _ _ _ _ _ _ hc q=>pow_int_small hc.1 hc.2.1 hc.2.2 q
theorem znU:OpR X (binaryOp .RShift) (rI (fun _ j=>0≤j) fun i j=>.int (i / 2 ^ j.toNat)):=opI fun i j _ _ _ _ _ hc q=>
 rshift_int hc (by rw [wP i (zmd _)];exact q)
theorem zkc:OpR X (binaryOp .BitAnd) (rI0 fun i j=>.int (qT i j)):=opI0 fun _ _ _ _ _ _ _ q=>and_int q
theorem zp1:OpR X (binaryOp .BitOr) (rI0 fun i j=>.int (jF i j)):=opI0 fun _ _ _ _ _ _ _ q=>or_int q
theorem zla:OpR X (binaryOp .BitXor) (rI0 fun i j=>.int (qX i j)):=opI0 fun _ _ _ _ _ _ _ q=>xor_int q
theorem unI {f:Value→Sem Value}{g:Int→Int}
  (rule:∀ (i:Int) (t:Tok) (s:Shared) (Q:Value→Shared→Prop) (E:Value→Shared→Prop),Q (.int (g i) s.toks) {s with toks:=s.toks+1}→wpAny (model X.prog X.w) X.A (f (.int i t)) Q E s):
  UnR X f (rU fun i=>.int (g i)):=by
 intro pins s σ H x v Q I rx h
 obtain ⟨i,rfl,q⟩:=h
 obtain ⟨t,rfl⟩:=rx
 exact rule i t s _ _ ⟨.int (g i),H,I.tok _,⟨_,rfl⟩,q⟩
theorem zhL:UnR X (unaryOp .USub) (rU fun i=>.int (-i)):=unI fun _ _ _ _ _ q=>neg_int q
end
noncomputable def scal:V→V→Bool
 | .non,.non=>true | .non,.int _=>true | .int _,.non=>true | .non,.bl _=>true | .bl _,.non=>true | .non,.str _=>true | .str _,.non=>true
 | .int _,.int _=>true | .bl _,.bl _=>true | .str _,.str _=>true | .byt _,.byt _=>true
 | .int _,.str _=>true | .str _,.int _=>true | .bl _,.str _=>true | .str _,.bl _=>true
 | _,_=>false
noncomputable def rEq:R2:=fun x y H Q=>scal x y=true∧Q (.bl (decide (x=y))) H
noncomputable def rNe:R2:=fun x y H Q=>scal x y=true∧Q (.bl (!decide (x=y))) H
theorem zmY {i j:Int}:decide (V.int i=V.int j)=(i==j):=by
 rw [xJ]
 simp
theorem zoZ {i j:Bool}:decide (V.bl i=V.bl j)=(i==j):=by
 rw [xJ]
 simp
theorem zm9 {i j:Str}:decide (V.str i=V.str j)=(i==j):=by
 rw [xJ]
 simp
theorem zmU {i j:Array UInt8}:decide (V.byt i=V.byt j)=(i.toList==j.toList):=by
 rw [xJ]
 cases i
 cases j
 simp
section
variable {X:Cx} {a b c:Expr} {ta tb tc:TE} {pos:Pos}
theorem zbb {pins:List (Addr×Obj)}{σ :St}{H:Hp}{s:Shared}{Q:VK}{k k':Bool}(I:Inv X pins σ H s)(q:Q (.bl k) H)(e:k=k'):EP X pins σ Q (.bool k') s:=by
 subst e
 exact ⟨.bl k,H,I,rfl,q⟩
theorem zdS:OpR X (compareOp .Eq) rEq:=by
 intro pins s σ H x y v u Q I rx ry h
 obtain ⟨hs,q⟩:=h
 cases x with
 | non=>
  cases rx
  cases y with
  | non=>cases ry;exact PySem.EqNone.eq_none_none (zbb I q (by simp))
  | bl j=>cases ry;exact PySem.EqNone.eq_none_bool (zbb I q (by simp))
  | int j=>obtain ⟨t',rfl⟩:=ry;exact PySem.EqNone.eq_none_int (zbb I q (by simp))
  | str j=>obtain ⟨t',rfl⟩:=ry;exact PySem.EqNone.eq_none_str (zbb I q (by simp))
  | _=>exact absurd (show false=true from hs) yS
 | bl i=>
  cases rx
  cases y with
  | non=>cases ry;exact PySem.EqNone.eq_bool_none (zbb I q (by simp))
  | bl j=>cases ry;exact eq_bool (zbb I q zoZ)
  | str j=>obtain ⟨t',rfl⟩:=ry;exact PySem.EqMixed.eq_bool_str (zbb I q (by simp))
  | _=>exact absurd (show false=true from hs) yS
 | int i=>
  obtain ⟨t,rfl⟩:=rx
  cases y with
  | non=>cases ry;exact PySem.EqNone.eq_int_none (zbb I q (by simp))
  | int j=>obtain ⟨t',rfl⟩:=ry;exact eq_int (zbb I q zmY)
  | str j=>obtain ⟨t',rfl⟩:=ry;exact PySem.EqMixed.eq_int_str (zbb I q (by simp))
  | _=>exact absurd (show false=true from hs) yS
 | str i=>
  obtain ⟨t,rfl⟩:=rx
  cases y with
  | non=>cases ry;exact PySem.EqNone.eq_str_none (zbb I q (by simp))
  | bl j=>cases ry;exact PySem.EqMixed.eq_str_bool (zbb I q (by simp))
  | int j=>obtain ⟨t',rfl⟩:=ry;exact PySem.EqMixed.eq_str_int (zbb I q (by simp))
  | str j=>obtain ⟨t',rfl⟩:=ry;exact eq_str (zbb I q zm9)
  | _=>exact absurd (show false=true from hs) yS
 | byt i=>
  obtain ⟨t,rfl⟩:=rx
  cases y with
  | byt j=>obtain ⟨t',rfl⟩:=ry;exact PySem.W.eq_bytes (zbb I q zmU)
  | _=>exact absurd (show false=true from hs) yS
 | _=>cases y <;> exact absurd (show false=true from hs) yS
theorem op_ne:OpR X (compareOp .NotEq) rNe:=by
 intro pins s σ H x y v u Q I rx ry h
 obtain ⟨hs,q⟩:=h
 cases x with
 | non=>
  cases rx
  cases y with
  | non=>cases ry;exact PySem.EqNone.ne_none_none (zbb I q (by simp))
  | bl j=>cases ry;exact PySem.EqNone.ne_none_bool (zbb I q (by simp))
  | int j=>obtain ⟨t',rfl⟩:=ry;exact PySem.EqNone.ne_none_int (zbb I q (by simp))
  | str j=>obtain ⟨t',rfl⟩:=ry;exact PySem.EqNone.ne_none_str (zbb I q (by simp))
  | _=>exact absurd (show false=true from hs) yS
 | bl i=>
  cases rx
  cases y with
  | non=>cases ry;exact PySem.EqNone.ne_bool_none (zbb I q (by simp))
  | bl j=>cases ry;exact ne_bool (zbb I q (congrArg not zoZ))
  | str j=>obtain ⟨t',rfl⟩:=ry;exact PySem.EqMixed.ne_bool_str (zbb I q (by simp))
  | _=>exact absurd (show false=true from hs) yS
 | int i=>
  obtain ⟨t,rfl⟩:=rx
  cases y with
  | non=>cases ry;exact PySem.EqNone.ne_int_none (zbb I q (by simp))
  | int j=>obtain ⟨t',rfl⟩:=ry;exact ne_int (zbb I q (congrArg not zmY))
  | str j=>obtain ⟨t',rfl⟩:=ry;exact PySem.EqMixed.ne_int_str (zbb I q (by simp))
  | _=>exact absurd (show false=true from hs) yS
 | str i=>
  obtain ⟨t,rfl⟩:=rx
  cases y with
  | non=>cases ry;exact PySem.EqNone.ne_str_none (zbb I q (by simp))
  | bl j=>cases ry;exact PySem.EqMixed.ne_str_bool (zbb I q (by simp))
  | int j=>obtain ⟨t',rfl⟩:=ry;exact PySem.EqMixed.ne_str_int (zbb I q (by simp))
  | str j=>obtain ⟨t',rfl⟩:=ry;exact ne_str (zbb I q (congrArg not zm9))
  | _=>exact absurd (show false=true from hs) yS
 | byt i=>
  obtain ⟨t,rfl⟩:=rx
  cases y with
  | byt j=>obtain ⟨t',rfl⟩:=ry;exact PySem.W.ne_bytes (zbb I q (congrArg not zmU))
  | _=>exact absurd (show false=true from hs) yS
 | _=>cases y <;> exact absurd (show false=true from hs) yS
theorem zpS:OpR X (compareOp .Lt) (rI0 fun i j=>.bl (decide (i < j))):=opB0 fun _ _ _ _ _ _ _ q=>lt_int q
theorem op_le:OpR X (compareOp .LtE) (rI0 fun i j=>.bl (decide (i≤j))):=opB0 fun _ _ _ _ _ _ _ q=>le_int q
theorem op_gt:OpR X (compareOp .Gt) (rI0 fun i j=>.bl (decide (j < i))):=opB0 fun _ _ _ _ _ _ _ q=>gt_int q
theorem op_ge:OpR X (compareOp .GtE) (rI0 fun i j=>.bl (decide (j≤i))):=opB0 fun _ _ _ _ _ _ _ q=>ge_int q
theorem zaO (b:Expr){op:CmpOp}(h:op≠.In:=by decide)(h2:op≠.NotIn:=by decide):behindInMarks op b=false:=by
 have e1:(op==CmpOp.In)=false:=by cases op <;> first | rfl | exact absurd rfl h
 have e2:(op==CmpOp.NotIn)=false:=by cases op <;> first | rfl | exact absurd rfl h2
 cases b <;> simp [behindInMarks,e1,e2]
theorem zqn {op:CmpOp}{r:R2}(ho:OpR X (compareOp op) r)(ha:PE X a ta)(hb:PE X b tb)(hm:behindInMarks op b=false):PE X (.Compare a [op] [b] pos) (tOp r ta tb):=by
 intro pins s σ H Q I h
 exact wpAny_Compare1 (binT ha hb I h fun v u s2 x y H2 I2 rx ry q=>ho pins s2 σ H2 x y v u Q I2 rx ry q) hm
noncomputable def zoH (t:TE):TT:=fun σ H Q=>t σ H fun x H'=>∃ k,x= .bl k∧Q k H'
theorem zpD {op:CmpOp}{r:R2}(ho:OpR X (compareOp op) r)(ha:PE X a ta)(hb:PE X b tb)(hm:behindInMarks op b=false):PT X (.Compare a [op] [b] pos) (zoH (tOp r ta tb)):=by
 intro pins s σ H Q I h
 refine wpAny_isTrue_Compare1 (thn (ha pins s σ H _ I h) fun v s1 ⟨x,H1,I1,r1,q1⟩=>thn (hb pins s1 σ H1 _ I1 q1) fun u s2 ⟨y,H2,I2,r2,q2⟩=>
  thn (ho pins s2 σ H2 x y v u _ I2 r1 r2 q2) fun c s3 ⟨z,H3,I3,r3,k,e,q3⟩=>?_) hm
 subst e
 cases r3
 exact wpAny_truthy_bool ⟨H3,I3,q3⟩
noncomputable def zpd (r r':R2) (ta tb tc:TE):TE:=fun σ H Q=>ta σ H fun x H1=>tb σ H1 fun y H2=>r x y H2 fun z H3=>∃ k,z= .bl k∧
 (if k=true then tc σ H3 fun w' H4=>r' y w' H4 Q else Q (.bl false) H3)
theorem zoD {op op':CmpOp}{r r':R2}(ho:OpR X (compareOp op) r)(ho':OpR X (compareOp op') r')(ha:PE X a ta)(hb:PE X b tb)(hc:PE X c tc)
  (hm:lastMarks [op,op'] [b,c]=false:=by with_unfolding_all rfl):PT X (.Compare a [op,op'] [b,c] pos) (zoH (zpd r r' ta tb tc)):=by
 intro pins s σ H Q I h
 refine isTrue_chain (thn (ha pins s σ H _ I h) fun v s1 ⟨x,H1,I1,r1,q1⟩=>test_link (thn (hb pins s1 σ H1 _ I1 q1) fun u s2 ⟨y,H2,I2,r2,q2⟩=>
  thn (ho pins s2 σ H2 x y v u _ I2 r1 r2 q2) fun d s3 ⟨z,H3,I3,r3,k,e,q3⟩=>?_)) hm
 subst e
 cases r3
 refine wpAny_truthy_bool ?_
 cases k with
 | false=>
  obtain ⟨k',e',q'⟩:=q3
  cases e'
  exact ite_ff ⟨H3,I3,q'⟩
 | true=>
  refine ite_tt (test_last (thn (hc pins s3 σ H3 _ I3 q3) fun w' s4 ⟨z',H4,I4,r4,q4⟩=>thn (ho' pins s4 σ H4 y z' u w' _ I4 r2 r4 q4) fun d' s5 ⟨z2,H5,I5,r5,k2,e2,q5⟩=>?_))
  subst e2
  cases r5
  exact wpAny_truthy_bool ⟨H5,I5,q5⟩
theorem zkS:(yM:Nat) < 2 ^ 63:=by rw [sizeLine_eq];decide
theorem ziF {x:V}{us:List Value}(r:Vals [x] us):∃ u,us= [u]∧RelV x u:=by
 cases r with
 | cons r1 r2=>cases r2;exact ⟨_,rfl,r1⟩
theorem vals2 {x y:V}{us:List Value}(r:Vals [x,y] us):∃ u w',us= [u,w']∧RelV x u∧RelV y w':=by
 cases r with
 | cons r1 r2=>
  cases r2 with
  | cons r3 r4=>cases r4;exact ⟨_,_,rfl,r1,r3⟩
theorem znP (hc:X.calm=true):zfD X (.builtin "min") (fun xs H Q=>∃ i j,xs= [.int i,.int j]∧Q (.int (if j < i then j else i)) H):=by
 intro pins s σ H xs us Q I r h
 obtain ⟨i,j,rfl,q⟩:=h
 obtain ⟨u,w',rfl,⟨t,rfl⟩,⟨t',rfl⟩⟩:=vals2 r
 refine min_two_ints (I.ok.hd hc) fun h' tk k=>⟨_,H,I.kept k,?_,q⟩
 by_cases hj:j < i
 ·rw [if_pos hj,if_pos hj];exact ⟨_,rfl⟩
 ·rw [if_neg hj,if_neg hj];exact ⟨_,rfl⟩
theorem zhn:zfD X (.type "int") (fun xs H Q=>(∃ i,xs= [.int i]∧Q (.int i) H)∨∃ k,xs= [.bl k]∧Q (.int (if k then 1 else 0)) H):=by
 intro pins s σ H xs us Q I r h
 rcases h with ⟨i,rfl,q⟩ | ⟨k,rfl,q⟩
 ·obtain ⟨u,rfl,t,rfl⟩:=ziF r
  exact call_int_int ⟨.int i,H,I,⟨_,rfl⟩,q⟩
 ·obtain ⟨u,rfl,r1⟩:=ziF r
  cases r1
  exact call_int_bool ⟨.int (if k then 1 else 0),H,I.tok _,⟨_,rfl⟩,q⟩
end
section
variable {prog:Program} {w:World} {A:Around} {E:Value→Shared→Prop} {s:Shared} {K:PySem.W.Frag} {x dx C f:Addr} {mA:Str→Option Value} {name:Str} {v:Value}
end
theorem RelO.some_of {v:V}{o:Option Value}(r:RelO (some v) o):∃ u,o=some u∧RelV v u:=by
 cases o with
 | none=>exact (show False from r).elim
 | some u=>exact ⟨u,rfl,r⟩
section
variable {P:Program} {w:World} {H H':Hp} {h h':Heap} {a C dx:Addr} {fs fs':List (Str×V)}
end
section
variable {X:Cx} {pins:List (Addr×Obj)} {σ :St} {H:Hp} {s:Shared} {a C dx:Addr} {fs:List (Str×V)} {f:Str} {v:V} {A:Around} {E:Value→Shared→Prop}
end
section
variable {X:Cx} {o e value:Expr} {f:Str} {pos pos' tpos:Pos} {ta tv:TE}
end
section
variable {X:Cx} {pins:List (Addr×Obj)} {σ :St} {H:Hp} {s:Shared} {A:Around} {E:Value→Shared→Prop} {Q:Value→Shared→Prop} {c:Value} {b:Bool}
end
structure Room (k:Nat) (A:Around):Prop where
 hd:A.handled=none
 dp:A.depth+3 * k+5 < recursionLimit
 un:A.units+16 * k+200 < cLine
 gd:A.guards=some []
theorem Room.mono {j k:Nat}{A:Around}(r:Room k A)(h:j≤k):Room j A:=⟨r.hd,by have:=r.dp;omega,by have:=r.un;omega,r.gd⟩
theorem Room.deeper {k:Nat}{A:Around}(r:Room (k+1) A)(env:Env):Room k (A.deeper env):=
 ⟨r.hd,by have:=r.dp;show A.depth+1+3 * k+5 < _;omega,by have:=r.un;show A.units+3+16 * k+200 < _;omega,r.gd⟩
theorem Room.depth {k:Nat}{A:Around}(r:Room k A):A.depth < recursionLimit:=by have:=r.dp;omega
theorem Room.units {k:Nat}{A:Around}(r:Room k A):A.units+64 < cLine:=by have:=r.un;omega
noncomputable def tNil:TA:=fun _ H Q=>Q [] H
noncomputable def tCons (ta:TE) (tr:TA):TA:=fun σ H Q=>ta σ H fun x H1=>tr σ H1 fun xs H2=>Q (x::xs) H2
section
variable {X:Cx} {e:Expr} {es:List Expr} {te:TE} {t:TA} {pos:Pos}
theorem pa_nil:PA X [] tNil:=fun _ _ _ _ H Q I h=>wN ⟨[],H,I,.nil,h⟩
theorem zpC (ha:PE X e te)(hr:PA X es t)(hs:starEach (e::es) X.env=(false,eval e X.env)::starEach es X.env:=by rfl):PA X (e::es) (tCons te t):=by
 intro pos pins s σ H Q I h
 rw [hs]
 show wpAny _ _ (spliced ((false,eval e X.env)::backTo pos (starEach es X.env))) _ _ s
 refine kF (thn (ha pins s σ H _ I h) fun u s1 ⟨x,H1,I1,r1,q1⟩=>?_)
 exact thn (hr pos pins s1 σ H1 _ I1 q1) fun us s2 ⟨xs,H2,I2,r2,q2⟩=>⟨x::xs,H2,I2,.cons r1 r2,q2⟩
noncomputable def tTup (t:TA):TE:=fun σ H Q=>t σ H fun xs H1=>xs.length≤yM∧∀ p,H1 p=none→Q (.ref p) (upd H1 p (.tup xs))
noncomputable def tLst (t:TA):TE:=fun σ H Q=>t σ H fun xs H1=>xs.length≤yM∧∀ p,H1 p=none→Q (.ref p) (upd H1 p (.lst xs))
theorem pe_tup {x1}(h:PA X es t):PE X (.Tuple es x1 pos) (tTup t):=by
 intro pins s σ H Q I hq
 refine wpAny_Tuple_spliced (thn (h pos pins s σ H _ I hq) fun us s1 ⟨xs,H1,I1,r,z,q⟩=>⟨by rw [← r.length];exact z,?_⟩)
 have hf:H1 s1.heap.objs.size=none:=I1.hok.fresh (yN _)
 refine ⟨.ref s1.heap.objs.size,upd H1 s1.heap.objs.size (.tup xs),I1.laid (t':=s1.toks) (fun b u e=>yI _ e) (yN _) ?_,rfl,q _ hf⟩
 exact ⟨z,us,r,⟨_,yT _ rfl,rfl,_,rfl⟩⟩
theorem pe_lst (h:PA X es t):PE X (.List es pos) (tLst t):=by
 intro pins s σ H Q I hq
 refine wpAny_List_spliced (thn (h pos pins s σ H _ I hq) fun us s1 ⟨xs,H1,I1,r,z,q⟩=>⟨by rw [← r.length];exact z,?_⟩)
 have hf:H1 s1.heap.objs.size=none:=I1.hok.fresh (yN _)
 refine ⟨.ref s1.heap.objs.size,upd H1 s1.heap.objs.size (.lst xs),I1.laid (t':=s1.toks) (fun b u e=>yI _ e) (yN _) ?_,rfl,q _ hf⟩
 exact ⟨z,us,0,r,yT _ rfl⟩
end
noncomputable abbrev Sp:=List V→Hp→VK→XK→Prop
noncomputable abbrev CXT:=List Env→Hp→Shared→XK→Value→Shared→Prop
structure Env0 (P:Program) (w:World) (K:PySem.W.Frag) (mg:Str→Option Value) (base:Heap) (A:Around) (outer:List Env) (s:Shared) (H:Hp):Prop where
 frames:A.frames=some outer
 mod:Mod K mg base
 bs:∀ b o,base.get? b=some o→s.heap.get? b=some o∧H b=none
 bsz:base.objs.size≤s.heap.objs.size
 funs:s.heap.FunFrames base outer
 frf:∀ b∈frs outer,H b=none
 hok:HOk P w H s.heap
 bare:AllBare s.gens
noncomputable def CE (outer:List Env) (P:Program) (w:World) (H:Hp) (s:Shared) (Q:VK) (u:Value) (s':Shared):Prop:=
 ∃ v H',s'.os=s.os∧AllBare s'.gens∧Un (frs outer) [] H H' s.heap s'.heap∧HOk P w H' s'.heap∧RelV v u∧Q v H'
noncomputable def CR (CX:CXT) (outer:List Env) (P:Program) (w:World) (H:Hp) (s:Shared) (Q:VK) (E:XK) (r:Result) (s':Shared):Prop:=
 match r with
 | .ok (.ret u)=>CE outer P w H s Q u s'
 | .ok _=>False
 | .error e=>CX outer H s E e s'
structure FnOk (P:Program) (w:World) (K:PySem.W.Frag) (mg:Str→Option Value) (base:Heap) (CX:CXT) (k:Nat) (f:Addr) (fd:FuncData) (ps:List Str) (sp:Sp):Prop where
 len:∀ vs H Q E,sp vs H Q E→vs.length=ps.length
 run:∀ (A:Around) (outer:List Env) (s:Shared) (H:Hp) (args:Args) (us:List Value) (vs:List V) (Q:VK) (E:XK),Room k A→Env0 P w K mg base A outer s H→BindsTo s fd args (ps.zip us)→Vals vs us→sp vs H Q E→
  codeAny (model P w) A (.call (.ref f) args) (CR CX outer P w H s Q E) s
theorem FnOk.imp {P:Program}{w:World}{K:PySem.W.Frag}{mg:Str→Option Value}{base:Heap}{CX:CXT}{k:Nat}{f:Addr}{fd:FuncData}{ps:List Str}{sp sp':Sp}(F:FnOk P w K mg base CX k f fd ps sp)
  (h:∀ vs H Q E,sp' vs H Q E→sp vs H Q E):FnOk P w K mg base CX k f fd ps sp':=
 ⟨fun vs H Q E q=>F.len vs H Q E (h _ _ _ _ q),fun A outer s H args us vs Q E hr he hb hv hs=>F.run A outer s H args us vs Q E hr he hb hv (h _ _ _ _ hs)⟩
section
variable {X:Cx} {pins:List (Addr×Obj)} {σ :St} {H:Hp} {s s':Shared}
theorem Inv.env0 (I:Inv X pins σ H s):Env0 X.prog X.w X.K X.mg X.base X.A X.stack s H:=
 ⟨I.ok.frames,I.ok.mod,I.bs,jB I.ok.bsz I.sz,I.stack,I.stkFree,I.hok,I.bare⟩
theorem Inv.after {Q:VK}{u:Value}(I:Inv X pins σ H s)(h:CE X.stack X.prog X.w H s Q u s'):EP X pins σ Q u s':=by
 obtain ⟨v,H',os,bare,un,hok,r,q⟩:=h
 obtain ⟨hh,g,d,t,os'⟩:=s'
 obtain rfl:os'=s.os:=os
 exact ⟨v,H',I.call (h':=hh) (g':=g) (d':=d) (t':=t) (ch:=[]) un hok bare (fun b z=>absurd z (by simp)),r,q⟩
end
noncomputable def tCall (sp:Sp) (dvs:List V) (E:XK) (t:TA):TE:=fun σ H Q=>t σ H fun vs H1=>sp (vs++dvs) H1 Q E
noncomputable def zhu (K:PySem.W.Frag) (fd:FuncData) (ps:List Str) (ds:List Value):Prop:=
 ∀ (s:Shared) (us:List Value),K.In s.heap→(us++ds).length=ps.length→BindsTo s fd ⟨us,[]⟩ (ps.zip (us++ds))
theorem zhu.all {K:PySem.W.Frag}{fd:FuncData}{ps:List Str}(h:∀ us:List Value,us.length=ps.length→bindArgs fd ⟨us,[]⟩=pure (ps.zip us)):zhu K fd ps []:=fun s us _ hl=>by
 rw [jW] at hl ⊢
 exact .of_eq (h us hl)
noncomputable def zlD (CX:CXT) (X:Cx) (E:XK):Prop:=∀ (pins:List (Addr×Obj)) (σ :St) (H:Hp) (s:Shared) (e:Value) (s':Shared),Inv X pins σ H s→CX X.stack H s E e s'→X.xe e s'
section
variable {X:Cx} {CX:CXT} {k:Nat} {f C:Addr} {fd:FuncData} {ps:List Str} {sp:Sp} {dvs:List V} {ds:List Value} {E:XK} {x m:Str} {p pos apos:Pos} {e o:Expr} {es:List Expr} {ta:TE} {t:TA}
theorem run_fn {pins:List (Addr×Obj)}{σ :St}{H:Hp}{s:Shared}{Q:VK}{us:List Value}{vs:List V}(F:FnOk X.prog X.w X.K X.mg X.base CX k f fd ps sp)(hr:Room k X.A)(hb:zhu X.K fd ps ds)(hd:Vals dvs ds)(hx:zlD CX X E)
  (I:Inv X pins σ H s) (r:Vals vs us) (h:sp (vs++dvs) H Q E):wpAny (model X.prog X.w) X.A (call (.ref f) us) (EP X pins σ Q) X.xe s:=by
 have r2:Vals (vs++dvs) (us++ds):=r.append hd
 have hl:(us++ds).length=ps.length:=by rw [← r2.length];exact F.len _ _ _ _ h
 refine wpAny_call (codeAny_mono (F.run X.A X.stack s H ⟨us,[]⟩ (us++ds) (vs++dvs) Q E hr I.env0 (hb s us I.kIn hl) r2 h) fun r s' hq=>?_)
 cases r with
 | error e=>exact hx pins σ H s e s' I hq
 | ok fl=>
  cases fl with
  | ret u=>exact I.after hq
  | next=>exact wM hq
  | brk=>exact wM hq
  | cont=>exact wM hq
theorem zp3 (F:FnOk X.prog X.w X.K X.mg X.base CX k f fd ps sp)(hr:Room k X.A)(hg:Gl X x)(hm:X.mg x=some (.ref f))(hk:PySem.W.keepIn X.K (.ref f)=true)(hb:zhu X.K fd ps ds)(hd:Vals dvs ds)(hx:zlD CX X E)
  (ha:PA X (e::es) t) (hdb:(x==("__debug__" :Str))=false:=by decide) (he:starEach (e::es) X.env=(false,eval e X.env)::starEach es X.env:=by rfl) (hpl:(backTo pos (starEach es X.env)).any (·.1)=false:=by rfl):
  PE X (.Call (.Name x p) (e::es) [] pos) (tCall sp dvs E t):=by
 intro pins s σ H Q I h
 refine wpAny_Call_Name_kw (zmQ I hg hm ?_ hdb)
 refine PySem.W.callWith_K (h₀ :=X.base) I.ok.mod.kin hk (thn (ha pos pins s σ H _ I h) fun us s1 ⟨vs,H1,I1,r,q⟩=>⟨I1.kIn,?_⟩) he hpl
 exact run_fn F hr hb hd hx I1 r q
end
section
variable {X:Cx} {CX:CXT} {k:Nat} {f C:Addr} {fd:FuncData} {ps ks:List Str} {sp:Sp} {E:XK} {x m:Str} {p pos apos kpos:Pos} {e o:Expr} {es:List Expr} {kws:List Keyword} {te ta:TE} {t tk:TA} {nm:Option Str}
variable {g:List Value→List Value→List Value} {gV:List V→List V→List V}
end
structure zat (N P:List Str) (sc:Scope):Prop where
 kind:sc.kind= .function
 co:sc.isCoroutine=false
 gen:sc.isGenerator=false
 nd:N.Nodup
 pre:N.take P.length=P
 par:∀ x∈P,sc.names.lookup x=some .local∨sc.names.lookup x=some .cell
 nofree:∀ y∈sc.names,y.2≠.free
theorem zjo {kindOf:Str→Option NameKind}{x:Str}:∀ {binds:List (Str×Value)} {m:Str→Option Value},(∀ v,(x,v)∉binds)→bindL kindOf binds m x=m x
 | [],_,_=>rfl
 | (n,v)::r,m,h=>by
  unfold bindL
  rw [zjo fun w hw=>h w (jU _ hw)]
  split
  ·have:x≠n:=by rintro rfl;exact h v xN
   simp [this]
  ·rfl
theorem zju {kindOf:Str→Option NameKind}{x:Str}:∀ {binds:List (Str×Value)} {m:Str→Option Value},(∀ v,(x,v)∉binds)→bindC kindOf binds m x=m x
 | [],_,_=>rfl
 | (n,v)::r,m,h=>by
  unfold bindC
  rw [zju fun w hw=>h w (jU _ hw)]
  split
  ·rfl
  ·have:x≠n:=by rintro rfl;exact h v xN
   simp [this]
theorem zjE {kindOf:Str→Option NameKind}{x:Str}{v:Value}:∀ {P:List Str} {vs:List Value} {i:Nat} {m:Str→Option Value},P.Nodup→P[i]? =some x→vs[i]? =some v→kindOf x=some .local→
  bindL kindOf (P.zip vs) m x=some v
 | [],_,_,_,_,h,_,_=>by simp at h
 | _::_,[],_,_,_,_,h,_=>by simp at h
 | p::P,w::vs,0,m,nd,h1,h2,hk=>by
  simp at h1 h2;subst h1;subst h2
  show bindL kindOf ((p,w)::P.zip vs) m p=_
  unfold bindL
  rw [zjo fun v hv=>(xR.mp nd).1 (ybw hv).1,if_pos hk]
  simp
 | p::P,w::vs,i+1,m,nd,h1,h2,hk=>by
  show bindL kindOf ((p,w)::P.zip vs) m x=_
  unfold bindL
  exact zjE (i:=i) (xR.mp nd).2 (by simpa using h1) (by simpa using h2) hk
theorem zjs {kindOf:Str→Option NameKind}{x:Str}{v:Value}:∀ {P:List Str} {vs:List Value} {i:Nat} {m:Str→Option Value},P.Nodup→P[i]? =some x→vs[i]? =some v→kindOf x≠some .local→
  bindC kindOf (P.zip vs) m x=some v
 | [],_,_,_,_,h,_,_=>by simp at h
 | _::_,[],_,_,_,_,h,_=>by simp at h
 | p::P,w::vs,0,m,nd,h1,h2,hk=>by
  simp at h1 h2;subst h1;subst h2
  show bindC kindOf ((p,w)::P.zip vs) m p=_
  unfold bindC
  rw [zju fun v hv=>(xR.mp nd).1 (ybw hv).1,if_neg hk]
  simp
 | p::P,w::vs,i+1,m,nd,h1,h2,hk=>by
  show bindC kindOf ((p,w)::P.zip vs) m x=_
  unfold bindC
  exact zjs (i:=i) (xR.mp nd).2 (by simpa using h1) (by simpa using h2) hk
noncomputable def start (N:List Str) (vs:List V):St:=vs.map some++qG (N.length - vs.length) none
noncomputable def cxOf (CX:CXT) (P:Program) (w:World) (K:PySem.W.Frag) (mg:Str→Option Value) (base:Heap) (N:List Str) (qual:Str) (scope:Scope) (f:Addr) (cd:Value) (A:Around) (outer:List Env) (s:Shared) (H:Hp) (E:XK):Cx where
 prog:=P
 w:=w
 K:=K
 mg:=mg
 base:=base
 A:=A.deeper (envOfC qual scope s.heap.objs.size f cd)
 N:=N
 s₀ :=s
 H₀ :=H
 env:=envOfC qual scope s.heap.objs.size f cd
 outer:=outer
 stack:=envOfC qual scope s.heap.objs.size f cd::outer
 ex:=[]
 calm:=true
 fn:=fun _=>true
 pn:=[]
 xe:=fun e s'=>wpAny (model P w) (A.deeper (envOfC qual scope s.heap.objs.size f cd)) (leaving (envOfC qual scope s.heap.objs.size f cd) e) (fun _ s''=>CX outer H s E e s'') (fun e' s''=>CX outer H s E e' s'') s'
theorem zlA {sc:Scope}{n:Nat}{x:Str}(h:sc.names.lookup x=some .cell):∃ c,(cellsFrom n sc.names []).lookup x=some c:=by
 have q:=PySem.W.cellsFrom_some sc.names n [] (.inl h)
 exact Option.isSome_iff_exists.mp q
theorem znX {CX:CXT}{P:Program}{w:World}{K:PySem.W.Frag}{mg:Str→Option Value}{base:Heap}{N ps:List Str}{qual:Str}{scope:Scope}{f:Addr}{cd:Value}{A:Around}{outer:List Env}{s s1:Shared}{H:Hp}{E:XK}{us:List Value}{vs:List V}
  (S:zat N ps scope) (hd:A.handled=none) (e0:Env0 P w K mg base A outer s H) (hl:vs.length=ps.length) (r:Vals vs us)
  (x:InCallC s s.heap.objs.size (bindL (envOfC qual scope s.heap.objs.size f cd).kindOf (ps.zip us) fun _=>none) (cellsFrom (s.heap.objs.size+1) scope.names []) (bindC (envOfC qual scope s.heap.objs.size f cd).kindOf (ps.zip us) fun _=>none) s1):
  Inv (cxOf CX P w K mg base N qual scope f cd A outer s H E) [] (start N vs) H s1:=by
 have hpl:ps.length≤N.length:=by have:=congrArg vI S.pre;rw [yP] at this;omega
 obtain ⟨h1,tk,rfl,hk⟩:=x.done
 have noA:∀ b:Addr,b∉(cxOf CX P w K mg base N qual scope f cd A outer s H E).ex:=fun b z=>absurd (show b∈([]:List Addr) from z) (by simp)
 refine ⟨⟨e0.mod,S.kind,rfl,rfl,yN _,fun y z c h1 h2=>?_,fun y hy=>?_,fun y c _ h=>?_,fun _=>hd,Around.frames_deeper e0.frames,.inr ⟨rfl,rfl⟩,fun b z=>absurd z (noA b),e0.bs,e0.bsz,fun b _ _=>noA b,fun b z=>absurd z (noA b),e0.funs,e0.frf⟩,
  rfl,e0.bare,Un.kept hk,⟨_,x.toInCall.ns,fun i y v h1 h2 h3=>?_⟩,fun y c h=>⟨_,x.cell y c h⟩,e0.hok.fresh (yN _),fun y c h=>?_,fun p hp=>absurd (show p∈([]:List (Addr×Obj)) from hp) (by simp),e0.hok.kept hk,?_⟩
 ·exact name_of_addr x.apart (kZ h1) (kZ h2)
 ·have hy:scope.names.lookup y=some .cell∨scope.names.lookup y=some .free:=hy
  rcases hy with hy | hy
  ·exact zlA hy
  ·exact absurd rfl (S.nofree _ (kZ hy))
 ·exact yai (x.above y c (kZ h))
 ·have hi:i < vs.length:=by
   unfold start at h2
   by_cases hi:i < vs.length
   ·exact hi
   ·rw [qV (by simpa using hi)] at h2
    rw [yan] at h2
    split at h2 <;> cases h2
  have ha:vs[i]? =some v:=by
   unfold start at h2
   rw [qU (by simpa using hi),yG] at h2
   cases e:vs[i]? with
   | none=>rw [e] at h2;cases h2
   | some a=>rw [e] at h2;cases h2;rfl
  obtain ⟨u,hu,rv⟩:=r.get ha
  have hp:ps[i]? =some y:=by
   rw [← S.pre,yaj (by omega)];exact h1
  have ndP:ps.Nodup:=by rw [← S.pre];exact S.nd.sublist (List.take_sublist _ _)
  refine ⟨u,rv,?_⟩
  rcases S.par y (yH hp) with k | k
  ·exact .inl ⟨k,zjE ndP hp hu k⟩
  ·obtain ⟨c,e⟩:=zlA (n:=s.heap.objs.size+1) k
   refine .inr ⟨.inl k,c,e,?_⟩
   have q:=x.cell y c e
   rw [zjs ndP hp hu (by show scope.names.lookup y≠_;rw [k];decide)] at q
   exact q
 ·exact e0.hok.fresh (yai (x.above y c (kZ h)))
 ·unfold start
  show _=N.length
  rw [yJ,yB,vL]
  omega
theorem fn_of {CX:CXT}{P:Program}{w:World}{K:PySem.W.Frag}{mg:Str→Option Value}{base:Heap}{k:Nat}{f:Addr}{name qual:Str}{params:Arguments}{body:List Stmt}{scope:Scope}{dV kV doc pm cdv ct oc:Value}{an od:Option Addr}
  {osl:Array (Option Value)} {N ps:List Str} {sp:Sp} (lk:K.lookup f=some ⟨oc,od,.func (PySem.W.fnOf name qual params body scope dV kV doc pm an cdv ct),osl⟩) (hcd:PySem.W.codeIn K cdv qual=true) (S:zat N ps scope)
  (len:∀ vs H Q E,sp vs H Q E→vs.length=ps.length)
  (hbody:∀ (A:Around) (outer:List Env) (s:Shared) (H:Hp) (vs:List V) (Q:VK) (E:XK),Room k (A.deeper (envOfC qual scope s.heap.objs.size f cdv))→sp vs H Q E→
   ∃ t,PSs (cxOf CX P w K mg base N qual scope f cdv A outer s H E) body t∧t {nx:=fun _ H'=>Q .non H',rt:=Q} (start N vs) H):
  FnOk P w K mg base CX (k+1) f (PySem.W.fnOf name qual params body scope dV kV doc pm an cdv ct) ps sp:=by
 refine ⟨len,fun A outer s H args us vs Q E hr e0 hb r hsp=>?_⟩
 have hl:=len _ _ _ _ hsp
 have KX:K.In s.heap:=e0.mod.kin.keeps fun b o e=>(e0.bs b o e).1
 have lim:s.heap.NoLimit:=e0.mod.nolimit.keeps fun b o e=>(e0.bs b o e).1
 have hkind:∀ y∈ps.zip us,scope.names.lookup y.1=some .local∨(scope.names.lookup y.1=some .cell∧((cellsFrom (s.heap.objs.size+1) scope.names []).lookup y.1).isSome=true):=fun ⟨n,v⟩ hy=>by
  rcases S.par n (ybw hy).1 with q | q
  ·exact .inl q
  ·exact .inr ⟨q,PySem.W.cellsFrom_some _ _ _ (.inl q)⟩
 refine codeAny_call_function hr.depth (KX _ _ lk) rfl S.co S.gen rfl (PySem.W.codeRec_of KX hcd) (hb _ _ _ _ ?_)
 refine wpAny_newFunctionEnv_cells S.kind hkind fun env he s1 x=>?_
 subst he
 refine ⟨lim.keeps x.toInCall.keep,codeAny_func ?_⟩
 obtain ⟨t,ht,hq⟩:=hbody A outer s H vs Q E (hr.deeper _) hsp
 have I:Inv (cxOf CX P w K mg base N qual scope f cdv A outer s H E) [] (start N vs) H s1:=znX S hr.hd e0 hl r x
 refine wpAny_mono (ht [] s1 (start N vs) H _ I hq) (fun fl s' hs=>?_) fun e s' hs=>hs
 have fin:∀ {σ':St} {H':Hp} {v:V} {u:Value},Inv (cxOf CX P w K mg base N qual scope f cdv A outer s H E) [] σ' H' s'→RelV v u→Q v H'→CE outer P w H s Q u s':=
  fun {σ' H' v u} J rv q=>⟨v,H',J.os,J.bare,J.base,J.hok,rv,q⟩
 cases fl with
 | ret u=>
  obtain ⟨v,σ',H',J,rv,q⟩:=hs
  exact fin J rv q
 | next=>
  obtain ⟨σ',H',J,q⟩:=hs
  exact fin (v:=V.non) (u:=Value.none) J rfl q
 | brk=>
  obtain ⟨_,_,_,q⟩:=hs
  exact wM q
 | cont=>
  obtain ⟨_,_,_,q⟩:=hs
  exact wM q
section
variable {X:Cx} {x:Str} {p pos:Pos} {e:Expr} {es:List Expr} {t:TA} {id T:String} {r:List V→Hp→VK→Prop}
noncomputable def tCB (r:List V→Hp→VK→Prop) (t:TA):TE:=fun σ H Q=>t σ H fun vs H1=>r vs H1 Q
theorem zof (hc:zfD X (.builtin id) r)(hg:Gl X x)(hm:X.mg x=none)(hv:bootBuiltins x=some (.builtin id))(ha:PA X (e::es) t)(hn:x≠"__name__" :=by decide)(hdb:(x==("__debug__" :Str))=false:=by decide)
  (he:starEach (e::es) X.env=(false,eval e X.env)::starEach es X.env:=by rfl) (hpl:(backTo pos (starEach es X.env)).any (·.1)=false:=by rfl):PE X (.Call (.Name x p) (e::es) [] pos) (tCB r t):=by
 intro pins s σ H Q I h
 refine wpAny_Call_Name_kw (zf3 I hg hm hv ?_ hn hdb)
 exact yaB (thn (ha pos pins s σ H _ I h) fun us s1 ⟨vs,H1,I1,r1,q1⟩=>hc pins s1 σ H1 vs us Q I1 r1 q1) he hpl
theorem zm6 (hc:zfD X (.type T) r)(hg:Gl X x)(hm:X.mg x=none)(hv:bootBuiltins x=some (.type T))(ha:PA X (e::es) t)(hn:x≠"__name__" :=by decide)(hdb:(x==("__debug__" :Str))=false:=by decide)
  (he:starEach (e::es) X.env=(false,eval e X.env)::starEach es X.env:=by rfl) (hpl:(backTo pos (starEach es X.env)).any (·.1)=false:=by rfl):PE X (.Call (.Name x p) (e::es) [] pos) (tCB r t):=by
 intro pins s σ H Q I h
 refine wpAny_Call_Name_kw (zf3 I hg hm hv ?_ hn hdb)
 exact xI (thn (ha pos pins s σ H _ I h) fun us s1 ⟨vs,H1,I1,r1,q1⟩=>hc pins s1 σ H1 vs us Q I1 r1 q1) he hpl
end
end L2
namespace HT
open PySem PyProof.Rows
section
open PySem.SeqAt
open PySem.AutoSeq1 (wpAny_loadPart')
open PySem.MeetsSeq PySem.MeetsSeq2 PySem.MeetsSeq3
end
section
variable {prog:Program} {w:World} {A:Around} {E:Value→Shared→Prop} {s:Shared}
theorem cat_tup {t b:Addr}{vs ws:List Value}{Q:Value→Shared→Prop}(ht:IsTup s.heap t vs.toArray)(hb:IsTup s.heap b ws.toArray)(hv:vs≠[])
  (h1:ws= []→Q (.ref t) s) (h2:ws≠[]→Q (.ref s.heap.objs.size) {s with heap:=s.heap.push {cls:=.type "tuple",data:=.seq (vs++ws).toArray}})
  (hsz:vs.length+ws.length≤yM):wpAny (model prog w) A (binaryOp .Add (.ref t) (.ref b)) Q E s:=by
 obtain ⟨⟨cls,dd,data,sl⟩,ho,hc,n,hd⟩:=id ht
 obtain ⟨⟨cls2,dd2,data2,sl2⟩,ho2,hc2,n2,hd2⟩:=id hb
 simp only at hc hd hc2 hd2
 subst hc hd hc2 hd2
 have e:vs.toArray++ws.toArray=(vs++ws).toArray:=by simp
 by_cases hw:ws= []
 ·exact concat_meets ⟨_,ho,rfl⟩ ⟨_,ho2,rfl⟩ noFill_tuple_add seq_tuple_add ybr ybg (ya7 _ _)
   (tuple_addW1 t b vs.toArray ws.toArray n n2 dd dd2 sl sl2 (by simpa using hv) (by simp [hw])) ⟨ho,ho2,h1 hw⟩
 ·refine concat_meets ⟨_,ho,rfl⟩ ⟨_,ho2,rfl⟩ noFill_tuple_add seq_tuple_add ybr ybg (ya7 _ _)
   (tuple_addW2 t b vs.toArray ws.toArray n n2 dd dd2 sl sl2 (by simpa using hv) (by simpa using hw) (by rw [yW,yW];exact hsz)) ⟨ho,ho2,?_⟩
  rw [e]
  exact h2 hw
noncomputable def sIx (n d:Nat):Option Int→Nat
 | none=>d
 | some v=>if v < 0 then (v+(n:Int)).toNat else min v.toNat n
theorem sIx_le (n d:Nat)(hd:d≤n)(o:Option Int):sIx n d o≤n:=by
 cases o with
 | none=>exact hd
 | some v=>
  show (if v < 0 then (v+(n:Int)).toNat else min v.toNat n)≤n
  by_cases hv:v < 0
  ·rw [if_pos hv];omega
  ·rw [if_neg hv];exact Nat.min_le_right _ _
theorem znD (v:Int)(n d:Nat):(if v < 0 then max (v+(n:Int)) 0 else min v (n:Int))=((sIx n d (some v):Nat):Int):=by
 show (if v < 0 then max (v+(n:Int)) 0 else min v (n:Int))=(((if v < 0 then (v+(n:Int)).toNat else min v.toNat n):Nat):Int)
 by_cases hv:v < 0
 ·simp only [if_pos hv];omega
 ·simp only [if_neg hv];omega
theorem zl0 (lo hi:Option Int)(n:Nat):wT lo hi 1 (n:Int)=(((sIx n 0 lo:Nat):Int),((sIx n n hi:Nat):Int)):=by
 have h1:¬((1:Int) < 0):=by omega
 unfold wT
 simp only [h1,if_false]
 refine Prod.ext ?_ ?_
 ·cases lo with
  | none=>rfl
  | some v=>exact znD v n 0
 ·cases hi with
  | none=>rfl
  | some v=>exact znD v n n
theorem zlK (i j:Nat):kK (i:Int) (j:Int) 1=j - i:=by
 unfold kK
 have h1:(1:Int) > 0:=by omega
 simp only [h1,if_true,Int.ediv_one]
 split <;> omega
theorem zhQ {v:Value}{o:Option Int}{Q:Option Int→Shared→Prop}(p:IsPart v o)(h:Q o s):wpAny (model prog w) A (Builtin.Slice.slicePartIndex v) Q E s:=by
 cases p with
 | none=>exact slicePart_none h
 | int i t=>exact slicePart_int h
theorem zgl {sl:Addr}{vl vu:Value}{lo hi:Option Int}{n:Nat}{Q:Int×Int×Nat→Shared→Prop}(hs:s.heap.IsSliceOf sl vl vu .none)(pl:IsPart vl lo)(pu:IsPart vu hi)
  (h:Q (((sIx n 0 lo:Nat):Int),1,sIx n n hi - sIx n 0 lo) s):wpAny (model prog w) A (ya0 (.ref sl) (pure (n:Int))) Q E s:=by
 obtain ⟨os,hos,hcs,hds⟩:=id hs
 unfold ya0 Builtin.Slice.sliceFields
 refine yA (yA (wpAny_field hos hds (x:=vl) rfl (yA (wpAny_field hos hds (x:=vu) rfl (yA (wpAny_field hos hds (x:=.none) rfl (yD ?_)))))))
 refine yA (slicePart_none ?_)
 show wpAny _ _ (if ((1:Int)==0)=true then _ else _) _ _ s
 rw [if_neg (by decide)]
 refine yA (zhQ pl (yA (zhQ pu (yA (yD ?_)))))
 show wpAny _ _ (match wT lo hi 1 (n:Int) with | (lo,hi)=>pure (lo,(1:Int),kK lo hi 1)) _ _ s
 rw [zl0 lo hi n]
 show wpAny _ _ (pure (((sIx n 0 lo:Nat):Int),(1:Int),kK ((sIx n 0 lo:Nat):Int) ((sIx n n hi:Nat):Int) 1)) _ _ s
 rw [zlK]
 exact yD h
theorem zot (xs:Array Value)(i k:Nat):((xO k).filterMap fun (m:Nat)=>xs[((i:Int)+(m:Int) * 1).toNat]?).toArray=((xs.toList.drop i).take k).toArray:=by
 have e:(fun (m:Nat)=>xs[((i:Int)+(m:Int) * 1).toNat]?)=fun m=>xs[i+m]? :=by
  funext m
  have:((i:Int)+(m:Int) * 1).toNat=i+m:=by omega
  rw [this]
 rw [e]
 have:=pick_run xs i k
 rw [List.filterMap_map] at this
 have e2:((fun x=>xs[x]?) ∘ fun x=>i+x)=fun m=>xs[i+m]? :=rfl
 rw [e2] at this
 rw [this]
theorem getItem_tuple_cut {t sl:Addr}{items:Array Value}{vl vu:Value}{lo hi:Option Int}{Q:Value→Shared→Prop}(ht:IsTup s.heap t items)(hs:s.heap.IsSliceOf sl vl vu .none)(pl:IsPart vl lo)(pu:IsPart vu hi)
  (hw:¬(sIx items.size 0 lo=0∧sIx items.size items.size hi=items.size))
  (h:Q (.ref s.heap.objs.size) {s with heap:=s.heap.push {cls:=.type "tuple",data:=.seq ((items.toList.drop (sIx items.size 0 lo)).take (sIx items.size items.size hi - sIx items.size 0 lo)).toArray}})
  (hsz:items.size≤yM):wpAny (model prog w) A (getItem (.ref t) (.ref sl)) Q E s:=by
 have htake:sizeOk (.seq ((items.toList.drop (sIx items.size 0 lo)).take (sIx items.size items.size hi - sIx items.size 0 lo)).toArray):=by
  show ((items.toList.drop (sIx items.size 0 lo)).take (sIx items.size items.size hi - sIx items.size 0 lo)).toArray.size≤yM
  rw [yW,yP,wB,xT]
  omega
 have hj:sIx items.size items.size hi≤items.size:=sIx_le _ _ (yN _) hi
 obtain ⟨os,hos,hcs,hds⟩:=id hs
 have hTs:s.TypeIs (.ref sl) "slice" :=⟨os,hos,hcs⟩
 unfold getItem
 try with_reducible refine wpAny_holding ?_
 first | refine yA (yD ?_) | skip
 refine yA (wpAny_sequenceKey ht.typeIs (by decide) ?_)
 refine yA (wpAny_callSpecial?_slot (name:=kH "__getitem__") ht.typeIs kM
  (wpAny_call_entry kM ht.typeIs entry_tuple_getitem ?_ (args_tuple_getitem _ _)))
 show wpAny _ _ (Builtin.Tuple.tupleItemsOf (.ref t) >>=_) _ _ s
 refine yA (tupleItemsOf_ ht ?_)
 refine yA (wpAny_typeOf hTs ?_)
 rw [if_pos (by decide)]
 refine yA (zgl hs pl pu ?_)
 have hno:¬((((sIx items.size 0 lo:Nat):Int)==0 && (1:Int)==1 && (sIx items.size items.size hi - sIx items.size 0 lo)==items.size)=true):=by
  intro q
  rw [qM,qM] at q
  have q1:((sIx items.size 0 lo:Nat):Int)=0:=eq_of_beq q.1.1
  have q2:sIx items.size items.size hi - sIx items.size 0 lo=items.size:=eq_of_beq q.2
  exact hw ⟨by omega,by omega⟩
 show wpAny _ _ (if (((sIx items.size 0 lo:Nat):Int)==0 && (1:Int)==1 && (sIx items.size items.size hi - sIx items.size 0 lo)==items.size)=true then _ else _) _ _ s
 rw [if_neg hno,zot]
 first
  | exact yA (m:=kN _) (wpAny_newObj_type (yD ⟨_,rfl,yD h⟩) htake)
  | exact yA (m:=kN _) (wpAny_newObj_type (yA (yD (yD ⟨_,rfl,yD h⟩))) htake)
  | exact yA (yA (m:=kN _) (wpAny_newObj_type (yD (yD ⟨_,rfl,yD h⟩)) htake))
  | exact yA (yA (m:=kN _) (wpAny_newObj_type (yD ⟨_,rfl,yD h⟩) htake))
end
end HT
namespace L2
open PySem PySem.Spec PyProof.Rows
noncomputable abbrev TO:=St→Hp→(Option Int→Hp→Prop)→Prop
noncomputable def PO (X:Cx) (e:Option Expr) (t:TO):Prop:=
 ∀ (pins:List (Addr×Obj)) (s:Shared) (σ :St) (H:Hp) (Q:Option Int→Hp→Prop),Inv X pins σ H s→t σ H Q→
  wpAny (model X.prog X.w) X.A (evalPart e X.env) (fun u s'=>∃ o H',Inv X pins σ H' s'∧IsPart u o∧Q o H') X.xe s
noncomputable def zm0:TO:=fun _ H Q=>Q none H
noncomputable def tPart (t:TE):TO:=fun σ H Q=>t σ H fun x H1=>∃ i,x= .int i∧Q (some i) H1
theorem zmf {ns:List Int}:∀ {us:List Value},Vals (ns.map V.int) us→IntsAre us ns:=by
 induction ns with
 | nil=>intro us r;rw [ybx] at r;cases r;exact .nil
 | cons n ns ih=>
  intro us r
  rw [qQ] at r
  cases r with
  | cons r1 r2=>
   obtain ⟨t,e⟩:=r1
   subst e
   exact .cons n t (ih r2)
section
variable {X:Cx} {e:Expr} {te:TE} {lo hi:Option Expr} {tl th:TO} {pos p2:Pos}
theorem zp0:PO X none zm0:=by
 intro pins s σ H Q I h
 rw [evalPart_none]
 exact yD ⟨none,H,I,.none,h⟩
theorem zqe (h:PE X e te):PO X (some e) (tPart te):=by
 intro pins s σ H Q I hw
 rw [evalPart_some]
 refine thn (h pins s σ H _ I hw) fun u s1 ⟨x,H1,I1,r1,q1⟩=>?_
 obtain ⟨i,rfl,q⟩:=q1
 obtain ⟨t,rfl⟩:=r1
 exact ⟨some i,H1,I1,.int i t,q⟩
noncomputable def SlR (X:Cx) (r:V→Option Int→Option Int→Hp→VK→Prop):Prop:=
 ∀ (pins:List (Addr×Obj)) (s:Shared) (σ :St) (H:Hp) (x:V) (v vl vu:Value) (lo hi:Option Int) (sl:Addr) (Q:VK),Inv X pins σ H s→RelV x v→s.heap.IsSliceOf sl vl vu .none→IsPart vl lo→IsPart vu hi→r x lo hi H Q→
  ∃ T id,typeLookup (.type T) "__getitem__" =pure (some (.builtin id))∧s.TypeIs v T∧wpAny (model X.prog X.w) X.A (getItem v (.ref sl)) (EP X pins σ Q) X.xe s
noncomputable def tSl (r:V→Option Int→Option Int→Hp→VK→Prop) (te:TE) (tl th:TO):TE:=fun σ H Q=>te σ H fun x H1=>tl σ H1 fun l H2=>th σ H2 fun u H3=>r x l u H3 Q
theorem zol {r:V→Option Int→Option Int→Hp→VK→Prop}(hr:SlR X r)(he:PE X e te)(hl:PO X lo tl)(hu:PO X hi th):PE X (.Subscript e (.Slice lo hi none p2) pos) (tSl r te tl th):=by
 intro pins s σ H Q I h
 refine Subscript_ (thn (he pins s σ H _ I h) fun v s1 ⟨x,H1,I1,r1,q1⟩=>?_)
 refine wpAny_Slice (thn (hl pins s1 σ H1 _ I1 q1) fun vl s2 ⟨l,H2,I2,pl,q2⟩=>thn (hu pins s2 σ H2 _ I2 q2) fun vu s3 ⟨u,H3,I3,pu,q3⟩=>?_)
 rw [evalPart_none]
 refine yD ?_
 have I4:Inv X pins σ H3 {s3 with heap:=s3.heap.push {cls:=.type "slice",data:=.fields #[vl,vu,.none]}}:=I3.kept (t':=s3.toks) fun b ob q=>yI _ q
 obtain ⟨T,id,hT,ht,hg⟩:=hr pins {s3 with heap:=s3.heap.push {cls:=.type "slice",data:=.fields #[vl,vu,.none]}} σ H3 x v vl vu l u s3.heap.objs.size Q I4 r1 (ybN ..) pl pu q3
 show wpAny (model X.prog X.w) X.A (subscriptTail e (.Slice lo hi none p2) v (.ref s3.heap.objs.size)) (EP X pins σ Q) X.xe {s3 with heap:=s3.heap.push {cls:=.type "slice",data:=.fields #[vl,vu,.none]}}
 exact tail_any (ops:=[.ref s3.heap.objs.size,v]) ht hT hg (by with_unfolding_all rfl)
noncomputable def cutV (xs:List V) (lo hi:Option Int):List V:=(xs.drop (HT.sIx xs.length 0 lo)).take (HT.sIx xs.length xs.length hi - HT.sIx xs.length 0 lo)
theorem zhg (xs:List V)(lo hi:Option Int):(cutV xs lo hi).length≤xs.length:=by
 unfold cutV
 rw [yP,wB]
 omega
noncomputable def rSlT (K:PySem.W.Frag):V→Option Int→Option Int→Hp→VK→Prop:=fun x lo hi H Q=>∃ a xs,x= .ref a∧SqT K H a xs∧
 ¬(HT.sIx xs.length 0 lo=0∧HT.sIx xs.length xs.length hi=xs.length)∧∀ p,H p=none→Q (.ref p) (upd H p (.tup (cutV xs lo hi)))
theorem zo8:SlR X (rSlT X.K):=by
 intro pins s σ H x v vl vu lo hi sl Q I rx hs pl pu h
 obtain ⟨a,xs,rfl,hx,hw,q⟩:=h
 cases rx
 obtain ⟨its,r,ht,hz⟩:=I.tuple hx
 have hlen:its.toArray.size=xs.length:=by rw [yW];exact r.length.symm
 refine ⟨"tuple",_,kM.lookup,ht.typeIs,?_⟩
 refine HT.getItem_tuple_cut ht hs pl pu (by rw [hlen];exact hw) ?_ (by rw [hlen];exact hz)
 rw [hlen]
 refine ⟨.ref s.heap.objs.size,_,I.laid (t':=s.toks) (o:=.tup (cutV xs lo hi)) (fun b ob q=>yI _ q) (yN _) ?_,rfl,q _ (I.hok.fresh (yN _))⟩
 exact ⟨jB (zhg xs lo hi) hz,_,(r.drop (HT.sIx xs.length 0 lo)).take (HT.sIx xs.length xs.length hi - HT.sIx xs.length 0 lo),yco _ _⟩
noncomputable def rCatT (K:PySem.W.Frag):R2:=fun x y H Q=>∃ a b xs ys,x= .ref a∧y= .ref b∧SqT K H a xs∧SqT K H b ys∧xs≠[]∧xs.length+ys.length≤yM∧
 (ys= []→Q (.ref a) H)∧(ys≠[]→∀ p,H p=none→Q (.ref p) (upd H p (.tup (xs++ys))))
theorem Vals.nil_iff {xs:List V}{us:List Value}(r:Vals xs us):us= []↔xs= []:=by
 cases r with
 | nil=>simp
 | cons _ _=>simp
theorem zmX:OpR X (binaryOp .Add) (rCatT X.K):=by
 intro pins s σ H x y v u Q I rx ry h
 obtain ⟨a,b,xs,ys,rfl,rfl,ha,hb,hx,hz,q1,q2⟩:=h
 cases rx
 cases ry
 obtain ⟨its,r1,p1,_⟩:=I.tuple ha
 obtain ⟨its2,r2,p2,_⟩:=I.tuple hb
 refine HT.cat_tup p1 p2 (fun z=>hx (r1.nil_iff.mp z)) (fun z=>⟨.ref a,H,I,rfl,q1 (r2.nil_iff.mp z)⟩) (fun z=>?_) (by rw [← r1.length,← r2.length];exact hz)
 refine ⟨.ref s.heap.objs.size,_,I.laid (t':=s.toks) (o:=.tup (xs++ys)) (fun b ob q=>yI _ q) (yN _) ?_,rfl,q2 (fun w=>z (r2.nil_iff.mpr w)) _ (I.hok.fresh (yN _))⟩
 exact ⟨by rw [yJ];exact hz,_,r1.append r2,yco _ _⟩
end
noncomputable def ixN (n:Nat) (i:Int):Option Nat:=if 0≤i then (if i < n then some i.toNat else none) else if -(n:Int)≤i then some (i+n).toNat else none
noncomputable def atI {α :Type} (xs:List α) (i:Int):Option α :=(ixN xs.length i).bind fun j=>xs[j]?
theorem zmC {n:Nat}{i:Int}{j:Nat}(h:ixN n i=some j):seqIndex? i n=some j∧j < n∧-(n:Int)≤i∧i < n:=by
 unfold ixN at h
 by_cases h0: 0≤i
 ·rw [if_pos h0] at h
  by_cases h1:i < n
  ·rw [if_pos h1] at h
   have e:i.toNat=j:=qF h
   exact ⟨by rw [seqIndex_of h0 h1,e],by omega,by omega,h1⟩
  ·rw [if_neg h1] at h;cases h
 ·rw [if_neg h0] at h
  by_cases h1: -(n:Int)≤i
  ·rw [if_pos h1] at h
   have e:(i+n).toNat=j:=qF h
   exact ⟨by rw [seqIndex_neg (by omega) h1,e],by omega,h1,by omega⟩
  ·rw [if_neg h1] at h;cases h
theorem znp {α :Type}{xs:List α}{i:Int}{v: α}(h:atI xs i=some v):∃ j,seqIndex? i xs.length=some j∧xs[j]? =some v∧j < xs.length∧-(xs.length:Int)≤i∧i < xs.length:=by
 unfold atI at h
 cases e:ixN xs.length i with
 | none=>rw [e] at h;cases h
 | some j=>
  rw [e] at h
  obtain ⟨h1,h2,h3,h4⟩:=zmC e
  exact ⟨j,h1,h,h2,h3,h4⟩
theorem zb7 {α :Type}{xs:List α}{j:Nat}{v: α}(h:xs[j]? =some v):atI xs (j:Int)=some v:=by
 have hj:j < xs.length:=(yF.mp h).1
 have e:ixN xs.length (j:Int)=some j:=by
  unfold ixN
  rw [if_pos (by omega),if_pos (by omega)];simp
 unfold atI;rw [e];exact h
noncomputable def zmO (b:Expr):Prop:=∀ o i,subscripted b false o i=operate [o,i] (getItem o i)
noncomputable def IxR (X:Cx) (r:R2):Prop:=
 ∀ (value slice:Expr) (pins:List (Addr×Obj)) (s:Shared) (σ :St) (H:Hp) (x y:V) (v u:Value) (Q:VK),Inv X pins σ H s→RelV x v→RelV y u→r x y H Q→
  subscripted slice false v u=operate [v,u] (getItem v u)→wpAny (model X.prog X.w) X.A (subscriptTail value slice v u) (EP X pins σ Q) X.xe s
noncomputable def MtR (X:Cx) (id:String) (r:V→List V→Hp→VK→Prop):Prop:=
 ∀ (pins:List (Addr×Obj)) (s:Shared) (σ :St) (H:Hp) (x:V) (xs:List V) (v:Value) (us:List Value) (Q:VK),Inv X pins σ H s→RelV x v→Vals xs us→r x xs H Q→
  wpAny (model X.prog X.w) X.A (call (.builtin id) (v::us)) (EP X pins σ Q) X.xe s
section
variable {X:Cx} {a b:Expr} {ta tb:TE} {pos:Pos}
theorem pe_ix {r:R2}(hr:IxR X r)(ha:PE X a ta)(hb:PE X b tb)(hs:zmO b):PE X (.Subscript a b pos) (tOp r ta tb):=by
 intro pins s σ H Q I h
 exact Subscript_ (binT ha hb I h fun v u s2 x y H2 I2 rx ry q=>hr a b pins s2 σ H2 x y v u Q I2 rx ry q (hs _ _))
noncomputable def rIxL (K:PySem.W.Frag):R2:=fun x y H Q=>∃ p xs i v,x= .ref p∧y= .int i∧SqL K H p xs∧atI xs i=some v∧Q v H
noncomputable def rIxT (K:PySem.W.Frag):R2:=fun x y H Q=>∃ p xs i v,x= .ref p∧y= .int i∧SqT K H p xs∧atI xs i=some v∧Q v H
theorem za0:IxR X (rIxL X.K):=by
 intro value slice pins s σ H x y v u Q I rx ry h hs
 obtain ⟨p,xs,i,z,rfl,rfl,hq,he,q⟩:=h
 cases rx
 obtain ⟨t,rfl⟩:=ry
 obtain ⟨its,r,pl,hz⟩:=I.list hq
 obtain ⟨j,h1,h2,h3,h4,h5⟩:=znp he
 obtain ⟨w,ew,rw'⟩:=r.get h2
 have hl:=r.length
 have hn:=zkS
 have fin:EP X pins σ Q w s:=⟨z,H,I,rw',q⟩
 by_cases h0: 0≤i
 ·have hj:i.toNat=j:=by
   rw [seqIndex_of h0 h5] at h1
   exact qF h1
  exact item_listR pl.isList h0 (by omega) (by rw [hj];simpa using ew) fin hs
 ·have hj:(i+(its.toArray.size:Int)).toNat=j:=by
   rw [seqIndex_neg (by omega) h4] at h1
   rw [yW,← hl]
   exact qF h1
  exact subscriptTail_builtinR (x:=w) pl.isList.typeIs slot_list_getitem.lookup
   (wpAny_getItem_list_neg (Q:=fun r s'=>r=w∧EP X pins σ Q r s') pl.isList (by omega) (by rw [yW] <;> omega) (by omega) (by rw [hj];simpa using ew) ⟨rfl,fin⟩) hs
theorem zaL:IxR X (rIxT X.K):=by
 intro value slice pins s σ H x y v u Q I rx ry h hs
 obtain ⟨p,xs,i,z,rfl,rfl,hq,he,q⟩:=h
 cases rx
 obtain ⟨t,rfl⟩:=ry
 obtain ⟨its,r,pl,hz⟩:=I.tuple hq
 obtain ⟨j,h1,h2,h3,h4,h5⟩:=znp he
 obtain ⟨w,ew,rw'⟩:=r.get h2
 have hl:=r.length
 have hn:=zkS
 have fin:EP X pins σ Q w s:=⟨z,H,I,rw',q⟩
 exact subscriptTail_builtinR (x:=w) pl.typeIs slot_tuple_getitem.lookup
  (getItem_tuple (j:=j) (Q:=fun r s'=>r=w∧EP X pins σ Q r s') pl (by omega) (by omega) (by rw [yW,← hl];exact h1) (by simpa using ew) ⟨rfl,fin⟩) hs
theorem zmg (its:List Value)(n j:Nat)(u:Value):jE (·.setIfInBounds j u) {cls:=.type "list",data:=.seq its.toArray n}= {cls:=.type "list",data:=.seq (its.set j u).toArray n}:=by
 simp [jE]
theorem Inv.lst {pins:List (Addr×Obj)}{σ :St}{H:Hp}{s:Shared}{p:Addr}{xs:List V}(I:Inv X pins σ H s)(h:H p=some (.lst xs)):
  ∃ (its:List Value) (n:Nat),Vals xs its∧s.heap.get? p=some {cls:=.type "list",data:=.seq its.toArray n}∧xs.length≤yM:=by
 obtain ⟨z,its,n,r,e⟩:=I.hok p _ h
 exact ⟨its,n,r,e,z⟩
theorem Inv.lstUpd {pins:List (Addr×Obj)}{σ :St}{H:Hp}{s:Shared}{p:Addr}{xs ys:List V}{its its':List Value}{n n':Nat}{f:Obj→Obj}(I:Inv X pins σ H s)(h:H p=some (.lst xs))
  (ho:s.heap.get? p=some {cls:=.type "list",data:=.seq its.toArray n}) (hf:f {cls:=.type "list",data:=.seq its.toArray n}= {cls:=.type "list",data:=.seq its'.toArray n'}) (r:Vals ys its') (hz:ys.length≤yM) (t:Nat):
  Inv X pins σ (upd H p (.lst ys)) {s with heap:=s.heap.update p f,toks:=t}:=by
 have e:(s.heap.update p f).get? p=some {cls:=.type "list",data:=.seq its'.toArray n'}:=by
  rw [qR f ho (by rw [hf] <;> rfl),hf]
 refine I.write (x:=p) (e:=p) (by rw [h];trivial) (.inl rfl) (fun b u hb q=>(jO _ _ (jL hb)).trans q) ⟨_,e⟩ ?_
 exact ⟨hz,its',n',r,e⟩
noncomputable def rSetL:V→V→V→Hp→(Hp→Prop)→Prop:=fun o i v H Q=>∃ p xs k j,o= .ref p∧i= .int k∧H p=some (.lst xs)∧ixN xs.length k=some j∧Q (upd H p (.lst (xs.set j v)))
theorem zoO:PSet X rSetL:=by
 intro pins s σ H o i v ov iv u Q I ro ri rv h
 obtain ⟨p,xs,k,j,rfl,rfl,hp,hj,q⟩:=h
 cases ro
 obtain ⟨t,rfl⟩:=ri
 obtain ⟨its,n,r,ho,hz⟩:=I.lst hp
 obtain ⟨h1,h2,h3,h4⟩:=zmC hj
 have hl:=r.length
 have hn:=zkS
 have I':Inv X pins σ (upd H p (.lst (xs.set j v))) {s with heap:=s.heap.update p (jE (·.setIfInBounds j u))}:=
  I.lstUpd hp ho (zmg its n j u) (r.set rv j) (by rw [xZ];exact hz) s.toks
 by_cases h0: 0≤k
 ·have hk:k.toNat=j:=by
   rw [seqIndex_of h0 h4] at h1
   exact qF h1
  exact PySem.W.ki_setAt ho h0 (by omega) (by rw [yW,← hl];exact h4) (by rw [hk];exact ⟨_,I',q⟩)
 ·have hk:(k+(its.toArray.size:Int)).toNat=j:=by
   rw [seqIndex_neg (by omega) h3] at h1
   rw [yW,← hl]
   exact qF h1
  exact PySem.W.ki_setBack ho (by omega) (by rw [yW,← hl];exact h3) (by omega) (by rw [hk];exact ⟨_,I',q⟩)
theorem zjb (lo hi:Option Int)(n:Nat):(sliceBounds lo hi none n).1=((HT.sIx n 0 lo:Nat):Int)∧(sliceBounds lo hi none n).2.1=((HT.sIx n n hi:Nat):Int)∧(sliceBounds lo hi none n).2.2=1:=by
 refine ⟨?_,?_,rfl⟩
 ·cases lo with
  | none=>simp [sliceBounds,HT.sIx]
  | some i=>
   simp only [sliceBounds,HT.sIx,yb5,show (1:Int) > 0 by decide,if_true]
   by_cases h:i < 0
   ·simp only [h,if_true] <;> omega
   ·simp only [h,if_false] <;> omega
 ·cases hi with
  | none=>simp [sliceBounds,HT.sIx]
  | some i=>
   simp only [sliceBounds,HT.sIx,yb5,show (1:Int) > 0 by decide,if_true]
   by_cases h:i < 0
   ·simp only [h,if_true] <;> omega
   ·simp only [h,if_false] <;> omega
theorem ziN (its:List Value)(lo hi:Option Int):slicePick its.toArray lo hi none=((its.drop (HT.sIx its.length 0 lo)).take (HT.sIx its.length its.length hi - HT.sIx its.length 0 lo)).toArray:=by
 obtain ⟨h1,h2,h3⟩:=zjb lo hi its.toArray.size
 unfold slicePick
 rw [h1,h2,h3]
 simp only [sliceRange_one,pick_run,yW] <;> rfl
noncomputable def rSlL (K:PySem.W.Frag):V→Option Int→Option Int→Hp→VK→Prop:=fun x lo hi H Q=>∃ a xs,x= .ref a∧SqL K H a xs∧∀ p,H p=none→Q (.ref p) (upd H p (.lst (cutV xs lo hi)))
theorem zfH:SlR X (rSlL X.K):=by
 intro pins s σ H x v vl vu lo hi sl Q I rx hs pl pu h
 obtain ⟨a,xs,rfl,hx,q⟩:=h
 cases rx
 obtain ⟨its,r,ht,hz⟩:=I.list hx
 have hlen:=r.length
 refine ⟨"list",_,slot_list_getitem.lookup,ht.isList.typeIs,?_⟩
 refine wpAny_getItem_list_slice ht.isList hs pl pu .none (by simp) ?_ (by rw [yW] <;> omega)
 rw [ziN,← hlen]
 refine ⟨.ref s.heap.objs.size,_,I.laid (t':=s.toks) (o:=.lst (cutV xs lo hi)) (fun b ob q=>yI _ q) (yN _) ?_,rfl,q _ (I.hok.fresh (yN _))⟩
 exact ⟨jB (zhg xs lo hi) hz,_,0,(r.drop (HT.sIx xs.length 0 lo)).take (HT.sIx xs.length xs.length hi - HT.sIx xs.length 0 lo),yT _ rfl⟩
noncomputable def zh8:V→Bool
 | .non=>true
 | .bl _=>true
 | .int _=>true
 | .str _=>true
 | _=>false
noncomputable def eqV:V→V→Bool
 | .non,.non=>true
 | .bl a,.bl b=>a==b
 | .bl a,.int b=>(if a then 1 else 0)==b
 | .int a,.bl b=>a==(if b then 1 else 0)
 | .int a,.int b=>a==b
 | .str a,.str b=>a==b
 | _,_=>false
theorem eqAt_V {A:Around}{s:Shared}{y x:V}{u v:Value}(ry:RelV y u)(rx:RelV x v)(fy:zh8 y=true)(fx:zh8 x=true):xB A s u v (eqV y x):=by
 cases y with
 | non=>
  cases ry
  cases x with
  | non=>cases rx;exact xB.same _
  | bl b=>cases rx;exact xB.none_bool b
  | int b=>obtain ⟨t,rfl⟩:=rx;exact xB.none_int b t
  | str b=>obtain ⟨t,rfl⟩:=rx;exact xB.none_str b t
  | _=>exact absurd (show false=true from fx) yS
 | bl a=>
  cases ry
  cases x with
  | non=>cases rx;exact xB.bool_none a
  | bl b=>cases rx;exact xB.bool_bool a b
  | int b=>obtain ⟨t,rfl⟩:=rx;exact xB.bool_int a b t
  | str b=>obtain ⟨t,rfl⟩:=rx;exact xB.bool_str a b t
  | _=>exact absurd (show false=true from fx) yS
 | int a=>
  obtain ⟨t',rfl⟩:=ry
  cases x with
  | non=>cases rx;exact xB.int_none a t'
  | bl b=>cases rx;exact xB.int_bool a t' b
  | int b=>obtain ⟨t,rfl⟩:=rx;exact xB.int_int a t' b t
  | str b=>obtain ⟨t,rfl⟩:=rx;exact ybL a t' b t
  | _=>exact absurd (show false=true from fx) yS
 | str a=>
  obtain ⟨t',rfl⟩:=ry
  cases x with
  | non=>cases rx;exact xB.str_none a t'
  | bl b=>cases rx;exact xB.str_bool a t' b
  | int b=>obtain ⟨t,rfl⟩:=rx;exact ybM a t' b t
  | str b=>obtain ⟨t,rfl⟩:=rx;exact xB.str_str a t' b t
  | _=>exact absurd (show false=true from fx) yS
 | _=>exact absurd (show false=true from fy) yS
noncomputable def eqU (x:V) (u:Value):Bool:=match u with
 | .none=>eqV .non x
 | .bool b=>eqV (.bl b) x
 | .int i _=>eqV (.int i) x
 | .str z _=>eqV (.str z) x
 | _=>false
theorem zpf {x y:V}{u:Value}(r:RelV y u)(f:zh8 y=true):eqU x u=eqV y x:=by
 cases y with
 | non=>cases r;rfl
 | bl b=>cases r;rfl
 | int i=>obtain ⟨t,rfl⟩:=r;rfl
 | str z=>obtain ⟨t,rfl⟩:=r;rfl
 | _=>exact absurd (show false=true from f) yS
theorem zg8 {x:V}:∀ {xs:List V} {us:List Value},Vals xs us→xs.all zh8=true→us.any (eqU x)=xs.any fun y=>eqV y x
 | _,_,.nil,_=>rfl
 | y::xs,u::us,.cons r t,f=>by
  rw [ybO,qM] at f
  rw [yaM,yaM,zpf r f.1,zg8 t f.2]
theorem zfu {A:Around}{s:Shared}{x:V}{v:Value}(rx:RelV x v)(fx:zh8 x=true):∀ {xs:List V} {us:List Value},Vals xs us→xs.all zh8=true→∀ u∈us,xB A s u v (eqU x u)
 | _,_,.nil,_=>fun u hu=>by cases hu
 | y::xs,u::us,.cons r t,f=>fun u' hu=>by
  rw [ybO,qM] at f
  rcases yR.mp hu with rfl | hu
  ·rw [zpf r f.1];exact eqAt_V r rx f.1 fx
  ·exact zfu rx fx t f.2 u' hu
noncomputable def inV (x:V) (xs:List V):Bool:=xs.any fun y=>eqV y x
noncomputable def rIn (K:PySem.W.Frag) (neg:Bool):R2:=fun x y H Q=>∃ p xs,y= .ref p∧(SqL K H p xs∨SqT K H p xs)∧zh8 x=true∧xs.all zh8=true∧Q (.bl (if neg then !inV x xs else inV x xs)) H
theorem zeY:OpR X (compareOp .In) (rIn X.K false):=by
 intro pins s σ H x y v u Q I rx ry h
 obtain ⟨p,xs,rfl,hq,fx,fs,q⟩:=h
 cases ry
 rcases hq with hq | hq
 ·obtain ⟨its,r,pl,hz⟩:=I.list hq
  refine SeqAt.in_listAt (eqU x) pl.isList (fun w hw=>zfu rx fx r fs w (by simpa using hw)) ⟨.bl _,H,I,rfl,?_⟩
  rw [show its.toArray.any (eqU x)=its.any (eqU x) by simp,zg8 r fs]
  exact q
 ·obtain ⟨its,r,pl,hz⟩:=I.tuple hq
  refine SeqAt.in_tupleAt (eqU x) pl (fun w hw=>zfu rx fx r fs w (by simpa using hw)) ⟨.bl _,H,I,rfl,?_⟩
  rw [show its.toArray.any (eqU x)=its.any (eqU x) by simp,zg8 r fs]
  exact q
theorem zjN:OpR X (compareOp .NotIn) (rIn X.K true):=by
 intro pins s σ H x y v u Q I rx ry h
 obtain ⟨p,xs,rfl,hq,fx,fs,q⟩:=h
 cases ry
 rcases hq with hq | hq
 ·obtain ⟨its,r,pl,hz⟩:=I.list hq
  refine ybP (eqU x) pl.isList (fun w hw=>zfu rx fx r fs w (by simpa using hw)) ⟨.bl _,H,I,rfl,?_⟩
  rw [show its.toArray.any (eqU x)=its.any (eqU x) by simp,zg8 r fs]
  exact q
 ·obtain ⟨its,r,pl,hz⟩:=I.tuple hq
  refine SeqAt.notIn_tupleAt (eqU x) pl (fun w hw=>zfu rx fx r fs w (by simpa using hw)) ⟨.bl _,H,I,rfl,?_⟩
  rw [show its.toArray.any (eqU x)=its.any (eqU x) by simp,zg8 r fs]
  exact q
theorem zaD:zfD X (.builtin "len") (fun xs H Q=>∃ p ys,xs= [.ref p]∧(SqL X.K H p ys∨SqT X.K H p ys)∧Q (.int ys.length) H):=by
 intro pins s σ H xs us Q I r h
 obtain ⟨p,ys,rfl,hq,q⟩:=h
 obtain ⟨u,rfl,rx⟩:=ziF r
 cases rx
 have hn:=zkS
 rcases hq with hq | hq
 ·obtain ⟨its,r',pl,hz⟩:=I.list hq
  have hlen:=r'.length
  exact Calls.call_len_list pl.isList (by simp only [yW] <;> omega) ⟨.int ys.length,H,I.tok _,⟨s.toks+1,by rw [yW,hlen]⟩,q⟩
 ·obtain ⟨its,r',pl,hz⟩:=I.tuple hq
  have hlen:=r'.length
  exact len_tuple pl (by simp only [yW] <;> omega) ⟨.int ys.length,H,I.tok _,⟨s.toks+1,by rw [yW,hlen]⟩,q⟩
theorem zi5:zfD X (.type "list") (fun xs H Q=>∃ p ys,xs= [.ref p]∧(SqL X.K H p ys∨SqT X.K H p ys)∧∀ l,H l=none→Q (.ref l) (upd H l (.lst ys))):=by
 intro pins s σ H xs us Q I r h
 obtain ⟨p,ys,rfl,hq,q⟩:=h
 obtain ⟨u,rfl,rx⟩:=ziF r
 cases rx
 have fin:∀ (its:List Value),Vals ys its→ys.length≤yM→∀ (h':Heap) (c':Nat),(∀ b o',s.heap.get? b=some o'→h'.get? b=some o')→
   h'.get? s.heap.objs.size=some {cls:=.type "list",dict:=none,data:=.seq its.toArray c',slots:=#[]}→EP X pins σ Q (.ref s.heap.objs.size) {s with heap:=h'}:=fun its r' hz h' c' kp e=>
  ⟨.ref s.heap.objs.size,_,I.laid (t':=s.toks) kp (yN _) (show zbM X.prog X.w _ h' _ (.lst ys) from ⟨hz,its,c',r',e⟩),rfl,q _ (I.hok.fresh (yN _))⟩
 rcases hq with hq | hq
 ·obtain ⟨its,r',pl,hz⟩:=I.list hq
  have hlen:=r'.length
  obtain ⟨o,ho,hc,n,hd⟩:=pl.isList
  exact call_list_seq p (.inl rfl) ho hc hd (fun h' c' kp e=>fin its r' hz h' c' kp e) (by simp only [yW] <;> omega)
 ·obtain ⟨its,r',pl,hz⟩:=I.tuple hq
  have hlen:=r'.length
  obtain ⟨o,ho,hc,n,hd⟩:=pl
  exact call_list_seq p (.inr rfl) ho hc hd (fun h' c' kp e=>fin its r' hz h' c' kp e) (by simp only [yW] <;> omega)
theorem zfn:zfD X (.type "tuple") (fun xs H Q=>∃ p ys,xs= [.ref p]∧((SqL X.K H p ys∧∀ l,H l=none→Q (.ref l) (upd H l (.tup ys)))∨(SqT X.K H p ys∧Q (.ref p) H))):=by
 intro pins s σ H xs us Q I r h
 obtain ⟨p,ys,rfl,h⟩:=h
 obtain ⟨u,rfl,rx⟩:=ziF r
 cases rx
 rcases h with ⟨hq,q⟩ | ⟨hq,q⟩
 ·obtain ⟨its,r',pl,hz⟩:=I.list hq
  have hlen:=r'.length
  refine call_tuple_list pl.isList (fun h' kp=>?_) (by simp only [yW] <;> omega)
  have I1:Inv X pins σ H {s with heap:=h'}:=I.kept (t':=s.toks) kp
  have I2:Inv X pins σ (upd H h'.objs.size (.tup ys)) {s with heap:=h'.push {cls:=.type "tuple",data:=.seq its.toArray}}:=
   I1.laid (t':=s.toks) (fun b o e=>yI _ e) (yN _) (show zbM X.prog X.w _ _ _ (.tup ys) from ⟨hz,its,r',yco _ _⟩)
  exact ⟨.ref h'.objs.size,_,I2,rfl,q _ (I1.hok.fresh (yN _))⟩
 ·obtain ⟨its,r',pl,hz⟩:=I.tuple hq
  exact call_tuple_same pl ⟨.ref p,H,I,rfl,q⟩
noncomputable def tyV (K:PySem.W.Frag) (T:String) (x:V) (H:Hp):Prop:=match x with
 | .str _=>T="str"
 | .int _=>T="int"
 | .ref p=>(T="list"∧∃ xs,SqL K H p xs)∨(T="tuple"∧∃ o,K.lookup p=some o∧o.cls= .type "tuple"∧o.dict=none)∨
   (T="dict"∧((∃ kvs,H p=some (.dK kvs))∨∃ kvs,H p=some (.dT kvs)))∨(T="set"∧∃ S n,H p=some (.set S n))
 | _=>False
theorem zo1 {pins:List (Addr×Obj)}{σ :St}{H:Hp}{s:Shared}{T:String}{x:V}{v:Value}(I:Inv X pins σ H s)(r:RelV x v)(ty:tyV X.K T x H):
  s.TypeIs v T∧∀ a,v= .ref a→∃ ob,s.heap.get? a=some ob∧ob.dict=none:=by
 cases x with
 | str z=>
  obtain ⟨t,rfl⟩:=r
  cases (show T="str" from ty)
  exact ⟨typeIs_str s z t,fun _ e=>nomatch e⟩
 | int i=>
  obtain ⟨t,rfl⟩:=r
  cases (show T="int" from ty)
  exact ⟨typeIs_int s i t,fun _ e=>nomatch e⟩
 | ref p=>
  cases r
  rcases ty with ⟨rfl,xs,hq⟩ | ⟨rfl,o,hk,hc,hd⟩ | ⟨rfl,hk⟩ | ⟨rfl,S,n,hk⟩
  ·obtain ⟨its,_,pl,_⟩:=I.list hq
   refine ⟨pl.isList.typeIs,fun a e=>?_⟩
   cases e
   obtain ⟨o,n,e,c,hd,_⟩:=pl
   exact ⟨o,e,hd⟩
  ·refine ⟨⟨o,I.kIn p o hk,hc⟩,fun a e=>?_⟩
   cases e
   exact ⟨o,I.kIn _ o hk,hd⟩
  ·have z:∃ o,s.heap.get? p=some o∧o.ExactDict:=by
    rcases hk with ⟨kvs,hk⟩ | ⟨kvs,hk⟩
    ·obtain ⟨_,_,_,_,o,_,_,e,ex,_⟩:=I.hok p _ hk
     exact ⟨o,e,ex⟩
    ·obtain ⟨_,_,_,_,o,_,_,e,ex,_⟩:=I.hok p _ hk
     exact ⟨o,e,ex⟩
   obtain ⟨o,e,ex⟩:=z
   refine ⟨⟨o,e,ex.1⟩,fun a e2=>?_⟩
   cases e2
   exact ⟨o,e,ex.2.1⟩
  ·obtain ⟨o,_,_,_,e,ex,_⟩:=I.hok p _ hk
   refine ⟨⟨o,e,ex.1⟩,fun a e2=>?_⟩
   cases e2
   exact ⟨o,e,ex.2.1⟩
 | _=>exact wM ty
noncomputable def tBM0 (K:PySem.W.Frag) (T:String) (r:V→List V→Hp→VK→Prop) (to:TE):TE:=fun σ H Q=>to σ H fun x H1=>tyV K T x H1∧r x [] H1 Q
noncomputable def tBM (K:PySem.W.Frag) (T:String) (r:V→List V→Hp→VK→Prop) (to:TE) (t:TA):TE:=fun σ H Q=>to σ H fun x H1=>tyV K T x H1∧t σ H1 fun xs H2=>r x xs H2 Q
variable {o e:Expr} {es:List Expr} {to:TE} {t:TA} {name:Str} {apos cpos:Pos} {T id:String} {r:V→List V→Hp→VK→Prop}
theorem pe_bm0 (pa:PlainAttrs T)(slot:Slot T name id)(hty:typeOf (.builtin id)=pure (.type "method_descriptor"))(hm:MtR X id r)(ho:PE X o to)
  (hbase:attributeBase o name X.env (eval o X.env)=eval o X.env:=by rfl) (hline:(apos.endLine==cpos.line)=true:=by rfl):PE X (.Call (.Attribute o name apos) [] [] cpos) (tBM0 X.K T r to):=by
 intro pins s σ H Q I h
 refine wpAny_Call_method0_late hbase hline (thn (ho pins s σ H _ I h) fun v s1 ⟨x,H1,I1,r1,ty,q1⟩=>?_)
 obtain ⟨h1,h2⟩:=zo1 I1 r1 ty
 exact ⟨T,id,pa,slot,hty,h1,h2,vZ rfl (yaU (hm pins s1 σ H1 x [] v [] Q I1 r1 .nil q1))⟩
theorem pe_bm (pa:PlainAttrs T)(slot:Slot T name id)(hty:typeOf (.builtin id)=pure (.type "method_descriptor"))(hm:MtR X id r)(ho:PE X o to)(ha:PA X (e::es) t)
  (hbase:attributeBase o name X.env (eval o X.env)=eval o X.env:=by rfl)
  (hfew:((backTo cpos (starEach (e::es) X.env)).all (fun x=>!x.1) && (backToKw cpos (keywordEach [] X.env)).all (fun x=>x.1.isSome)
   && decide ((e::es).length+([]:List Keyword).length+(if ([]:List Keyword).isEmpty then 0 else 1) < 30))=true:=by rfl)
  (hline:(apos.endLine==cpos.line)=true:=by rfl) (hs:starEach (e::es) X.env=(false,eval e X.env)::starEach es X.env:=by rfl) (hplain:(backTo cpos (starEach es X.env)).any (·.1)=false:=by rfl):
  PE X (.Call (.Attribute o name apos) (e::es) [] cpos) (tBM X.K T r to t):=by
 intro pins s σ H Q I h
 refine wpAny_Call_method_late hbase hfew hline rfl (thn (ho pins s σ H _ I h) fun v s1 ⟨x,H1,I1,r1,ty,q1⟩=>?_)
 obtain ⟨h1,h2⟩:=zo1 I1 r1 ty
 refine ⟨T,id,pa,slot,hty,h1,h2,?_⟩
 have hA:=ha cpos pins s1 σ H1 _ I1 q1
 rw [hs] at hA ⊢
 refine vZ (by show (false || (backTo cpos (starEach es X.env)).any (·.1))=false;rw [hplain] <;> rfl) (ybH ?_)
 exact thn hA fun us s2 ⟨vs,H2,I2,r2,q2⟩=>hm pins s2 σ H2 x vs v us Q I2 r1 r2 q2
end
noncomputable def MtM (X:Cx) (id:String) (r:V→List V→Hp→VK→Prop):Prop:=
 ∀ (pins:List (Addr×Obj)) (s:Shared) (σ :St) (H:Hp) (x:V) (xs:List V) (v:Value) (us:List Value) (Q:VK),Inv X pins σ H s→RelV x v→Vals xs us→r x xs H Q→
  wpAny (model X.prog X.w) X.A (call (.builtin id) (v::us)) (EP X pins σ Q) X.xe s
theorem Vals.one:∀ {x:V} {us:List Value},Vals [x] us→∃ u,us= [u]∧RelV x u
 | _,_,.cons r .nil=>⟨_,rfl,r⟩
theorem Vals.two:∀ {x y:V} {us:List Value},Vals [x,y] us→∃ u v,us= [u,v]∧RelV x u∧RelV y v
 | _,_,_,.cons r (.cons q .nil)=>⟨_,_,rfl,r,q⟩
theorem Vals.rep {xs:List V}{us:List Value}(h:Vals xs us):∀ k:Nat,Vals (qG k xs).flatten (qG k us).flatten
 | 0=>.nil
 | k+1=>by
  rw [xK,xK,kO,kO]
  exact Vals.append h (Vals.rep h k)
theorem zjU (its:List Value):∀ (k:Nat) (acc:List Value),
  ycl (fun x1 x2=>x1++x2) acc.toArray (qG k its.toArray)=(acc++(qG k its).flatten).toArray
 | 0,acc=>by simp
 | k+1,acc=>by
  have e:acc.toArray++its.toArray=(acc++its).toArray:=by simp
  have e2:(acc++its)++(qG k its).flatten=acc++(qG (k+1) its).flatten:=by
   rw [xK,kO,xF]
  rw [← e2,← zjU its k (acc++its),← e,xK,kQ]
section
variable {X:Cx} {pins:List (Addr×Obj)} {σ :St} {H:Hp} {s:Shared} {l b:Addr} {xs ys zs:List V}
theorem Inv.lset {its its':List Value}{n:Nat}{f:Array Value→Array Value}{t':Nat}(I:Inv X pins σ H s)(hH:H l=some (.lst xs))
  (e:s.heap.get? l=some {cls:=.type "list",data:=.seq its.toArray n}) (hf:f its.toArray=its'.toArray) (hv:Vals ys its') (hz:ys.length≤yM):
  Inv X pins σ (upd H l (.lst ys)) {s with heap:=s.heap.update l (jE f),toks:=t'}:=by
 have q:=PySem.IsL.update e f
 rw [hf] at q
 refine I.write (x:=l) (e:=l) (by rw [hH];exact trivial) (.inl rfl) (fun b' u hb hu=>(jO s.heap (jE f) (jL hb)).trans hu) ⟨_,q⟩ ?_
 exact ⟨hz,its',_,hv,q⟩
theorem Inv.lnew {its:List Value}{t':Nat}(I:Inv X pins σ H s)(hv:Vals ys its)(hz:ys.length≤yM):
  Inv X pins σ (upd H s.heap.objs.size (.lst ys)) {s with heap:=s.heap.push {cls:=.type "list",data:=.seq its.toArray},toks:=t'}:=
 I.laid (fun _ _ q=>yI _ q) (yN _) ⟨hz,its,0,hv,yT _ rfl⟩
theorem Inv.fresh (I:Inv X pins σ H s):H s.heap.objs.size=none:=I.hok.fresh (yN _)
theorem Inv.lstM (I:Inv X pins σ H s)(hH:H l=some (.lst xs)):xs.length≤yM∧∃ (its:List Value) (n:Nat),Vals xs its∧xs.length=its.length∧s.heap.get? l=some {cls:=.type "list",data:=.seq its.toArray n}:=by
 obtain ⟨z,its,n,r,e⟩:=I.hok l _ hH
 exact ⟨z,its,n,r,r.length,e⟩
theorem zkU {n:Nat}(h:n≤yM):kS n=false:=by
 unfold kS
 exact decide_eq_false (by omega)
end
section
variable {X:Cx}
noncomputable def zpQ:V→List V→Hp→VK→Prop:=fun x vs H Q=>∃ l xs y,x= .ref l∧vs= [y]∧H l=some (.lst xs)∧xs.length < yM∧Q .non (upd H l (.lst (xs++ [y])))
theorem zaY:MtM X "list.append" zpQ:=by
 intro pins s σ H x vs v us Q I rx rv h
 obtain ⟨l,xs,y,rfl,rfl,hH,hz,q⟩:=h
 cases rx
 obtain ⟨u,rfl,ru⟩:=rv.one
 obtain ⟨z,its,n,r,hl,e⟩:=I.lstM hH
 refine call_meets F.slot_list_append ⟨_,e,rfl⟩ F.entry_list_append (F.args_list_append_2 _ _) (PySem.list_append l its.toArray n u (by rw [yW];omega)) ⟨e,?_⟩
 refine ⟨.non,_,I.lset (its':=its++ [u]) hH e (by simp) (r.append (.cons ru .nil)) ?_,rfl,q⟩
 rw [yJ,yX]
 omega
noncomputable def zp9:V→List V→Hp→VK→Prop:=fun x vs H Q=>∃ l b xs zs,x= .ref l∧vs= [.ref b]∧H l=some (.lst xs)∧H b=some (.lst zs)∧xs.length+zs.length≤yM∧Q .non (upd H l (.lst (xs++zs)))
theorem znd:MtM X "list.extend" zp9:=by
 intro pins s σ H x vs v us Q I rx rv h
 obtain ⟨l,b,xs,zs,rfl,rfl,hH,hB,hz,q⟩:=h
 cases rx
 obtain ⟨u,rfl,ru⟩:=rv.one
 cases ru
 obtain ⟨z,its,n,r,hl,e⟩:=I.lstM hH
 obtain ⟨z2,its2,n2,r2,hl2,e2⟩:=I.lstM hB
 have hsz:its.toArray.size+its2.toArray.size≤yM:=by rw [yW,yW];omega
 have hlong:¬(!its.toArray.isEmpty && kS (its.toArray.size+its2.toArray.size))=true:=by
  rw [zkU hsz,Bool.and_false]
  exact yS
 refine call_meets F.slot_list_extend ⟨_,e,rfl⟩ F.entry_list_extend (F.args_list_extend_2 _ _)
  (AutoSeq1.list_extend_list_list_0 l its.toArray n b its2.toArray n2 hlong (by rw [yW];omega) (by omega)) ⟨e,e2,?_⟩
 refine ⟨.non,_,I.lset (its':=its++its2) hH e (by simp) (r.append r2) ?_,rfl,q⟩
 rw [yJ]
 omega
noncomputable def rCat:R2:=fun x y H Q=>∃ l b xs zs,x= .ref l∧y= .ref b∧H l=some (.lst xs)∧H b=some (.lst zs)∧xs.length+zs.length≤yM∧∀ p,H p=none→Q (.ref p) (upd H p (.lst (xs++zs)))
theorem zbS:OpR X (binaryOp .Add) rCat:=by
 intro pins s σ H x y v u Q I rx ry h
 obtain ⟨l,b,xs,zs,rfl,rfl,hH,hB,hz,q⟩:=h
 cases rx
 cases ry
 obtain ⟨z,its,n,r,hl,e⟩:=I.lstM hH
 obtain ⟨z2,its2,n2,r2,hl2,e2⟩:=I.lstM hB
 refine PySem.P.add_list e e2 ?_ (by rw [yW,yW];omega)
 have ea:its.toArray++its2.toArray=(its++its2).toArray:=by simp
 rw [ea]
 exact ⟨.ref _,_,I.lnew (t':=s.toks) (r.append r2) (by rw [yJ];omega),rfl,q _ I.fresh⟩
noncomputable def rRep:R2:=fun x y H Q=>∃ l k xs,x= .ref l∧y= .int k∧H l=some (.lst xs)∧-(2 ^ 63)≤k∧k < 2 ^ 63∧xs.length * k.toNat≤yM∧
 ∀ p,H p=none→Q (.ref p) (upd H p (.lst (qG k.toNat xs).flatten))
theorem zpU {α :Type}(xs:List α)(k:Nat):(qG k xs).flatten.length=k * xs.length:=by
 induction k with
 | zero=>simp
 | succ k ih=>rw [xK,kO,yJ,ih,Nat.succ_mul,Nat.add_comm]
theorem zo4:OpR X (binaryOp .Mult) rRep:=by
 intro pins s σ H x y v u Q I rx ry h
 obtain ⟨l,k,xs,rfl,rfl,hH,h1,h2,hz,q⟩:=h
 cases rx
 obtain ⟨t,rfl⟩:=ry
 obtain ⟨z,its,n,r,hl,e⟩:=I.lstM hH
 have hlen:its.toArray.size * k.toNat≤yM:=by rw [yW,← hl];exact hz
 have hcap:¬its.toArray.size * k.toNat > (2 ^ 63 - 1) / 8:=by
  have:(yM:Nat)≤(2 ^ 63 - 1) / 8:=by decide
  omega
 have hfit:¬(!Builtin.List.listFitsIndex k)=true:=by
  rw [fitsIndex_both h1 h2]
  exact yS
 have hlong:¬kS (its.toArray.size * k.toNat)=true:=by
  rw [zkU hlen]
  exact yS
 have hnew:ycl (fun x1 x2=>x1++x2) #[] (qG (if its.toArray.isEmpty=true then 0 else k.toNat) its.toArray)=(qG k.toNat its).flatten.toArray:=by
  have f0:∀ m:Nat,ycl (fun x1 x2=>x1++x2) #[] (qG m its.toArray)=(qG m its).flatten.toArray:=fun m=>by
   have:=zjU its m []
   rw [yby] at this
   exact this
  rw [f0]
  cases its with
  | nil=>simp
  | cons a r'=>rw [if_neg (by simp)]
 refine wpAny_binaryOp_repeat_ref (T:="list") (U:="int") (by decide) ⟨_,e,rfl⟩ (fun s'=>typeIs_int s' k t) noFill_list_mul F.fills_int_mul ycg repeat_list F.slot_int_index.lookup
  (call_meets ycg (typeIs_int s k t) F.entry_int_rmul (F.args_int_rmul_2 _ _) (int___rmul___int_list k t l its.toArray n)
   ⟨e,rfl,⟨_,e,rfl⟩,call_meets F.slot_list_mul ⟨_,e,rfl⟩ F.entry_list_mul (F.args_list_mul_2 _ _) (AutoListH.list___mul___list_int_3 l its.toArray n k t hfit hcap hlong) ⟨e,?_⟩⟩)
 rw [hnew]
 exact ⟨.ref _,_,I.lnew (t':=s.toks) (r.rep k.toNat) (by rw [zpU,ybz];exact hz),rfl,q _ I.fresh⟩
end
section
variable {prog:Program} {w:World} {A:Around} {E:Value→Shared→Prop} {s:Shared}
end
section
variable {X:Cx}
end
section
variable {κ :Type} [DecidableEq κ]
noncomputable def valV (kvs:List (κ×V)) (k: κ):Option V:=(kvs.find? fun kv=>decide (kv.1=k)).map (·.2)
noncomputable def putK (kvs:List (κ×V)) (k: κ) (v:V):List (κ×V):=
 if (kvs.any fun kv=>decide (kv.1=k))=true then kvs.map (fun kv=>if kv.1=k then (kv.1,v) else kv) else kvs++ [(k,v)]
theorem zdC {p: κ×V}{r:List (κ×V)}{k: κ}(e:p.1=k):valV (p::r) k=some p.2:=by simp [valV,vV,e]
theorem zcl {p: κ×V}{r:List (κ×V)}{k: κ}(e:¬p.1=k):valV (p::r) k=valV r k:=by simp [valV,vV,e]
theorem ziT (k: κ):∀ kvs:List (κ×V),(kvs.any fun kv=>decide (kv.1=k))=(valV kvs k).isSome
 | []=>rfl
 | p::r=>by
  rw [yaM]
  by_cases e:p.1=k
  ·simp only [zdC e,decide_eq_true e,Bool.true_or,Option.isSome_some]
  ·rw [zcl e,decide_eq_false e,Bool.false_or];exact ziT k r
theorem zcL (kvs:List (κ×V))(k: κ)(v:V):(putK kvs k v).length≤kvs.length+1:=by
 unfold putK
 split
 ·rw [yB];omega
 ·rw [yJ,qY,vW];omega
theorem zev {kvs:List (κ×V)}{k: κ}(v:V)(h:valV kvs k=none):putK kvs k v=kvs++ [(k,v)]:=by
 unfold putK
 rw [ziT,h]
 exact if_neg (by decide)
theorem RelO.isSome_eq {o:Option V}{u:Option Value}(r:RelO o u):o.isSome=u.isSome:=by
 cases o with
 | none=>cases u with
  | none=>rfl
  | some _=>exact (show False from r).elim
 | some _=>cases u with
  | none=>exact (show False from r).elim
  | some _=>rfl
theorem RelO.getD {o:Option V}{u:Option Value}{d:V}{d':Value}(r:RelO o u)(rd:RelV d d'):RelV (o.getD d) (u.getD d'):=by
 cases o with
 | none=>cases u with
  | none=>exact rd
  | some _=>exact (show False from r).elim
 | some _=>cases u with
  | none=>exact (show False from r).elim
  | some _=>exact r
theorem KV.val {kvs:List (κ×V)}{vs:List (κ×Value)}(r:KV kvs vs)(k: κ):RelO (valV kvs k) (valueAt vs k):=by
 unfold KV at r
 induction r with
 | nil=>exact True.intro
 | @cons p q ps qs h t ih=>
  obtain ⟨h1,h2⟩:=h
  by_cases e:p.1=k
  ·have e':q.1=k:=h1.symm.trans e
   have b:valueAt (q::qs) k=some q.2:=by simp [valueAt,vV,e']
   rw [zdC e,b];exact h2
  ·have e':¬q.1=k:=fun z=>e (h1.trans z)
   have b:valueAt (q::qs) k=valueAt qs k:=by simp [valueAt,vV,e']
   rw [zcl e,b];exact ih
theorem KV.any {kvs:List (κ×V)}{vs:List (κ×Value)}(r:KV kvs vs)(k: κ):(kvs.any fun kv=>decide (kv.1=k))=vs.any fun kv=>decide (kv.1=k):=by
 unfold KV at r
 induction r with
 | nil=>rfl
 | cons h t ih=>rw [yaM,yaM,ih,h.1]
theorem KV.repl {kvs:List (κ×V)}{vs:List (κ×Value)}(r:KV kvs vs)(k: κ){y:V}{u:Value}(ry:RelV y u):
  KV (kvs.map fun kv=>if kv.1=k then (kv.1,y) else kv) (vs.map fun kv=>if kv.1=k then (kv.1,u) else kv):=by
 unfold KV at r ⊢
 induction r with
 | nil=>exact .nil
 | @cons p q ps qs h t ih=>
  rw [qQ,qQ]
  refine .cons ?_ ih
  obtain ⟨h1,h2⟩:=h
  by_cases e:p.1=k
  ·rw [if_pos e,if_pos (h1.symm.trans e)];exact ⟨h1,ry⟩
  ·rw [if_neg e,if_neg (fun z=>e (h1.trans z))];exact ⟨h1,h2⟩
theorem KV.put {kvs:List (κ×V)}{vs:List (κ×Value)}(r:KV kvs vs)(k: κ){y:V}{u:Value}(ry:RelV y u):KV (putK kvs k y) (stored vs k u):=by
 unfold putK stored
 rw [r.any k]
 by_cases e:(vs.any fun kv=>decide (kv.1=k))=true
 ·rw [if_pos e,if_pos e];exact r.repl k ry
 ·rw [if_neg e,if_neg e];exact yac r ⟨rfl,ry⟩
theorem KV.length {kvs:List (κ×V)}{vs:List (κ×Value)}(r:KV kvs vs):kvs.length=vs.length:=qI r
end
theorem zki {P:Program}{w:World}{k:Key}{u:Value}(r:RelV (kV k) u):(zaw P w).is k u=true:=by
 cases k with
 | inl i=>obtain ⟨t,e⟩:=(show ∃ t,u=Value.int i t from r);subst e;exact zkA P w i t
 | inr x=>obtain ⟨t,e⟩:=(show ∃ t,u=Value.str x t from r);subst e;exact zkQ P w x t
theorem zjA {P:Program}{w:World}:∀ {ks:List Key} {us:List Value},Vals (ks.map kV) us→ItemsAre (zaw P w) ks us
 | [],_,r=>by rw [ybx] at r;cases r;exact .nil
 | k::ks,_,r=>by
  rw [qQ] at r
  cases r with
  | cons h t=>exact .cons (zki h) (zjA t)
noncomputable abbrev KT (H:Hp):List (List Key×V)→List (List Key×Addr×Value)→Prop:=Paired fun p q=>p.1=q.1∧RdT H q.2.1 (p.1.map kV)∧RelV p.2 q.2.2
theorem KT.val {H:Hp}{kvs:List (List Key×V)}{xs:List (List Key×Addr×Value)}(r:KT H kvs xs)(k:List Key):RelO (valV kvs k) ((atKey xs k).map (·.2)):=by
 induction r with
 | nil=>exact True.intro
 | @cons p q ps qs h t ih=>
  obtain ⟨h1,_,h2⟩:=h
  by_cases e:p.1=k
  ·have e':q.1=k:=h1.symm.trans e
   have b:atKey (q::qs) k=some q.2:=by simp [atKey,vV,e']
   rw [zdC e,b];exact h2
  ·have e':¬q.1=k:=fun z=>e (h1.trans z)
   have b:atKey (q::qs) k=atKey qs k:=by simp [atKey,vV,e']
   rw [zcl e,b];exact ih
theorem KT.repl {H:Hp}{kvs:List (List Key×V)}{xs:List (List Key×Addr×Value)}(r:KT H kvs xs)(k:List Key){y:V}{u:Value}(ry:RelV y u):
  KT H (kvs.map fun kv=>if kv.1=k then (kv.1,y) else kv) (xs.map (putAt k u)):=by
 induction r with
 | nil=>exact .nil
 | @cons p q ps qs h t ih=>
  rw [qQ,qQ]
  refine .cons ?_ ih
  obtain ⟨h1,h2,h3⟩:=h
  unfold putAt
  by_cases e:p.1=k
  ·rw [if_pos e,if_pos (h1.symm.trans e)];exact ⟨h1,h2,ry⟩
  ·rw [if_neg e,if_neg (fun z=>e (h1.trans z))];exact ⟨h1,h2,h3⟩
theorem KT.put {H:Hp}{kvs:List (List Key×V)}{xs:List (List Key×Addr×Value)}(r:KT H kvs xs)(k:List Key){b:Addr}{y:V}{u:Value}(hb:RdT H b (k.map kV))(ry:RelV y u):
  KT H (putK kvs k y) (storedH xs k b u):=by
 have e:(kvs.any fun kv=>decide (kv.1=k))=(atKey xs k).isSome:=by
  rw [ziT,(r.val k).isSome_eq,ya8]
 unfold putK storedH
 rw [e]
 by_cases q:(atKey xs k).isSome=true
 ·rw [if_pos q,if_pos q];exact r.repl k ry
 ·rw [if_neg q,if_neg q];exact yac r ⟨rfl,hb,ry⟩
theorem KT.keeps {H H':Hp}{kvs:List (List Key×V)}{xs:List (List Key×Addr×Value)}(r:KT H kvs xs)(ht:∀ b ys,RdT H b ys→RdT H' b ys):KT H' kvs xs:=
 Paired.mapP r fun _ _ z=>⟨z.1,ht _ _ z.2.1,z.2.2⟩
section
variable {P:Program} {w:World} {H:Hp} {h:Heap} {a:Addr}
theorem rd_of {u:HO}(ok:HOk P w H h)(e:Rd H a u):zbM P w H h a u:=e.ok ok
theorem zkl {kvs:List (Key×V)}(ok:HOk P w H h)(e:Rd H a (.dK kvs)):kvs.length≤yM∧(a==sysModules)=false∧∃ vs,KV kvs vs∧h.DictOf (zaw P w) a vs:=
 show zbM P w H h a (.dK kvs) from rd_of ok e
theorem dk_of {kvs:List (Key×V)}(ok:HOk P w H h)(e:H a=some (.dK kvs)):kvs.length≤yM∧(a==sysModules)=false∧∃ vs,KV kvs vs∧h.DictOf (zaw P w) a vs:=zkl ok (.inl e)
theorem zfe {ks:List Key}(ok:HOk P w H h)(e:RdT H a (ks.map kV)):(tupleKind (zaw P w)).is h ks a:=by
 obtain ⟨_,its,r,o,h1,h2,n,h3⟩:=(show zbM P w H h a (.tup (ks.map kV)) from Rd.ok (show Rd H a _ from e) ok)
 exact ⟨o,its.toArray,n,h1,h2,h3,by simpa using zjA r⟩
theorem zko {kvs:List (List Key×V)}(ok:HOk P w H h)(e:Rd H a (.dT kvs)):kvs.length≤yM∧(a==sysModules)=false∧
  ∃ xs,KT H kvs xs∧h.DictOfH (tupleKind (zaw P w)) a xs:=by
 obtain ⟨z,y,xs,r,o,es,ep,h1,h2,h3,h4,h5⟩:=(show zbM P w H h a (.dT kvs) from rd_of ok e)
 refine ⟨z,y,xs,r,o,es,ep,h1,h2,h3,h4,fun x hx=>?_,h5⟩
 have all:∀ {l:List (List Key×V)} {m:List (List Key×Addr×Value)},KT H l m→∀ x∈m,(tupleKind (zaw P w)).is h x.1 x.2.1:=by
  intro l m q
  induction q with
  | nil=>intro x hx;exact nomatch hx
  | @cons p q ps qs hq t ih=>
   intro x hx
   rcases yR.mp hx with e | hx
   ·subst e
    exact zfe ok (by rw [← hq.1];exact hq.2.1)
   ·exact ih x hx
 exact all r x hx
theorem zmD {kvs:List (List Key×V)}(ok:HOk P w H h)(e:H a=some (.dT kvs)):kvs.length≤yM∧(a==sysModules)=false∧
  ∃ xs,KT H kvs xs∧h.DictOfH (tupleKind (zaw P w)) a xs:=zko ok (.inl e)
end
noncomputable def DGet (H:Hp) (a:Addr) (y:V) (r:Option V):Prop:=
 (∃ kvs k,Rd H a (.dK kvs)∧y=kV k∧r=valV kvs k)∨∃ kvs k b,Rd H a (.dT kvs)∧y= .ref b∧RdT H b (k.map kV)∧r=valV kvs k
noncomputable def DPut (H:Hp) (a:Addr) (y v:V) (H':Hp):Prop:=
 (∃ kvs k,H a=some (.dK kvs)∧y=kV k∧kvs.length < yM∧H'=upd H a (.dK (putK kvs k v)))∨
 ∃ kvs k b,H a=some (.dT kvs)∧y= .ref b∧RdT H b (k.map kV)∧kvs.length < yM∧H'=upd H a (.dT (putK kvs k v))
theorem DGet.k {H:Hp}{a:Addr}{kvs:List (Key×V)}{k:Key}(e:H a=some (.dK kvs)):DGet H a (kV k) (valV kvs k):=.inl ⟨kvs,k,.inl e,rfl,rfl⟩
theorem DGet.t {H:Hp}{a b:Addr}{kvs:List (List Key×V)}{k:List Key}(e:H a=some (.dT kvs))(eb:H b=some (.tup (k.map kV))):DGet H a (.ref b) (valV kvs k):=.inr ⟨kvs,k,b,.inl e,rfl,.inl eb,rfl⟩
theorem DPut.t {H:Hp}{a b:Addr}{kvs:List (List Key×V)}{k:List Key}{v:V}(e:H a=some (.dT kvs))(eb:H b=some (.tup (k.map kV)))(hl:kvs.length < yM):
  DPut H a (.ref b) v (upd H a (.dT (putK kvs k v))):=.inr ⟨kvs,k,b,e,rfl,.inl eb,hl,rfl⟩
section
variable {X:Cx} {pins:List (Addr×Obj)} {σ :St} {H:Hp} {s:Shared} {a:Addr} {y v:V} {u r:Value} {o:Option V} {A:Around} {E:Value→Shared→Prop}
theorem Inv.big (I:Inv X pins σ H s):sysModules < s.heap.objs.size:=by
 have h:jD < s.heap.objs.size:=(I.mod.glob.keeps I.bk).lt
 exact yaC (by decide) h
theorem znt {Q:Value→Shared→Prop}(hu:A.units+1 < cLine)(I:Inv X pins σ H s)(g:DGet H a y (some v))(ry:RelV y u)(h:∀ w' s',Inv X pins σ H s'→RelV v w'→Q w' s'):
  wpAny (model X.prog X.w) A (getItem (.ref a) u) Q E s:=by
 rcases g with ⟨kvs,k,e,ey,l⟩ | ⟨kvs,k,b,e,ey,eb,l⟩
 ·subst ey
  obtain ⟨z,hd,vs,rel,dd⟩:=zkl I.hok e
  obtain ⟨w',hw,rw'⟩:=RelO.some_of (v:=v) (o:=valueAt vs k) (by rw [l];exact rel.val k)
  exact wpAny_getItem_of (zki ry) dd.mapOf hw (h w' _ (I.tok _) rw')
 ·subst ey
  cases (show u=Value.ref b from ry)
  obtain ⟨z,hd,xs,rel,dd⟩:=zko I.hok e
  obtain ⟨w',hw,rw'⟩:=RelO.some_of (v:=v) (o:=(atKey xs k).map (·.2)) (by rw [l];exact rel.val k)
  obtain ⟨p,hp,hp2⟩:=kA.mp hw
  refine wpAny_getItem_heap (tupleKind_room_in1 hu) (zfe I.hok eb) dd hp ?_
  rw [hp2]
  exact h w' _ (I.tok _) rw'
theorem d_in {Q:Value→Shared→Prop}(hu:A.units+1 < cLine)(I:Inv X pins σ H s)(g:DGet H a y o)(ry:RelV y u)(h:∀ s',Inv X pins σ H s'→Q (.bool o.isSome) s'):
  wpAny (model X.prog X.w) A (compareOp .In u (.ref a)) Q E s:=by
 rcases g with ⟨kvs,k,e,ey,l⟩ | ⟨kvs,k,b,e,ey,eb,l⟩
 ·subst ey
  obtain ⟨z,hd,vs,rel,dd⟩:=zkl I.hok e
  refine wpAny_in_of (zki ry) hd dd.mapOf ?_
  rw [← (rel.val k).isSome_eq,← l]
  exact h _ (I.tok _)
 ·subst ey
  cases (show u=Value.ref b from ry)
  obtain ⟨z,hd,xs,rel,dd⟩:=zko I.hok e
  refine wpAny_in_heap (tupleKind_room_in1 hu) (zfe I.hok eb) hd dd ?_
  have q:=(rel.val k).isSome_eq
  rw [ya8] at q
  rw [← q,← l]
  exact h _ (I.tok _)
theorem zp7 {Q:Value→Shared→Prop}(hu:A.units+1 < cLine)(I:Inv X pins σ H s)(g:DGet H a y o)(ry:RelV y u)(h:∀ s',Inv X pins σ H s'→Q (.bool (!o.isSome)) s'):
  wpAny (model X.prog X.w) A (compareOp .NotIn u (.ref a)) Q E s:=by
 rcases g with ⟨kvs,k,e,ey,l⟩ | ⟨kvs,k,b,e,ey,eb,l⟩
 ·subst ey
  obtain ⟨z,hd,vs,rel,dd⟩:=zkl I.hok e
  refine wpAny_notIn_of (zki ry) hd dd.mapOf ?_
  rw [← (rel.val k).isSome_eq,← l]
  exact h _ (I.tok _)
 ·subst ey
  cases (show u=Value.ref b from ry)
  obtain ⟨z,hd,xs,rel,dd⟩:=zko I.hok e
  refine wpAny_notIn_heap (tupleKind_room_in1 hu) (zfe I.hok eb) hd dd ?_
  have q:=(rel.val k).isSome_eq
  rw [ya8] at q
  rw [← q,← l]
  exact h _ (I.tok _)
theorem zfY {h':Heap}{t':Nat}{ob:HO}(I:Inv X pins σ H s)(mu:Mut (H a))(hs:qH a s.heap h')(he:∃ q,h'.get? a=some q)(new:zbM X.prog X.w (upd H a ob) h' a ob):
  Inv X pins σ (upd H a ob) {s with heap:=h',toks:=t'}:=
 I.write (x:=a) (e:=a) mu (.inl rfl) (fun b q hb z=>(hs.2 b hb).trans z) he new
theorem zpj {P:Program}{w:World}{H':Hp}{h':Heap}{kvs:List (Key×V)}{vs:List (Key×Value)}(z:kvs.length≤yM)(hd:(a==sysModules)=false)(rel:KV kvs vs)(dd:h'.DictOf (zaw P w) a vs):
  zbM P w H' h' a (.dK kvs):=⟨z,hd,vs,rel,dd⟩
theorem zmW {H':Hp}{Q:Unit→Shared→Prop}(hu:A.units+1 < cLine)(I:Inv X pins σ H s)(g:DPut H a y v H')(ry:RelV y u)(rv:RelV v r)(h:∀ s',Inv X pins σ H' s'→Q () s'):
  wpAny (model X.prog X.w) A (setItem (.ref a) u r) Q E s:=by
 rcases g with ⟨kvs,k,e,ey,l,eH⟩ | ⟨kvs,k,b,e,ey,eb,l,eH⟩
 ·subst ey eH
  obtain ⟨z,hd,vs,rel,dd⟩:=dk_of I.hok e
  have hz:vs.length≤yM:=by rw [← rel.length];exact z
  have hl:(putK kvs k v).length≤yM:=by have:=zcL kvs k v;omega
  refine wpAny_setItem_pairs (hsz:=hz) (zki ry) dd fun h' dd' hs=>h _ ?_
  have he:∃ q,h'.get? a=some q:=let ⟨q,_,_,hq,_⟩:=dd';⟨q,hq⟩
  exact zfY I (by rw [e];exact True.intro) hs he (zpj hl hd (rel.put k rv) dd')
 ·subst ey eH
  cases (show u=Value.ref b from ry)
  obtain ⟨z,hd,xs,rel,dd⟩:=zmD I.hok e
  have hz:xs.length≤yM:=by rw [← qI rel];exact z
  have hl:(putK kvs k v).length≤yM:=by have:=zcL kvs k v;omega
  refine wpAny_setItem_heap (hsz:=hz) (tupleKind_room_in1 hu) (zfe I.hok eb) dd fun h' dd' hs=>h _ ?_
  obtain ⟨q,es,ep,hq,h2,h3,h4,_,h5⟩:=dd'
  refine zfY I (by rw [e];exact True.intro) hs ⟨q,hq⟩ ⟨hl,hd,_,(rel.put k eb rv).keeps fun c ys ec=>ec.keep fun u eu hu=>?_,q,es,ep,hq,h2,h3,h4,h5⟩
  rw [zai (zmm eu e (fun z=>by obtain ⟨ys,hu | ⟨_,hu⟩⟩:=hu <;> (rw [hu] at z;cases z)))]
  exact eu
end
section
variable {X:Cx} {pins:List (Addr×Obj)} {σ :St} {H:Hp} {s:Shared} {a:Addr} {kvs:List (Key×V)} {k:Key} {u:Value} {A:Around} {E:Value→Shared→Prop}
end
noncomputable def NoSl (i:Expr):Prop:=∀ ov iv,subscripted i false ov iv=operate [ov,iv] (getItem ov iv)
theorem zpx {prog:Program}{w:World}{A:Around}{E:Value→Shared→Prop}{s:Shared}{env:Env}{value slice:Expr}{pos:Pos}{T id:String}{Q:Value→Shared→Prop}
  (hl:typeLookup (.type T) "__getitem__" =pure (some (.builtin id))) (hs:NoSl slice)
  (h:wpAny (model prog w) A (eval value env) (fun o s₁ =>wpAny (model prog w) A (eval slice env) (fun i s₂ =>s₂.TypeIs o T∧wpAny (model prog w) A (getItem o i) Q E s₂) E s₁) E s):
  wpAny (model prog w) A (eval (.Subscript value slice pos) env) Q E s:=by
 refine Subscript_ (wpAny_mono h (fun o s₁ h₁ =>wpAny_mono h₁ (fun i s₂ h₂ =>?_) fun _ _ x=>x) fun _ _ x=>x)
 obtain ⟨hT,h₂⟩:=h₂
 unfold subscriptTail
 refine yA ?_
 rw [getitemInPython_of_ne hT.not_modules]
 refine yA (wpAny_specialOf hT hl ?_)
 have fin:wpAny (model prog w) A (subscripted slice false o i) (fun r s₃ =>wpAny (model prog w) A (letTemporaryGo value o r >>=fun _=>pure r) Q E s₃) E s₂ :=by
  rw [hs o i]
  exact wpAny_operating (wpAny_mono h₂ (fun r s₃ h₃ =>yA (wpAny_letTemporaryGo (yD h₃))) fun _ _ x=>x)
 first
  | exact yD (yA fin)
  | exact yA (yD (yA fin))
  | exact yA fin
theorem zkr {X:Cx}{pins:List (Addr×Obj)}{σ :St}{H:Hp}{s:Shared}{a:Addr}{y:V}{o:Option V}(I:Inv X pins σ H s)(g:DGet H a y o):s.TypeIs (.ref a) "dict" :=by
 rcases g with ⟨kvs,k,e,_,_⟩ | ⟨kvs,k,b,e,_,_,_⟩
 ·obtain ⟨_,_,vs,_,dd⟩:=zkl I.hok e
  exact dd.typeIs
 ·obtain ⟨_,_,xs,_,dd⟩:=zko I.hok e
  exact dd.typeIs
noncomputable def tDGet (td ty:TE):TE:=fun σ H Q=>td σ H fun x H1=>ty σ H1 fun y H2=>∃ a v,x= .ref a∧DGet H2 a y (some v)∧Q v H2
noncomputable def tDIn (ty td:TE):TE:=fun σ H Q=>ty σ H fun y H1=>td σ H1 fun x H2=>∃ a o,x= .ref a∧DGet H2 a y o∧Q (.bl o.isSome) H2
noncomputable def znB (ty td:TE):TE:=fun σ H Q=>ty σ H fun y H1=>td σ H1 fun x H2=>∃ a o,x= .ref a∧DGet H2 a y o∧Q (.bl (!o.isSome)) H2
noncomputable def sDPut (td ty tv:TE):TS:=fun D σ H=>tv σ H fun v H1=>td σ H1 fun x H2=>ty σ H2 fun y H3=>∃ a H4,x= .ref a∧DPut H3 a y v H4∧D.nx σ H4
section
variable {X:Cx} {o i e value:Expr} {pos pos' tpos:Pos} {td ty tv:TE}
theorem zpA (hu:X.A.units+1 < cLine)(ho:PE X o td)(hi:PE X i ty)(hs:NoSl i):PE X (.Subscript o i pos) (tDGet td ty):=by
 intro pins s σ H Q I h
 refine zpx PySem.F.slot_dict_getitem.lookup hs (thn (ho pins s σ H _ I h) fun u s1 ⟨x,H1,I1,rx,q1⟩=>thn (hi pins s1 σ H1 _ I1 q1) fun iv s2 ⟨y,H2,I2,ry,a,v,ex,g,q2⟩=>?_)
 subst ex
 obtain rfl:u=Value.ref a:=rx
 exact ⟨zkr I2 g,znt hu I2 g ry fun w' s3 I3 rw'=>⟨v,H2,I3,rw',q2⟩⟩
theorem pc_din (hu:X.A.units+1 < cLine)(hi:PE X i ty)(ho:PE X o td):PC X .In i o (tDIn ty td):=by
 intro pins s σ H Q I h
 refine thn (hi pins s σ H _ I h) fun iv s1 ⟨y,H1,I1,ry,q1⟩=>thn (ho pins s1 σ H1 _ I1 q1) fun u s2 ⟨x,H2,I2,rx,a,ov,ex,g,q2⟩=>?_
 subst ex
 obtain rfl:u=Value.ref a:=rx
 exact d_in hu I2 g ry fun s3 I3=>⟨.bl ov.isSome,H2,I3,rfl,q2⟩
theorem zni (hu:X.A.units+1 < cLine)(hi:PE X i ty)(ho:PE X o td):PC X .NotIn i o (znB ty td):=by
 intro pins s σ H Q I h
 refine thn (hi pins s σ H _ I h) fun iv s1 ⟨y,H1,I1,ry,q1⟩=>thn (ho pins s1 σ H1 _ I1 q1) fun u s2 ⟨x,H2,I2,rx,a,ov,ex,g,q2⟩=>?_
 subst ex
 obtain rfl:u=Value.ref a:=rx
 exact zp7 hu I2 g ry fun s3 I3=>⟨.bl (!ov.isSome),H2,I3,rfl,q2⟩
theorem zpZ (hu:X.A.units+1 < cLine)(ho:PE X o td)(hi:PE X i ty)(hv:PE X value tv)(hs:swapsWith value (some (.Subscript o i pos')) pos.line X.env=pure false):
  PS X (.Assign [.Subscript o i pos'] value pos) (sDPut td ty tv):=by
 intro pins s σ H D I h
 refine wpAny_Assign_Subscript (thn (hv pins s σ H _ I h) fun r s1 ⟨v,H1,I1,rv,q1⟩=>thn (ho pins s1 σ H1 _ I1 q1) fun u s2 ⟨x,H2,I2,rx,q2⟩=>thn (hi pins s2 σ H2 _ I2 q2) fun iv s3 ⟨y,H3,I3,ry,a,H4,ex,g,q3⟩=>?_) hs
 subst ex
 obtain rfl:u=Value.ref a:=rx
 exact zmW hu I3 g ry rv fun s4 I4=>⟨σ,H4,I4,q3⟩
end
theorem zoJ {P:Program}{w:World}{H:Hp}(h:Heap)(hb:sysModules < h.objs.size):zbM P w H (h.push {cls:=.type "dict",data:=.dict #[]}) h.objs.size (.dK []):=
 ⟨qL _,beq_eq_false_iff_ne.mpr (jL (qC hb)),[],.nil,Heap.DictOf.new h⟩
theorem zld {P:Program}{w:World}{H:Hp}(h:Heap)(hb:sysModules < h.objs.size):zbM P w H (h.push {cls:=.type "dict",data:=.dict #[]}) h.objs.size (.dT []):=
 ⟨qL _,beq_eq_false_iff_ne.mpr (jL (qC hb)),[],.nil,_,#[],0,yT _ rfl,⟨rfl,rfl,rfl⟩,rfl,rfl,xL⟩
noncomputable def zo3:TE:=fun _ H Q=>∀ p,H p=none→Q (.ref p) (upd H p (.dT []))
section
variable {X:Cx} {pos:Pos}
theorem zn7:PE X (.Dict [] [] pos) zo3:=fun pins s σ H Q I h=>
 wpAny_Dict_empty ⟨.ref s.heap.objs.size,_,I.laid (a:=s.heap.objs.size) (o:=.dT []) (t':=s.toks) (fun _ _ q=>yI _ q) (yN _) (zld s.heap I.big),rfl,h _ (I.hok.fresh (yN _))⟩
end
noncomputable def znA:List (TE×TE)→St→Hp→(List (V×V)→Hp→Prop)→Prop
 | [],_,H,Q=>Q [] H
 | (tk,tv)::r,σ,H,Q=>tk σ H fun x H1=>tv σ H1 fun y H2=>znA r σ H2 fun ps H3=>Q ((x,y)::ps) H3
noncomputable abbrev VV:List (V×V)→List (Value×Value)→Prop:=Paired fun p q=>RelV p.1 q.1∧RelV p.2 q.2
noncomputable def PPs (X:Cx) (pos:Pos) (keys:List (Option Expr)) (values:List Expr) (trs:List (TE×TE)):Prop:=
 ∀ (pins:List (Addr×Obj)) (s:Shared) (σ :St) (H:Hp) (Q:List (V×V)→Hp→Prop),Inv X pins σ H s→znA trs σ H Q→
  wpAny (model X.prog X.w) X.A (evalPairs (pairTrees keys values X.env pos)) (fun vs s'=>∃ ps H',Inv X pins σ H' s'∧VV ps vs∧Q ps H') X.xe s
theorem zqg {X:Cx}{pos:Pos}:PPs X pos [] [] []:=fun pins s σ H Q I h=>pairTrees_nil_walk ⟨[],H,I,.nil,h⟩
theorem zoy {X:Cx}{pos:Pos}{k v:Expr}{ks:List (Option Expr)}{vs:List Expr}{tk tv:TE}{trs:List (TE×TE)}(hk:PE X k tk)(hv:PE X v tv)(hr:PPs X pos ks vs trs):
  PPs X pos (some k::ks) (v::vs) ((tk,tv)::trs):=fun pins s σ H Q I h=>
 pairTrees_cons_walk (thn (hk pins s σ H _ I h) fun u s1 ⟨x,H1,I1,rx,q1⟩=>thn (hv pins s1 σ H1 _ I1 q1) fun w2 s2 ⟨y,H2,I2,ry,q2⟩=>
  thn (hr pins s2 σ H2 _ I2 q2) fun ws s3 ⟨ps,H3,I3,rel,q3⟩=>⟨(x,y)::ps,H3,I3,.cons ⟨rx,ry⟩ rel,q3⟩)
noncomputable def zfi (kvs more:List (Key×V)):List (Key×V):=more.foldl (fun acc kv=>putK acc kv.1 kv.2) kvs
theorem KV.merge:∀ {more:List (Key×V)} {rs:List (Key×Value)} {kvs:List (Key×V)} {vs:List (Key×Value)},KV more rs→KV kvs vs→KV (zfi kvs more) (merged vs rs):=by
 intro more rs kvs vs r
 unfold KV at r
 induction r generalizing kvs vs with
 | nil=>intro q;exact q
 | @cons p q ps qs h t ih=>
  intro r0
  have e:KV (putK kvs p.1 p.2) (stored vs q.1 q.2):=by
   have:=r0.put p.1 h.2
   rw [← h.1];exact this
  exact ih e
theorem zeZ:∀ (more kvs:List (Key×V)),(zfi kvs more).length≤kvs.length+more.length
 | [],kvs=>by show kvs.length≤kvs.length+0;omega
 | p::r,kvs=>by
  have h1:=zeZ r (putK kvs p.1 p.2)
  have h2:=zcL kvs p.1 p.2
  show (zfi (putK kvs p.1 p.2) r).length≤_
  rw [qY];omega
theorem zhR {P:Program}{w:World}:∀ {kvs:List (Key×V)} {ws:List (Value×Value)},VV (kvs.map fun kv=>(kV kv.1,kv.2)) ws→∃ rs,Carries (zaw P w) ws rs∧KV kvs rs
 | [],_,r=>by rw [ybx] at r;cases r;exact ⟨[],True.intro,.nil⟩
 | p::kvs,_,r=>by
  rw [qQ] at r
  cases r with
  | @cons a b as bs h t=>
   obtain ⟨rs,c,q⟩:=zhR (P:=P) (w:=w) t
   obtain ⟨b1,b2⟩:=b
   exact ⟨(p.1,b2)::rs,⟨zki h.1,rfl,c⟩,.cons ⟨rfl,h.2⟩ q⟩
noncomputable def tDisp (trs:List (TE×TE)):TE:=fun σ H Q=>∀ p,H p=none→znA trs σ (upd H p (.dK [])) fun ps H2=>H2 p=some (.dK [])∧∃ kvs:List (Key×V),ps=kvs.map (fun kv=>(kV kv.1,kv.2))∧kvs.length≤15∧Q (.ref p) (upd H2 p (.dK (zfi [] kvs)))
theorem zpy {X:Cx}{pos:Pos}{keys:List (Option Expr)}{values:List Expr}{trs:List (TE×TE)}(h:PPs X pos keys values trs)(hall:keys.all (·.isSome)=true)(hl:keys.length=values.length)(h0:keys≠[])
  (h15:keys.length≤15):PE X (.Dict keys values pos) (tDisp trs):=by
 intro pins s σ H Q I q
 have hn:=I.hok.fresh (yN s.heap.objs.size)
 have I1:=I.laid (a:=s.heap.objs.size) (o:=.dK []) (h':=s.heap.push {cls:=.type "dict",data:=.dict #[]}) (t':=s.toks) (fun _ _ q=>yI _ q) (yN _) (zoJ s.heap I.big)
 refine wpAny_Dict_walk (knd:=zaw X.prog X.w) hall hl h0 h15 (thn (h pins _ σ _ _ I1 (q _ hn)) fun ws s2 ⟨ps,H2,I2,rel,e,kvs,ep,lk,q2⟩=>?_)
 subst ep
 obtain ⟨rs,c,rk⟩:=zhR (P:=X.prog) (w:=X.w) rel
 obtain ⟨z,hd,vs0,r0,dd⟩:=dk_of I2.hok e
 cases r0
 refine ⟨rs,c,dd,fun h' dd' hs=>⟨.ref s.heap.objs.size,_,?_,rfl,q2⟩⟩
 have hz:(zfi [] kvs).length≤yM:=by
  have h1:=zeZ kvs []
  rw [vW] at h1
  rw [sizeLine_eq];omega
 have he:∃ q,h'.get? s.heap.objs.size=some q:=let ⟨q,_,_,hq,_⟩:=dd';⟨q,hq⟩
 exact zfY I2 (by rw [e];exact True.intro) hs he (zpj hz hd (rk.merge .nil) dd')
structure M2 (X:Cx) (o:Expr) (m:Str) (apos:Pos) (e f:Expr) (cpos:Pos):Prop where
 base:attributeBase o m X.env (eval o X.env)=eval o X.env
 few:((backTo cpos (starEach [e,f] X.env)).all (fun x=>!x.1) && (backToKw cpos (keywordEach [] X.env)).all (fun x=>x.1.isSome)
  && decide (([e,f]:List Expr).length+([]:List Keyword).length+(if ([]:List Keyword).isEmpty then 0 else 1) < 30))=true
 line:(apos.endLine==cpos.line)=true
 trees:backTo cpos (starEach [e,f] X.env)= [(false,eval e X.env),(false,eval f X.env)]
noncomputable def IsD (H:Hp) (a:Addr):Prop:=(∃ kvs,Rd H a (.dK kvs))∨∃ kvs,Rd H a (.dT kvs)
theorem isD_at {X:Cx}{pins:List (Addr×Obj)}{σ :St}{H:Hp}{s:Shared}{a:Addr}(I:Inv X pins σ H s)(d:IsD H a):
  s.TypeIs (.ref a) "dict"∧(∀ b,Value.ref a= .ref b→∃ ob,s.heap.get? b=some ob∧ob.dict=none)∧(a==sysModules)=false:=by
 rcases d with ⟨kvs,e⟩ | ⟨kvs,e⟩
 ·obtain ⟨_,hd,vs,_,dd⟩:=zkl I.hok e
  refine ⟨dd.typeIs,fun b q=>?_,hd⟩
  cases q
  obtain ⟨ob,_,_,h1,h2,_⟩:=dd
  exact ⟨ob,h1,h2.2.1⟩
 ·obtain ⟨_,hd,xs,_,dd⟩:=zko I.hok e
  refine ⟨dd.typeIs,fun b q=>?_,hd⟩
  cases q
  obtain ⟨ob,_,_,h1,h2,_⟩:=dd
  exact ⟨ob,h1,h2.2.1⟩
section
variable {X:Cx} {pins:List (Addr×Obj)} {σ :St} {H:Hp} {s:Shared} {a:Addr} {y d:V} {u r:Value} {o:Option V} {A:Around} {E:Value→Shared→Prop}
theorem d_get2 {Q:Value→Shared→Prop}(hu:A.units+1 < cLine)(I:Inv X pins σ H s)(g:DGet H a y o)(ry:RelV y u)(rd:RelV d r)(h:∀ w' s',Inv X pins σ H s'→RelV (o.getD d) w'→Q w' s'):
  wpAny (model X.prog X.w) A (call (.builtin "dict.get") [.ref a,u,r]) Q E s:=by
 rcases g with ⟨kvs,k,e,ey,l⟩ | ⟨kvs,k,b,e,ey,eb,l⟩
 ·subst ey
  obtain ⟨z,hd,vs,rel,dd⟩:=zkl I.hok e
  refine call_meetsIn yaD dd.typeIs ybs (ybh _ _ _) (meets_dict_get_default (zaw X.prog X.w) a (zki ry) hd r) ⟨_,dd.mapOf,h _ _ (I.tok _) ?_⟩
  rw [l]
  exact (rel.val k).getD rd
 ·subst ey
  cases (show u=Value.ref b from ry)
  obtain ⟨z,hd,xs,rel,dd⟩:=zko I.hok e
  refine call_meetsIn yaD dd.typeIs ybs (ybh _ _ _) (meetsH_dict_get_default (tupleKind (zaw X.prog X.w)) a b hd r) ⟨tupleKind_room_in1 hu,k,xs,zfe I.hok eb,dd,h _ _ (I.tok _) ?_⟩
  rw [l]
  exact (rel.val k).getD rd
end
noncomputable def zpa (td ty tx:TE):TE:=fun σ H Q=>td σ H fun x H1=>∃ a,x= .ref a∧IsD H1 a∧ty σ H1 fun y H2=>tx σ H2 fun z H3=>∃ o,DGet H3 a y o∧Q (o.getD z) H3
section
variable {X:Cx} {o e f:Expr} {apos cpos:Pos} {td ty tx:TE}
theorem zog (hu:X.A.units+1 < cLine)(ho:PE X o td)(he:PE X e ty)(hf:PE X f tx)(m:M2 X o "get" apos e f cpos):PE X (.Call (.Attribute o "get" apos) [e,f] [] cpos) (zpa td ty tx):=by
 intro pins s σ H Q I h
 refine wpAny_Call_method m.base m.few m.line vQ yaD PySem.F.type_dict_get (thn (ho pins s σ H _ I h) fun u s1 ⟨x,H1,I1,rx,a,ex,d,q1⟩=>?_)
 subst ex
 obtain rfl:u=Value.ref a:=rx
 obtain ⟨t1,t2,_⟩:=isD_at I1 d
 refine ⟨t1,t2,?_⟩
 rw [m.trees]
 refine vZ rfl (ybH (kF (thn (he pins s1 σ H1 _ I1 q1) fun iv s2 ⟨y,H2,I2,ry,q2⟩=>
  kF (thn (hf pins s2 σ H2 _ I2 q2) fun fv s3 ⟨z,H3,I3,rz,ov,g,q3⟩=>wN ?_))))
 exact d_get2 hu I3 g ry rz fun w' s4 I4 rw'=>⟨_,H3,I4,rw',q3⟩
end
section
variable {X:Cx} {pins:List (Addr×Obj)} {σ :St} {H:Hp} {s:Shared} {a:Addr} {kvs:List (Key×V)} {A:Around} {E:Value→Shared→Prop}
end
section
variable {X:Cx} {pins:List (Addr×Obj)} {σ :St} {H:Hp} {s:Shared} {a:Addr} {y:V} {u:Value} {A:Around} {E:Value→Shared→Prop}
end
end L2
namespace Att
open PySem PySem.W PySem.Calls PyProof.Rows
theorem zhd {P:Params}{h:Heap}:∀ (ns:List Int) (vs:List Value),WellAll P h vs (ns.map WData.int)→IntsAre vs ns:=by
 intro ns
 induction ns with
 | nil=>
  intro vs w
  rw [ybx] at w
  cases w
  exact .nil
 | cons n ns ih=>
  intro vs w
  rw [qQ] at w
  cases w with
  | cons a b=>
   cases a
   exact .cons _ _ (ih _ b)
theorem zmq {l:OpenLaw}{n:Nat}(hn:l.most=some n){P:Params}{h:Heap}{args:List WData}{vals:List Value}
  (hpre:l.row.toRowW.claim.pre args=true) (hwl:WellAll P h vals args):
  ∃ a vs ns,vals= [Value.ref a]∧args= [WData.list (ns.map WData.int)]∧h.get? a=some {cls:=.type "list",data:=.seq vs.toArray}∧IntsAre vs ns∧ns.length≤n:=by
 have hsh:WShape.hasAll [] args [.list .int]=true:=(pre_splitW hpre).1
 have hc:l.pre.holds [] {args:=args}=true:=(pre_splitW hpre).2
 obtain ⟨d,r,rfl,h1,h2⟩:=hasAllW_cons hsh
 obtain rfl:=hasAllW_nil h2
 obtain ⟨xs,rfl,h3⟩:=hasW_list h1
 obtain ⟨ns,rfl⟩:=items_int h3
 have hlen:ns.length≤n:=by
  unfold OpenLaw.pre at hc
  have h4:(WTm.not (.lt (.lit (.int (n:Int))) (.len (.arg 0)))).holds [] {args:=[.list (ns.map .int)]}=true:=by
   have h4:=(holds_andW hc).1
   rw [hn] at h4
   exact h4
  have h5:=condW_of h4 (w_not (w_lt w_lit (w_len_list (w_arg rfl))))
  rw [yB] at h5
  refine Nat.le_of_not_lt fun q=>?_
  have q':(n:Int) < ((ns.length:Nat):Int):=by omega
  first
   | (rw [decide_eq_true q'] at h5;exact absurd h5 (by decide))
   | (simp at h5;omega)
 cases hwl with
 | cons w1 w2=>
  cases w2
  cases w1 with
  | list ho hall=>exact ⟨_,_,ns,rfl,rfl,ho,zhd ns _ hall,hlen⟩
theorem zmn (l:OpenLaw)(args:List WData):l.row.toRowW.claim.post args (.bool true) args=true:=
 postW_of (r:=l.row.toRowW) (X:=(true==true))
  (show WShape.has [] (.bool true) .bool=true by first | rfl | decide | simp [WShape.has,WShape.arms,WShape.armsAll])
  (show (WTm.eq .res (.lit (.bool true))).value [] {args:=args,res:=some (.bool true),after:=args}=some (.bool (true==true)) from w_eq_bool (w_res rfl) w_lit) rfl
theorem attach_call {l:OpenLaw}{n:Nat}{q:Program}{loose:List Str}{XP:(Str→Option Value)→Heap→Prop}{YP:World→Heap→Prop}{d:DefRec}
  (hn:l.most=some n) (hdf:d.params.defaults= [])
  (call:∀ (w:World) (s₀ s₁ :Shared) (mg mb:Str→Option Value) (fa:Addr) (o:Obj) (pm cd doc:Value) (a:Addr) (vs:List Value) (ns:List Int),
   Ground q loose [] XP w s₀ mg mb s₁.heap→YP w s₁.heap→
   s₁.heap.get? fa=some o→o.data= .func (docDef d.name d.params d.body d.scope pm cd doc)→s₁.heap.CodeRec cd d.name→mg d.name=some (.ref fa)→
   s₁.heap.get? a=some {cls:=.type "list",data:=.seq vs.toArray}→IntsAre vs ns→ns.length≤n→s₁.gens= #[]→
   codeAny (model l.prog w) callerA (.call (.ref fa) ⟨[.ref a],[]⟩) (fun r s'=>r= .ok (.ret (.bool true))∧OldK s₁.heap s'.heap∧s'.os=s₁.os∧AllBare s'.gens) s₁):
  WalkO q loose XP YP l.row.toRowW d [] (fun f vs=>ycm f vs):=by
 intro w s₀ s₁ mg mb G Y fa o pm cd doc dV kV ho hd hcd hD hmg hg args vals as hpre hlay hrd hwl hlo
 obtain rfl:dV= .none:=Dflts.none hD hdf
 obtain rfl:kV= .none:=Dflts.noKw hD
 obtain ⟨a,vs,ns,rfl,rfl,hobj,hints,hlen⟩:=zmq hn hpre hwl
 refine enter_call (codeAny_mono (call w s₀ s₁ mg mb fa o pm cd doc a vs ns G Y ho (fd_plain hd) hcd hmg hobj hints hlen hg) fun r s' hq=>?_)
 obtain ⟨rfl,h2,h3,h4⟩:=hq
 exact ⟨.inl ⟨.bool true,.bool true,[],rfl,fun _=>rfl,.bool true,zmn l _,fun _=>⟨List.Pairwise.nil,fun _ hm=>(nomatch hm)⟩⟩,h2,h3,h4⟩
section
variable {prog:Program} {w:World} {A:Around} {E:Value→Shared→Prop} {s:Shared} {K:Frag}
end
end Att
namespace L2
open PySem PySem.Spec PyProof.Rows
theorem zjc:∀ {vs:List Value} {ns:List Int},IntsAre vs ns→Vals (ns.map V.int) vs
 | _,_,.nil=>.nil
 | _,_,.cons n t h=>.cons ⟨t,rfl⟩ (zjc h)
noncomputable abbrev CX0:CXT:=fun _ _ _ _ _ _=>False
noncomputable abbrev E0:XK:=fun _ _ _=>False
theorem zaC {X:Cx}:zlD CX0 X E0:=fun _ _ _ _ _ _ _ h=>h.elim
structure Fun (K:PySem.W.Frag) (x qual:Str) (st:Stmt) (f:Addr) (fd:FuncData):Prop where
 ex:∃ (oc:Value) (od:Option Addr) (kV doc pm:Value) (an:Option Addr) (cdv ct:Value) (osl:Array (Option Value)),
  fd=PySem.W.fnOf x qual (zb6 st) (zbN st) (zak st) .none kV doc pm an cdv ct∧K.lookup f=some ⟨oc,od,.func fd,osl⟩∧PySem.W.codeIn K cdv qual=true
 kp:PySem.W.keepIn K (.ref f)=true
section
variable {P:Program} {w:World} {K:PySem.W.Frag} {mg:Str→Option Value} {base:Heap}
theorem Fun.ok {x qual:Str}{st:Stmt}{f:Addr}{fd:FuncData}{N ps:List Str}{k:Nat}{sp:Sp}(F:Fun K x qual st f fd)(S:zat N ps (zak st))(len:∀ vs H Q E,sp vs H Q E→vs.length=ps.length)
  (hbody:∀ (cdv:Value) (A:Around) (outer:List Env) (s:Shared) (H:Hp) (vs:List V) (Q:VK) (E:XK),Room k (A.deeper (envOfC qual (zak st) s.heap.objs.size f cdv))→sp vs H Q E→
   ∃ t,PSs (cxOf CX0 P w K mg base N qual (zak st) f cdv A outer s H E).nox (zbN st) t∧t {nx:=fun _ H'=>Q .non H',rt:=Q} (start N vs) H):FnOk P w K mg base CX0 (k+1) f fd ps sp:=by
 obtain ⟨oc,od,kV,doc,pm,an,cdv,ct,osl,rfl,lk,hcd⟩:=F.ex
 refine fn_of lk hcd S len fun A outer s H vs Q E hr hsp=>?_
 obtain ⟨t,h,q⟩:=hbody cdv A outer s H vs Q E hr hsp
 exact ⟨t,h.nox,q⟩
theorem Fun.binds {x qual:Str}{st:Stmt}{f:Addr}{fd:FuncData}{ps:List Str}(F:Fun K x qual st f fd)
  (h:∀ (kV doc pm:Value) (an:Option Addr) (cdv ct:Value) (us:List Value),us.length=ps.length→bindArgs (PySem.W.fnOf x qual (zb6 st) (zbN st) (zak st) .none kV doc pm an cdv ct) ⟨us,[]⟩=pure (ps.zip us)):zhu K fd ps []:=by
 obtain ⟨oc,od,kV,doc,pm,an,cdv,ct,osl,rfl,lk,hcd⟩:=F.ex
 exact .all (h kV doc pm an cdv ct)
theorem zmI {x qual:Str}{st:Stmt}{f:Addr}{oc:Value}{od an:Option Addr}{osl:Array (Option Value)}{kV doc pm cdv ct:Value}(l:K.lookup f=some ⟨oc,od,.func (PySem.W.fnOf x qual (zb6 st) (zbN st) (zak st) .none kV doc pm an cdv ct),osl⟩)
  (c:PySem.W.codeIn K cdv qual=true) (k:PySem.W.keepIn K (.ref f)=true):Fun K x qual st f (PySem.W.fnOf x qual (zb6 st) (zbN st) (zak st) .none kV doc pm an cdv ct):=⟨⟨oc,od,kV,doc,pm,an,cdv,ct,osl,rfl,l,c⟩,k⟩
end
theorem zgn {A:Around}{k:Nat}(hr:Room k A):A.units+1 < cLine:=ybQ (Nat.add_le_add_left (by decide: 1≤64) _) hr.units
section
variable {X:Cx}
theorem pv (i:Nat){x:Str}{pos:Pos}(hN:X.N[i]? =some x:=by rfl)(hv:Vis X.env.scope x:=by first | exact Or.inl rfl | exact Or.inr (Or.inl rfl) | exact Or.inr (Or.inr rfl))(hd:(x==("__debug__" :Str))=false:=by decide)
  (hcd:(x==("__classdict__" :Str))=false:=by decide):PE X (.Name x pos) (tVar i):=zpc hN hv hd hcd
end
theorem iteF {A B:Prop}(h:B):if false=true then A else B:=by
 rw [if_neg yS]
 exact h
theorem iteT {A B:Prop}(h:A):if true=true then A else B:=by
 rw [if_pos rfl]
 exact h
theorem ite2 {c A B:Prop}[Decidable c](h1:c→A)(h2:¬c→B):if c then A else B:=by
 by_cases h:c
 ·rw [if_pos h]
  exact h1 h
 ·rw [if_neg h]
  exact h2 h
theorem iteNS {c A B:Prop}[Decidable c](hc:c)(h:B):if (!decide c)=true then A else B:=by
 rw [decide_eq_true hc]
 exact iteF h
noncomputable def Same (H H':Hp):Prop:=∀ b o,H b=some o→H' b=some o
theorem Same.refl (H:Hp):Same H H:=fun _ _ h=>h
theorem Same.trans {H H1 H2:Hp}(a:Same H H1)(b:Same H1 H2):Same H H2:=fun c o h=>b c o (a c o h)
theorem Same.free {H H':Hp}(e:Same H H'){l:Addr}(h:H' l=Option.none):H l=Option.none:=by
 cases q:H l with
 | none=>rfl
 | some o=>
  rw [e l o q] at h
  cases h
theorem Same.seq {K:PySem.W.Frag}{H H':Hp}{a:Addr}{xs:List V}(e:Same H H')(h:SqL K H a xs):SqL K H' a xs:=by
 rcases h with (h | ⟨o,h⟩) | h
 ·exact .inl (.inl (e _ _ h))
 ·exact .inl (.inr ⟨o,e _ _ h⟩)
 ·exact .inr h
section
variable {X:Cx}
end
section
variable {κ :Type} [DecidableEq κ]
end
end L2
set_option maxHeartbeats 4000000
namespace L2
open PySem PySem.Spec PyProof.Rows
theorem ziH {prog:Program}{w:World}{A:Around}{R:Result→Shared→Prop}{s:Shared}
  {elt tg iter:Expr} {ifs:List Expr} {scope:Scope} {pos:Pos} {it acc:Value} {env:Env}
  (I:Nat→Shared→Prop)
  (turn:∀ n s,I n s→wpAny (model prog w) A (pyNext it)
   (fun r s1=>match r with
    | none=>R (.ok .next) s1
    | some v=>wpAny (model prog w) A (letOwnedTupleGo tg it v) (fun _ s2=>
      wpAny (model prog w) A (assign tg env v) (fun _ s3=>
      wpAny (model prog w) A
       (forIn ifs true fun c r=>if r=true then do
         let ok ← isTrue c env (eval c env)
         pure (ForInStep.yield ok)
        else pure (ForInStep.yield r))
       (fun ok s4=>if ok=true then
         wpAny (model prog w) A (eval elt env) (fun x s5=>
          wpAny (model prog w) A (call (.builtin "list.append") [acc,x])
           (fun _ s6=>∃ m,m < n∧I m s6) (fun _ _=>False) s5) (fun _ _=>False) s4
        else ∃ m,m < n∧I m s4) (fun _ _=>False) s3) (fun _ _=>False) s2)
      (fun _ _=>False) s1)
   (fun _ _=>False) s)
  (n:Nat) (h:I n s):
  codeAny (model prog w) A (.compLoop (.ListComp elt [⟨tg,iter,ifs,0⟩] scope pos) 0 it acc env) R s:=by
 refine codeAny_loop rfl I (fun n s hI=>?_) n h
 show wpAny _ A ((compTurn _ 0 it acc env).onRaise (fun x=>do noteFrame x env;theTreesLotGoes x)) _ _ s
 refine wpAny_noted (E:=fun e s'=>R (.error e) s') ?_
 rw [compTurn_list]
 refine yA (wpAny_standAt (yA (wpAny_mono (turn n s hI) (fun r s1 h1=>?_) fun _ _ z=>z.elim)))
 cases r with
 | none=>exact yD h1
 | some v=>
  refine yA (wpAny_mono h1 (fun _ s2 h2=>yA (wpAny_mono h2 (fun _ s3 h3=>
   yA (wpAny_mono h3 (fun ok s4 h4=>?_) fun _ _ z=>z.elim)) fun _ _ z=>z.elim)) fun _ _ z=>z.elim)
  cases ok with
  | false=>exact yD ⟨rfl,h4⟩
  | true=>
   exact yA (yA (wpAny_mono h4 (fun x s5 h5=>yA (wpAny_mono h5
    (fun _ s6 h6=>yD (yD ⟨rfl,h6⟩)) fun _ _ z=>z.elim)) fun _ _ z=>z.elim))
theorem zhZ {scope:Scope}{env:Env}(h:∀ y∈scope.names,y.2= .free→∃ c,env.cells.lookup y.1=some c):
  ∃ cl,closureFor scope env=pure cl∧(∀ x c,cl.lookup x=some c→env.cells.lookup x=some c)∧
   ∀ y∈scope.names,y.2= .free→∃ c,cl.lookup y.1=some c:=by
 have all:∀ (ns:List (Str×NameKind)),(∀ y∈ns,y.2= .free→∃ c,env.cells.lookup y.1=some c)→∀ cl0:List (Str×Addr),
   (∀ x c,cl0.lookup x=some c→env.cells.lookup x=some c)→
   ∃ cl,(forIn ns cl0 fun (x:Str×NameKind) (r:List (Str×Addr))=>
     (if (x.2==NameKind.free)=true then do
      let a ← cellOf env x.1
      pure (ForInStep.yield ((x.1,a)::r))
     else pure (ForInStep.yield r):Sem _))=pure cl∧(∀ x c,cl.lookup x=some c→env.cells.lookup x=some c)∧
    (∀ x c,cl0.lookup x=some c→∃ c,cl.lookup x=some c)∧∀ y∈ns,y.2= .free→∃ c,cl.lookup y.1=some c:=by
  intro ns
  induction ns with
  | nil=>exact fun _ cl0 h0=>⟨cl0,rfl,h0,fun x c e=>⟨c,e⟩,fun y hy=>nomatch hy⟩
  | cons y r ih=>
   intro hy cl0 h0
   by_cases hk:y.2= .free
   ·obtain ⟨c,hc⟩:=hy y (.head _) hk
    have h1:∀ x d,((y.1,c)::cl0).lookup x=some d→env.cells.lookup x=some d:=fun x d e=>by
     rw [xM] at e
     cases q:x==y.1 with
     | true=>
      rw [q] at e
      have:x=y.1:=eq_of_beq q
      subst this
      exact (qF e) ▸ hc
     | false=>
      rw [q] at e
      exact h0 x d e
    obtain ⟨cl,e,a,b,d⟩:=ih (fun z hz=>hy z (.tail _ hz)) ((y.1,c)::cl0) h1
    have keep:∀ x d,cl0.lookup x=some d→∃ d,cl.lookup x=some d:=fun x d e=>by
     cases q:x==y.1 with
     | true=>exact b x c (by rw [xM,q])
     | false=>exact b x d (by rw [xM,q];exact e)
    refine ⟨cl,?_,a,keep,fun z hz hf=>?_⟩
    ·rw [ybA]
     have:(y.2==NameKind.free)=true:=by rw [hk];rfl
     rw [if_pos this]
     have ec:cellOf env y.1=pure c:=by unfold cellOf;rw [hc]
     rw [ec]
     exact e
    ·rcases yR.mp hz with rfl | hz
     ·exact b z.1 c (by rw [xM,beq_self_eq_true])
     ·exact d z hz hf
   ·obtain ⟨cl,e,a,b,d⟩:=ih (fun z hz=>hy z (.tail _ hz)) cl0 h0
    refine ⟨cl,?_,a,b,fun z hz hf=>?_⟩
    ·rw [ybA]
     have:¬(y.2==NameKind.free)=true:=by simpa using hk
     rw [if_neg this]
     exact e
    ·rcases yR.mp hz with rfl | hz
     ·exact absurd hf hk
     ·exact d z hz hf
 obtain ⟨cl,e,a,_,d⟩:=all scope.names h [] (fun x c e=>by simp at e)
 exact ⟨cl,congrArg (fun (m:Sem (List (Str×Addr)))=>m >>=fun cs=>pure cs) e,a,d⟩
theorem zgb {scope:Scope}{env:Env}{x:Str}(hc:∀ y∈scope.names,y.2≠.cell)
  (h:(relabel scope env).names.lookup x=some .cell∨(relabel scope env).names.lookup x=some .free):∃ y∈scope.names,y.1=x∧y.2= .free:=by
 have all:∀ ns:List (Str×NameKind),(∀ y∈ns,y.2≠.cell)→∀ k,(k=NameKind.cell∨k=NameKind.free)→
   (ns.map fun (n,k)=>if (k== .free && env.scope.kind== .function && env.kindOf n==some .cell) then (n,.cell) else (n,k)).lookup x=some k→∃ y∈ns,y.1=x∧y.2= .free:=by
  intro ns
  induction ns with
  | nil=>intro _ k _ e;simp at e
  | cons y r ih=>
   intro hn k hk e
   obtain ⟨n,j⟩:=y
   rw [qQ,xM] at e
   have step:(∃ z∈r,z.1=x∧z.2= .free)→∃ z∈(n,j)::r,z.1=x∧z.2= .free:=fun ⟨z,hz,q⟩=>⟨z,.tail _ hz,q⟩
   by_cases hcc:(j==NameKind.free && env.scope.kind== .function && env.kindOf n==some .cell)=true
   ·have hj:j= .free:=by
     simp only [qM,beq_iff_eq] at hcc
     exact hcc.1.1
    simp only [hcc,if_true] at e
    cases q:x==n with
    | true=>exact ⟨(n,j),.head _,(eq_of_beq q).symm,hj⟩
    | false=>
     rw [q] at e
     exact step (ih (fun z hz=>hn z (.tail _ hz)) k hk e)
   ·simp only [hcc,if_false,qE] at e
    cases q:x==n with
    | true=>
     rw [q] at e
     have ej:j=k:=qF e
     refine ⟨(n,j),.head _,(eq_of_beq q).symm,?_⟩
     rcases hk with hk | hk
     ·exact absurd (ej.trans hk) (hn (n,j) (.head _))
     ·exact ej.trans hk
    | false=>
     rw [q] at e
     exact step (ih (fun z hz=>hn z (.tail _ hz)) k hk e)
 rcases h with h | h
 ·exact all scope.names hc _ (.inl rfl) h
 ·exact all scope.names hc _ (.inr rfl) h
noncomputable def zbv (X:Cx) (N:List Str) (scope:Scope) (cl:List (Str×Addr)) (fp:List Addr) (s:Shared) (H:Hp):Cx where
 prog:=X.prog
 w:=X.w
 K:=X.K
 mg:=X.mg
 base:=X.base
 A:=X.A
 N:=N
 s₀ :=s
 H₀ :=H
 env:=compEnvC scope cl s.heap.objs.size X.env
 outer:=X.stack
 stack:=X.stack
 ex:=fp
 fn:=fun _=>false
 calm:=X.calm
 pn:=[]
 xe:=fun _ _=>False
noncomputable def zbC (n:Nat) (cap:List Nat) (σ :St):St:=qG n none++cap.map fun j=>(σ[j]?).join
noncomputable def PTs (X:Cx) (ifs:List Expr) (t:TT):Prop:=
 ∀ (pins:List (Addr×Obj)) (s:Shared) (σ :St) (H:Hp) (Q:Bool→Hp→Prop),Inv X pins σ H s→t σ H Q→
  wpAny (model X.prog X.w) X.A (forIn ifs true fun c r=>if r=true then do
    let ok ← isTrue c X.env (eval c X.env)
    pure (ForInStep.yield ok)
   else pure (ForInStep.yield r)) (TP X pins σ Q) X.xe s
noncomputable def tYes:TT:=fun _ H Q=>Q true H
theorem zpN {X:Cx}:PTs X [] tYes:=fun _ _ _ H _ I h=>wpAny_tests_nil ⟨H,I,h⟩
theorem zpt {X:Cx}{c:Expr}{t:TT}(h:PT X c t):PTs X [c] t:=fun pins s σ H Q I hw=>wpAny_tests_one (h pins s σ H Q I hw)
noncomputable def zdf (J:It) (D:Addr) (n:Nat) (cap:List Nat) (σ :St) (g:TG) (tt:TT) (te:TE) (Q:VK) (H1:Hp):Prop:=
 ∃ W:Nat→Nat→Hp→Prop,(∃ m,W 0 m (upd H1 D (.lst [])))∧∀ i m H,W i m H→
  (J.stop i H∧Q (.ref D) H)∨(J.go i H∧∃ N:Hp→Prop,(∀ H',N H'→∃ m',m' < m∧W (i+1) m' H')∧∀ x H',J.yld i H x H'→g x (zbC n cap σ) H' fun σ2 H2=>
   tt σ2 H2 fun b H3=>if b=true then te σ2 H3 fun y H4=>∃ xs,H4 D=some (.lst xs)∧xs.length < yM∧N (upd H4 D (.lst (xs++ [y])))
    else N H3)
noncomputable def zod (n:Nat) (cap:List Nat) (wi:TI) (g:TG) (tt:TT) (te:TE):TE:=fun σ H Q=>wi σ H fun J H1=>∀ D,H1 D=none→zdf J D n cap σ g tt te Q H1
section
variable {X:Cx} {elt tg iter:Expr} {ifs:List Expr} {scope:Scope} {pos:Pos} {N:List Str} {n:Nat} {cap:List Nat} {wi:TI} {g:TG} {tt:TT} {te:TE}
structure Blk (X:Cx) (scope:Scope) (N:List Str) (n:Nat) (cap:List Nat):Prop where
 kind:scope.kind= .function
 cell:∀ y∈scope.names,y.2≠.cell
 names:∀ y∈scope.names,y.2= .local→scope.names.lookup y.1=some .local
 free:∀ y∈scope.names,y.2= .free→X.env.kindOf y.1=some .cell∨X.env.kindOf y.1=some .free
 len:N.length=n+cap.length
 caps:∀ (i j:Nat) (x:Str),cap[i]? =some j→N[n+i]? =some x→X.N[j]? =some x∧(scope.names.lookup x=some .free)
end
noncomputable def blkOk (names:List (Str×NameKind)) (N:List Str) (n:Nat) (cap:List Nat) (No:List Str) (so:List (Str×NameKind)):Bool:=
 names.all (fun y=>y.2 != .cell) && names.all (fun y=>y.2 != .local || names.lookup y.1==some .local) &&
 names.all (fun y=>y.2 != .free || (so.lookup y.1==some .cell || so.lookup y.1==some .free)) && (N.length==n+cap.length) &&
 (xO cap.length).all fun i=>match cap[i]?,N[n+i]? with
  | some j,some x=>No[j]? ==some x && names.lookup x==some .free
  | _,_=>true
theorem zbc {X:Cx}{scope:Scope}{N:List Str}{n:Nat}{cap:List Nat}(hk:scope.kind= .function)(h:blkOk scope.names N n cap X.N X.env.scope.names=true):Blk X scope N n cap:=by
 unfold blkOk at h
 simp only [qM,yZ] at h
 obtain ⟨⟨⟨⟨h1,h2⟩,h3⟩,h4⟩,h5⟩:=h
 refine ⟨hk,fun y hy z=>?_,fun y hy z=>?_,fun y hy z=>?_,by simpa using h4,fun i j x e1 e2=>?_⟩
 ·have:=h1 y hy
  rw [z] at this
  cases this
 ·have:=h2 y hy
  rw [z] at this
  simpa using this
 ·have:=h3 y hy
  rw [z] at this
  show X.env.scope.names.lookup y.1=some .cell∨X.env.scope.names.lookup y.1=some .free
  simpa using this
 ·have hi:i < cap.length:=(yF.mp e1).1
  have:=h5 i (jY.mpr hi)
  rw [e1,e2] at this
  simpa using this
theorem zno {n:Nat}{cap:List Nat}{σ :St}{i:Nat}{v:V}(h:(zbC n cap σ)[i]? =some (some v)):
  ∃ k j,i=n+k∧cap[k]? =some j∧σ[j]? =some (some v):=by
 unfold zbC at h
 by_cases hi:i < n
 ·rw [qU (by simpa using hi),yan,if_pos hi] at h
  cases h
 ·rw [qV (by simpa using Nat.not_lt.mp hi)] at h
  simp only [vL,yG] at h
  cases e:cap[i - n]? with
  | none=>rw [e] at h;cases h
  | some j=>
   rw [e] at h
   have h':(σ[j]?).join=some v:=qF h
   refine ⟨i - n,j,by omega,e,?_⟩
   cases q: σ[j]? with
   | none=>rw [q] at h';cases h'
   | some o=>
    rw [q] at h'
    exact congrArg some h'
theorem zf7 {scope:Scope}{env:Env}{x:Str}(h:scope.names.lookup x=some .free):
  (relabel scope env).names.lookup x=some .cell∨(relabel scope env).names.lookup x=some .free:=by
 have all:∀ ns:List (Str×NameKind),ns.lookup x=some .free→
   (ns.map fun (n,k)=>if (k== .free && env.scope.kind== .function && env.kindOf n==some .cell) then (n,NameKind.cell) else (n,k)).lookup x=some .cell∨
   (ns.map fun (n,k)=>if (k== .free && env.scope.kind== .function && env.kindOf n==some .cell) then (n,NameKind.cell) else (n,k)).lookup x=some .free:=by
  intro ns
  induction ns with
  | nil=>intro e;simp at e
  | cons y r ih=>
   intro e
   obtain ⟨m,j⟩:=y
   rw [xM] at e
   rw [qQ,xM]
   cases q:x==m with
   | true=>
    rw [q] at e
    have ej:j= .free:=qF e
    subst ej
    by_cases hcc:(NameKind.free==NameKind.free && env.scope.kind== .function && env.kindOf m==some .cell)=true
    ·simp only [hcc,if_true,q,true_or]
    ·simp only [hcc,if_false,qE,q,or_true]
   | false=>
    rw [q] at e
    have h1:=ih e
    by_cases hcc:(j==NameKind.free && env.scope.kind== .function && env.kindOf m==some .cell)=true
    ·simp only [hcc,if_true,q]
     exact h1
    ·simp only [hcc,if_false,qE,q]
     exact h1
 exact all scope.names h
theorem zpR {X:Cx}{pins:List (Addr×Obj)}{σ :St}{H:Hp}{s:Shared}{N:List Str}{scope:Scope}{n:Nat}{cap:List Nat}{cl:List (Str×Addr)}{fp:List Addr}
  (I:Inv X pins σ H s) (B:Blk X scope N n cap) (c1:∀ x c,cl.lookup x=some c→X.env.cells.lookup x=some c)
  (c2:∀ y∈scope.names,y.2= .free→∃ c,cl.lookup y.1=some c) (hf:∀ b∈fp,FpOk X pins H b) (hfl:∀ b∈fp,b < s.heap.objs.size):(zbv X N scope cl fp s H).Ok where
 mod:=I.ok.mod
 kind:=by show (relabel scope X.env).kind=_;exact B.kind
 glob:=I.ok.glob
 blt:=I.ok.blt
 above:=yN _
 inj:=fun x y c e1 e2=>I.ok.inj x y c (c1 x c e1) (c1 y c e2)
 has:=fun x h=>by
  obtain ⟨y,hy,e,k⟩:=zgb B.cell h
  obtain ⟨c,hc⟩:=c2 y hy k
  exact ⟨c,e ▸ hc⟩
 cab:=fun x c h=>nomatch h
 hd:=I.ok.hd
 frames:=I.ok.frames
 stk:=.inl rfl
 exf:=fun b hb=>⟨qC (hfl b hb),fun x c e=>(hf b hb).2.2.2.2.1 x c (c1 x c e)⟩
 bs:=I.bs
 bsz:=jB I.ok.bsz I.sz
 noex:=fun b o e hb=>by
  rcases (hf b hb).2.2.2.1 with z | z
  ·exact I.ok.noex b o e z
  ·exact absurd (qN (yV e) (jB I.ok.bsz z)) (vJ _)
 exfs:=fun b hb z=>by
  rcases yR.mp (I.stkSub b z) with e | e
  ·exact (hf b hb).2.1 e
  ·exact (hf b hb).2.2.1 e
 funs:=I.stack
 frf:=I.stkFree
theorem zme {X:Cx}{pins:List (Addr×Obj)}{σ :St}{H:Hp}{s:Shared}{h1:Heap}{t1:Nat}{N:List Str}{scope:Scope}{n:Nat}{cap:List Nat}{cl:List (Str×Addr)}{fp:List Addr}{m:Str→Option Value}
  (I:Inv X pins σ H s) (B:Blk X scope N n cap) (c1:∀ x c,cl.lookup x=some c→X.env.cells.lookup x=some c)
  (c2:∀ y∈scope.names,y.2= .free→∃ c,cl.lookup y.1=some c) (hf:∀ b∈fp,FpOk X pins H b) (hfl:∀ b∈fp,b < s.heap.objs.size)
  (hn:h1.Ns s.heap.objs.size m) (k:∀ b o,s.heap.get? b=some o→h1.get? b=some o):
  Inv (zbv X N scope cl fp s H) [] (zbC n cap σ) H {s with heap:=h1,toks:=t1} where
 ok:=zpR I B c1 c2 hf hfl
 os:=rfl
 bare:=I.bare
 base:=Un.kept k
 loc:=by
  refine ⟨m,hn,fun i x v e1 e2 e3=>?_⟩
  obtain ⟨k',j,rfl,ec,es⟩:=zno e2
  obtain ⟨ex,ef⟩:=B.caps k' j x ec e1
  have hy:∃ y∈scope.names,y.1=x∧y.2= .free:=zgb (env:=X.env) B.cell (zf7 ef)
  obtain ⟨y,hy,ey,ky⟩:=hy
  have kx:X.env.kindOf x=some .cell∨X.env.kindOf x=some .free:=ey ▸ B.free y hy ky
  obtain ⟨m0,_,hl⟩:=I.loc
  have vis:Vis X.env.scope x:=.inr kx
  obtain ⟨u,r,l⟩:=hl j x v ex es vis
  refine ⟨u,r,.inr ⟨zf7 ef,?_⟩⟩
  rcases l with ⟨kl,_⟩ | ⟨_,c,hc,ho⟩
  ·rcases kx with q | q <;> (rw [kl] at q;cases q)
  ·obtain ⟨c',hc'⟩:=c2 y hy ky
   rw [ey] at hc'
   have:=c1 x c' hc'
   rw [hc] at this
   cases this
   obtain ⟨o,eo,d⟩:=ho
   exact ⟨c,hc',o,k c o eo,d⟩
 cell:=fun x c e=>by
  obtain ⟨v,o,eo,d⟩:=I.cell x c (c1 x c e)
  exact ⟨v,o,k c o eo,d⟩
 free:=I.hok.fresh (yN _)
 freeC:=fun x c e=>I.freeC x c (c1 x c e)
 pin:=fun p hp=>nomatch hp
 hok:=I.hok.kept k
 len:=by show (zbC n cap σ).length=N.length;rw [B.len];unfold zbC;simp
theorem zoc {X:Cx}{pins:List (Addr×Obj)}{σ σ':St}{H H':Hp}{s s':Shared}{N:List Str}{scope:Scope}{cl:List (Str×Addr)}{fp:List Addr}{pl:List (Addr×Obj)}
  (I:Inv X pins σ H s) (I':Inv (zbv X N scope cl fp s H) pl σ' H' s') (hf:∀ b∈fp,FpOk X pins H b):
  Inv X pins σ H' s'∧FpOk X pins H' s.heap.objs.size∧∃ m,s'.heap.Ns s.heap.objs.size m:=by
 obtain ⟨m,hn,_⟩:=I'.loc
 have u:Un (frs X.stack) fp H H' s.heap s'.heap:=I'.base
 have J:Inv X pins σ H' s':=I.call' (ch:=fp) I'.os u I'.hok I'.bare fun b hb=>by
  obtain ⟨_,a1,_,a3,a4,a5⟩:=hf b hb
  exact ⟨a3,a1,a4,a5⟩
 exact ⟨J,I.fpOk (yN _) I'.free,m,hn⟩
noncomputable def zkd (n:Nat) (g:TG):Prop:=∀ x σ H Q,g x σ H Q→g x σ H fun σ2 H2=>Q σ2 H2∧σ2.length= σ.length∧∀ z,n≤z→σ2[z]? = σ[z]?
noncomputable def znu (n:Nat) (g:TGs):Prop:=∀ xs σ H Q,g xs σ H Q→g xs σ H fun σ2 H2=>Q σ2 H2∧σ2.length= σ.length∧∀ z,n≤z→σ2[z]? = σ[z]?
theorem zaF {n i:Nat}(h:i < n):zkd n (zfL i):=fun x σ H Q q=>⟨q,by simp,fun z hz=>by rw [vG (by omega)]⟩
theorem zoT {n:Nat}:znu n gNil:=fun xs σ H Q q=>⟨q.1,q.2,rfl,fun _ _=>rfl⟩
theorem zjt {n i:Nat}{u:TGs}(h:i < n)(hu:znu n u)(hm:∀ xs σ H (Q Q':St→Hp→Prop),u xs σ H Q→(∀ a b,Q a b→Q' a b)→u xs σ H Q'):znu n (zkv (zfL i) u):=fun xs σ H Q q=>by
 obtain ⟨v,r,e,q⟩:=q
 refine ⟨v,r,e,hm r _ H _ _ (hu r _ H _ q) fun σ2 H2 ⟨p,l,k⟩=>⟨p,by rw [l];simp,fun z hz=>?_⟩⟩
 rw [k z hz,vG (by omega)]
theorem zk5:∀ xs σ H (Q Q':St→Hp→Prop),gNil xs σ H Q→(∀ a b,Q a b→Q' a b)→gNil xs σ H Q':=fun xs σ H Q Q' q m=>⟨q.1,m _ _ q.2⟩
theorem zmo {i:Nat}{u:TGs}(hm:∀ xs σ H (Q Q':St→Hp→Prop),u xs σ H Q→(∀ a b,Q a b→Q' a b)→u xs σ H Q'):
  ∀ xs σ H (Q Q':St→Hp→Prop),zkv (zfL i) u xs σ H Q→(∀ a b,Q a b→Q' a b)→zkv (zfL i) u xs σ H Q':=fun xs σ H Q Q' ⟨v,r,e,q⟩ m=>⟨v,r,e,hm r _ H _ _ q m⟩
theorem zcs {K:PySem.W.Frag}{n m i j:Nat}(hi:i < n)(hj:j < n):zkd n (gTup K m (zkv (zfL i) (zkv (zfL j) gNil))):=fun x σ H Q q=>by
 obtain ⟨a,xs,e,hq,hl,q⟩:=q
 exact ⟨a,xs,e,hq,hl,zjt hi (zjt hj zoT zk5) (zmo zk5) xs σ H Q q⟩
theorem zj3 {X:Cx}{elt tg iter:Expr}{ifs:List Expr}{scope:Scope}{pos:Pos}{N:List Str}{n:Nat}{cap:List Nat}{g:TG}{tt:TT}{te:TE}
  {cl:List (Str×Addr)} {RR:Value→Addr→Result→Shared→Prop} {E:Value→Shared→Prop}
  (hc:X.calm=true) (B:Blk X scope N n cap) (c1:∀ x c,cl.lookup x=some c→X.env.cells.lookup x=some c) (c2:∀ y∈scope.names,y.2= .free→∃ c,cl.lookup y.1=some c)
  (hk:zkd n g) (hg:∀ cl fp s H,PG (zbv X N scope cl fp s H) tg g) (ht:∀ cl fp s H,PTs (zbv X N scope cl fp s H) ifs tt) (he:∀ cl fp s H,PE (zbv X N scope cl fp s H) elt te)
  {pins:List (Addr×Obj)} {σ :St} {Q:VK} {itv:Value} {s2:Shared}
  (h:PIE X pins σ tg (fun J H1=>∀ D,H1 D=none→zdf J D n cap σ g tt te Q H1) itv s2)
  (hRR:∀ (D C:Addr) (H':Hp) (s':Shared) (m:Str→Option Value),Inv X pins σ H' s'→FpOk X pins H' C→s'.heap.Ns C m→Q (.ref D) H'→RR (.ref D) C (.ok .next) s'):
  wpAny (model X.prog X.w) X.A (newList []) (fun acc s3=>
   wpAny (model X.prog X.w) X.A (newFunctionEnv scope X.env.globals cl [] X.env.qual none .none (some X.env)) (fun cenv s4=>
    codeAny (model X.prog X.w) X.A (.compStart (.ListComp elt [⟨tg,iter,ifs,0⟩] scope pos) 0 itv acc {cenv with scope:=relabel scope X.env})
     (RR acc cenv.locals) s4) E s3) E s2:=by
 obtain ⟨it,fp,tn,J,H2,e,I2,T,st2,f2,q2⟩:=h
 subst e
 refine wpAny_newObj_type ?_ (by show 0≤yM;decide)
 have hD:H2 s2.heap.objs.size=none:=I2.hok.fresh (yN _)
 obtain ⟨W,⟨m0,w0⟩,turn⟩:=q2 _ hD
 have I3:Inv X pins σ (upd H2 s2.heap.objs.size (.lst [])) {s2 with heap:=s2.heap.push {cls:=.type "list",data:=.seq ([]:List Value).toArray},toks:=s2.toks}:=
  I2.lnew .nil (by show 0≤yM;decide)
 have st3:tn 0 (s2.heap.push {cls:=.type "list",data:=.seq ([]:List Value).toArray}):=T.keep _ _ _ st2 fun b _ o e=>yI _ e
 have obj2:=T.obj _ _ st2
 have fD:∀ b∈fp,b≠s2.heap.objs.size:=fun b hb=>by
  obtain ⟨o,eo,_⟩:=obj2 b hb
  exact qC (yV eo)
 have f3:∀ b∈fp,FpOk X pins (upd H2 s2.heap.objs.size (.lst [])) b:=fun b hb=>⟨by rw [zai (fD b hb)];exact (f2 b hb).1,(f2 b hb).2⟩
 have go3:∀ (s3:Shared) (H3:Hp),Inv X pins σ H3 s3→tn 0 s3.heap→(∀ b∈fp,FpOk X pins H3 b)→W 0 m0 H3→
   wpAny (model X.prog X.w) X.A (newFunctionEnv scope X.env.globals cl [] X.env.qual none .none (some X.env)) (fun cenv s4=>
    codeAny (model X.prog X.w) X.A (.compStart (.ListComp elt [⟨tg,iter,ifs,0⟩] scope pos) 0 (.ref it) (.ref s2.heap.objs.size) {cenv with scope:=relabel scope X.env})
     (RR (.ref s2.heap.objs.size) cenv.locals) s4) E s3:=by
  intro s3 H3 I3 st3 f3 w0
  refine wpAny_newFunctionEnv B.cell (fun y hy=>nomatch hy) (fun h4 n4 sb4=>?_) B.kind
  have k4:∀ b o,s3.heap.get? b=some o→h4.get? b=some o:=fun b o e=>sb4.extBut b o (qC (yV e)) (yI _ e)
  have fl3:∀ b∈fp,b < s3.heap.objs.size:=fun b hb=>by
   obtain ⟨o,eo,_⟩:=T.obj _ _ st3 b hb
   exact yV eo
  have I4:Inv (zbv X N scope cl fp s3 H3) [] (zbC n cap σ) H3 {s3 with heap:=h4,toks:=s3.toks+([]:List (Str×Value)).length}:=
   zme I3 B c1 c2 f3 fl3 n4 k4
  have st4:tn 0 h4:=T.keep _ _ _ st3 fun b _ o e=>k4 b o e
  have stat:∀ {H':Hp},(∀ b∈fp,H' b=none)→∀ b∈fp,FpOk (zbv X N scope cl fp s3 H3) [] H' b:=fun hn b hb=>by
   obtain ⟨_,a1,a2,_,a4,_⟩:=f3 b hb
   refine ⟨hn b hb,qC (fl3 b hb),fun z=>?_,.inl hb,fun x c e=>a4 x c (c1 x c e),fun p hp=>nomatch hp⟩
   rcases yR.mp (I3.stkSub b z) with e | e
   ·exact a1 e
   ·exact a2 e
  have loop:∀ s5:Shared,s5= {s3 with heap:=h4,toks:=s3.toks+([]:List (Str×Value)).length}→
    codeAny (model X.prog X.w) X.A (.compLoop (.ListComp elt [⟨tg,iter,ifs,0⟩] scope pos) 0 (.ref it) (.ref s2.heap.objs.size) (compEnvC scope cl s3.heap.objs.size X.env))
     (RR (.ref s2.heap.objs.size) s3.heap.objs.size) s5:=by
   rintro s5 rfl
   refine ziH (fun k s'=>∃ i H',Inv (zbv X N scope cl fp s3 H3) [] (zbC n cap σ) H' s'∧tn i s'.heap∧(∀ b∈fp,H' b=none)∧W i k H') ?_ m0
    ⟨0,H3,I4,st4,fun b hb=>(f3 b hb).1,w0⟩
   rintro k s6 ⟨i,H6,I6,st6,fr6,w6⟩
   rcases turn i k H6 w6 with ⟨stop,qn⟩ | ⟨go,N6,hN6,step⟩
   ·refine thn (T.done (zbv X N scope cl fp s3 H3) rfl rfl rfl hc i [] s6 _ H6 _ I6 (stat fr6) st6 stop) fun r s7 ⟨hr,I7⟩=>?_
    subst hr
    obtain ⟨J7,C7,m7,n7⟩:=zoc I3 I7 f3
    exact hRR _ _ H6 s7 m7 J7 C7 n7 qn
   ·refine thn (T.item (zbv X N scope cl fp s3 H3) rfl rfl rfl hc i [] s6 _ H6 _ I6 (stat fr6) st6 go) fun r s7 ⟨u,hr,h7⟩=>?_
    subst hr
    refine thn h7 fun _ s8 ⟨x,H8,I8,r8,y8,st8,fr8⟩=>?_
    have I8':=I8.pinned (stat fr8) (T.obj _ _ st8)
    refine thn (hg cl fp s3 H3 _ s8 _ H8 x u _ I8' r8 (hk _ _ _ _ (step x H8 y8))) fun _ s9 ⟨σ9,H9,I9,q9,l9,k9⟩=>?_
    refine thn (ht cl fp s3 H3 _ s9 σ9 H9 _ I9 q9) fun b s10 ⟨H10,I10,q10⟩=>?_
    have wk:∀ (z:Nat) v,(zbC n cap σ)[z]? =some (some v)→σ9[z]? =some (some v):=fun z v e=>by
     obtain ⟨kk,j,rfl,_,_⟩:=zno e
     rw [k9 _ (kB _ _)]
     exact e
    have back:∀ {Ha:Hp} {sa:Shared} {j:Nat},Inv (zbv X N scope cl fp s3 H3) ([]++zjX fp s8.heap) σ9 Ha sa→W (i+1) j Ha→
      ∃ i H',Inv (zbv X N scope cl fp s3 H3) [] (zbC n cap σ) H' sa∧tn i sa.heap∧(∀ b∈fp,H' b=none)∧W i j H':=fun {Ha sa j} Ia wa=>by
     refine ⟨i+1,Ha,(Ia.unpinned).weak l9.symm wk,T.keep _ _ _ st8 fun b hb o e=>(Ia.pin (b,o) (jJ _ (jJ _ (zeq hb e)))).1,fun b hb=>?_,wa⟩
     obtain ⟨o,e,d⟩:=T.obj _ _ st8 b hb
     exact (Ia.pin (b,o) (jJ _ (jJ _ (zeq hb e)))).2.1
    cases b with
    | false=>
     rw [if_neg yS] at q10 ⊢
     obtain ⟨m',hm,w'⟩:=hN6 _ q10
     exact ⟨m',hm,back I10 w'⟩
    | true=>
     rw [if_pos rfl] at q10 ⊢
     refine thn (he cl fp s3 H3 _ s10 σ9 H10 _ I10 q10) fun y s11 ⟨yv,H11,I11,r11,q11⟩=>?_
     obtain ⟨xs,eD,hl,q11⟩:=q11
     obtain ⟨m',hm,w'⟩:=hN6 _ q11
     refine thn (zaY _ s11 σ9 H11 (.ref s2.heap.objs.size) [yv] (.ref s2.heap.objs.size) [y] (fun _ Hz=>Hz=upd H11 s2.heap.objs.size (.lst (xs++ [yv]))) I11 rfl (.cons r11 .nil)
      ⟨_,xs,yv,rfl,rfl,eD,hl,rfl⟩) fun _ s12 ⟨_,H12,I12,_,e12⟩=>?_
     subst e12
     exact ⟨m',hm,back I12 w'⟩
  exact codeAny_compStart_list (loop _ rfl) (T.self _ _ _ _ _ st4 (loop _ rfl))
 exact go3 _ _ I3 st3 f3 w0
section
variable {X:Cx} {elt tg iter:Expr} {ifs:List Expr} {scope:Scope} {pos:Pos} {N:List Str} {n:Nat} {cap:List Nat} {wi:TI} {g:TG} {tt:TT} {te:TE}
theorem zp4 (hc:X.calm=true)(B:Blk X scope N n cap)(hi:PI X tg iter wi)(hk:zkd n g)
  (hg:∀ cl fp s H,PG (zbv X N scope cl fp s H) tg g) (ht:∀ cl fp s H,PTs (zbv X N scope cl fp s H) ifs tt) (he:∀ cl fp s H,PE (zbv X N scope cl fp s H) elt te)
  (hs:∀ x,foldedSetIterable iter X.env x=pure x:=by intro _;rfl):PE X (.ListComp elt [⟨tg,iter,ifs,0⟩] scope pos) (zod n cap wi g tt te):=by
 intro pins s σ H Q I h
 obtain ⟨cl,ecl,c1,c2⟩:=zhZ (scope:=scope) (env:=X.env) fun y hy k=>I.ok.has y.1 (B.free y hy k)
 rw [eval_ListComp]
 refine wpAny_comprehension_free (use:=none) rfl hs ecl B.kind B.names ?_
 refine thn (hi pins s σ H _ I h) fun v s1 h1=>thn h1 fun itv s2 h2=>?_
 refine zj3 (RR:=fun acc C=>compPost (model X.prog X.w) X.A X.xe none (EP X pins σ Q) acc C) hc B c1 c2 hk hg ht he h2 fun D C H' s' m J f nn q=>?_
 exact ⟨m,nn,fun h' sb=>⟨.ref D,H',J.turned (t':=s'.toks) (fun b o hb e=>sb.extBut b o hb e) f.1 f.2.1 f.2.2.2.1 f.2.2.2.2.1 f.2.2.2.2.2,rfl,q⟩⟩
theorem zpv {i:Nat}{x:Str}{pos' spos:Pos}(hc:X.calm=true)(B:Blk X scope N n cap)(hN:X.N.Nodup)(hi:X.N[i]? =some x)(hx:X.env.scope.names.lookup x=some .local)(hit:PI X tg iter wi)(hk:zkd n g)
  (hg:∀ cl fp s H,PG (zbv X N scope cl fp s H) tg g) (ht:∀ cl fp s H,PTs (zbv X N scope cl fp s H) ifs tt) (he:∀ cl fp s H,PE (zbv X N scope cl fp s H) elt te)
  (hsw:swapsWith (.ListComp elt [⟨tg,iter,ifs,0⟩] scope pos) (some (.Name x pos')) spos.line X.env=pure true)
  (hs:∀ x,foldedSetIterable iter X.env x=pure x:=by intro _;rfl):
  PS X (.Assign [.Name x pos'] (.ListComp elt [⟨tg,iter,ifs,0⟩] scope pos) spos) (tAsg (zod n cap wi g tt te) (zfL i)):=by
 intro pins s σ H D I h
 obtain ⟨cl,ecl,c1,c2⟩:=zhZ (scope:=scope) (env:=X.env) fun y hy k=>I.ok.has y.1 (B.free y hy k)
 rw [exec_Assign_Name_used _ _ _ _ hsw]
 refine yA (wpAny_standAt (yA ?_))
 show wpAny _ X.A (do
  let _ ← comprehension (.ListComp elt [⟨tg,iter,ifs,0⟩] scope pos) scope X.env _ (newList []) false (eval iter X.env)
   (some (assign (.Name x pos') X.env))) _ _ s
 refine yA (thn (wpAny_comprehension_free (use:=some (assign (.Name x pos') X.env)) (Q:=fun _ s'=>SP X pins D .next s') rfl hs ecl B.kind B.names ?_) fun _ s' hq=>yD (yD hq))
 refine thn (hit pins s σ H _ I h) fun v s1 h1=>thn h1 fun itv s2 h2=>?_
 refine zj3 (Q:=fun y H2=>zfL i y σ H2 D.nx) (RR:=fun acc C=>compPost (model X.prog X.w) X.A X.xe (some (assign (.Name x pos') X.env)) (fun _ s'=>SP X pins D .next s') acc C) hc B c1 c2 hk hg ht he h2 fun Dl C H' s' m J f nn q=>?_
 show wpAny (model X.prog X.w) X.A (assign (.Name x pos') X.env (.ref Dl)) _ X.xe s'
 refine wpAny_assign_Name (zjr J hN hi (.inl hx) (show RelV (.ref Dl) (.ref Dl) from rfl) (fun s3 I3 ⟨a,sb,ha⟩=>?_) (.inr hx))
 have ca:C≠a:=by
  rcases ha with e | e
  ·rw [e];exact f.2.1
  ·exact fun z=>f.2.2.2.2.1 x a e z.symm
 refine ⟨m,nn.sameBut sb ca,fun h' sb'=>⟨_,H',I3.turned (t':=s3.toks) (fun b o hb e=>sb'.extBut b o hb e) f.1 f.2.1 f.2.2.2.1 f.2.2.2.2.1 f.2.2.2.2.2,q⟩⟩
end
section
variable {g:TG} {tt:TT} {te:TE} {n0:Nat} {cap:List Nat} {σ :St} {Q:VK} {D:Addr} {H1:Hp} {K:PySem.W.Frag}
theorem zfP {lo:Int}{n:Nat}(Pv:Nat→Hp→Prop)(h0:Pv 0 (upd H1 D (.lst [])))
  (hs:∀ i H,i < n→Pv i H→g (.int (lo+i)) (zbC n0 cap σ) H fun σ2 H2=>tt σ2 H2 fun b H3=>if b=true then te σ2 H3 fun y H4=>∃ xs,H4 D=some (.lst xs)∧xs.length < yM∧Pv (i+1) (upd H4 D (.lst (xs++ [y]))) else Pv (i+1) H3)
  (hd:∀ H,Pv n H→Q (.ref D) H):
  zdf (Itr lo n) D n0 cap σ g tt te Q H1:=by
 refine ⟨fun i m H=>m=n - i∧i≤n∧Pv i H,⟨n,by simp,qL _,h0⟩,?_⟩
 rintro i m H ⟨rfl,hi,p⟩
 by_cases hlt:i < n
 ·refine .inr ⟨hlt,Pv (i+1),fun H' p'=>⟨n - (i+1),by omega,rfl,hlt,p'⟩,fun x H' y=>?_⟩
  obtain ⟨e1,e2⟩:=y
  subst e1 e2
  exact hs i _ hlt p
 ·have e:i=n:=by omega
  subst e
  exact .inl ⟨yN _,hd H p⟩
theorem zaN {a:Addr}{xs:List V}(Pv:Nat→Hp→Prop)(h0:Pv 0 (upd H1 D (.lst [])))(hl:∀ i H,i≤xs.length→Pv i H→SqL K H a xs)
  (hs:∀ i x H,xs[i]? =some x→Pv i H→g x (zbC n0 cap σ) H fun σ2 H2=>tt σ2 H2 fun b H3=>if b=true then te σ2 H3 fun y H4=>∃ xs,H4 D=some (.lst xs)∧xs.length < yM∧Pv (i+1) (upd H4 D (.lst (xs++ [y]))) else Pv (i+1) H3)
  (hd:∀ H,Pv xs.length H→Q (.ref D) H):
  zdf (Itl K a) D n0 cap σ g tt te Q H1:=by
 refine ⟨fun i m H=>m=xs.length - i∧i≤xs.length∧Pv i H,⟨xs.length,by simp,qL _,h0⟩,?_⟩
 rintro i m H ⟨rfl,hi,p⟩
 have q:=hl i H hi p
 by_cases hlt:i < xs.length
 ·refine .inr ⟨⟨xs,xs[i],q,by simp [hlt]⟩,Pv (i+1),fun H' p'=>⟨xs.length - (i+1),by omega,rfl,hlt,p'⟩,fun x H' y=>?_⟩
  obtain ⟨e1,y⟩:=y
  subst e1
  exact hs i x _ (y xs q) p
 ·have e:i=xs.length:=by omega
  subst e
  exact .inl ⟨⟨xs,q,yN _⟩,hd H p⟩
theorem ziX {a:Addr}{xs:List V}(Pv:Nat→Hp→Prop)(h0:Pv 0 (upd H1 D (.lst [])))(hl:∀ i H,i≤xs.length→Pv i H→SqT K H a xs)
  (hs:∀ i x H,xs[i]? =some x→Pv i H→g x (zbC n0 cap σ) H fun σ2 H2=>tt σ2 H2 fun b H3=>if b=true then te σ2 H3 fun y H4=>∃ xs,H4 D=some (.lst xs)∧xs.length < yM∧Pv (i+1) (upd H4 D (.lst (xs++ [y]))) else Pv (i+1) H3)
  (hd:∀ H,Pv xs.length H→Q (.ref D) H):
  zdf (Itt K a) D n0 cap σ g tt te Q H1:=by
 refine ⟨fun i m H=>m=xs.length - i∧i≤xs.length∧Pv i H,⟨xs.length,by simp,qL _,h0⟩,?_⟩
 rintro i m H ⟨rfl,hi,p⟩
 have q:=hl i H hi p
 by_cases hlt:i < xs.length
 ·refine .inr ⟨⟨xs,xs[i],q,by simp [hlt]⟩,Pv (i+1),fun H' p'=>⟨xs.length - (i+1),by omega,rfl,hlt,p'⟩,fun x H' y=>?_⟩
  obtain ⟨e1,y⟩:=y
  subst e1
  exact hs i x _ (y xs q) p
 ·have e:i=xs.length:=by omega
  subst e
  exact .inl ⟨⟨xs,q,yN _⟩,hd H p⟩
end
theorem Inv.laidC {X:Cx}{pins:List (Addr×Obj)}{σ :St}{H:Hp}{s:Shared}{h':Heap}{a:Addr}{o:HO}{t':Nat}{ch:List Addr}(I:Inv X pins σ H s)
  (hch:∀ b∈ch,FpOk X pins H b) (k:∀ b u,b∉ch→s.heap.get? b=some u→h'.get? b=some u) (hp:s.heap.objs.size≤a)
  (new:zbM X.prog X.w (upd H a o) h' a o):Inv X pins σ (upd H a o) {s with heap:=h',toks:=t'}:=by
 have hn:=I.hok.fresh hp
 have nch:∀ c u,H c=some u→c∉ch:=fun c u e z=>by rw [(hch c z).1] at e;cases e
 refine I.step (g':=s.gens) (d':=s.drawn) (ch:=ch) (fun b hb=>⟨(hch b hb).2.2.2.1,(hch b hb).2.1,(hch b hb).2.2.2.2.1,(hch b hb).2.2.2.2.2⟩)
  (fun b u _ _ hc e _=>k b u hc e) (fun b u _ _ hc e _=>⟨u.slots,k b u hc e⟩)
  (fun b u _ e n=>by rw [zai (qC (qN (yV e) hp))];exact n) (fun b u hc e=>⟨u,k b u hc e⟩)
  (fun b xs q=>by rw [zai (zam q hn)];exact q) (fun b u xs q=>by rw [zai (zam q hn)];exact q)
  (fun b ps q=>⟨#[],by rw [zai (zam q hn),q];simp⟩) (fun m hm=>?_) (fun b u e=>?_) I.bare
 ·exact hm.at' fun ob e=>k _ ob (fun z=>(hch _ z).2.1 rfl) e
 ·by_cases hb:b=a
  ·subst hb;rw [zab] at e;cases e;exact new
  ·rw [zai hb] at e
   refine (I.hok b u e).stay (fun c v hc q=>k c v ?_ q) (fun c q=>by rw [zai (zam q hn)];exact q) fun c xs q=>q.upd hn
   rcases hc with rfl | hc
   ·exact nch _ _ e
   ·exact nch _ _ hc
noncomputable def Ite (K:PySem.W.Frag) (a:Addr):It:=
 ⟨fun i H => ∃ xs x, SqL K H a xs ∧ xs[i]? = some x,
  fun i H v H'=>∃ T x,H T=none∧v= .ref T∧H'=upd H T (.tup [.int i,x])∧∀ xs,SqL K H a xs→xs[i]? =some x,
  fun i H=>∃ xs,SqL K H a xs∧xs.length≤i⟩
theorem znO {P:Program}{w:World}{K:PySem.W.Frag}{elts:List Expr}{k:Nat}{tp:Pos}(a e it:Addr)(hne:e≠it):
  Turn P w K (.Tuple elts k tp) (Ite K a) [e,it] e (fun i h=>(∃ old,IsEnum h e it (i:Nat) old)∧h.IsListIter it a i) where
 mem:=by simp
 obj:=fun i h st b hb=>by
  obtain ⟨⟨old,he⟩,o,eo,c,d⟩:=st
  rcases yR.mp hb with rfl | hb
  ·exact ⟨_,he,fun v z=>nomatch z⟩
  ·have q:b=it:=by simpa using hb
   subst q
   exact ⟨o,eo,fun v z=>by rw [d] at z;cases z⟩
 keep:=fun i h h' st k=>by
  obtain ⟨⟨old,he⟩,hit⟩:=st
  exact ⟨⟨old,k e (by simp) _ he⟩,hit.at fun o q=>k it (by simp) o q⟩
 item:=by
  intro X hP hw hK hc i pins s σ H E I hf st hg
  subst hP hw hK
  obtain ⟨⟨old,he⟩,hit⟩:=st
  obtain ⟨xs,x,hq,hx⟩:=hg
  obtain ⟨its,rv,p,hz⟩:=I.list hq
  obtain ⟨u,hu,ru⟩:=rv.get hx
  have fe:=hf e (by simp)
  have fi:=hf it (by simp)
  refine wpAny_pyNext_enum_item he hit p.isList (x:=u) (by simpa using hu) hne fun h' ho hit' hT hsz hk=>?_
  have eT:e≠s.heap.objs.size:=qC (yV he)
  have iT:it≠s.heap.objs.size:=by
   obtain ⟨o,eo,_⟩:=hit
   exact qC (yV eo)
  have I1:Inv X pins σ (upd H s.heap.objs.size (.tup [.int i,x])) {s with heap:=h',toks:=s.toks+1}:=
   I.laidC (ch:=[e,it]) hf (fun b v hb q=>hk b v (fun z=>hb (by simp [z])) (fun z=>hb (by simp [z])) q) (yN _)
    ⟨(by show 2≤yM;decide),[.int i s.toks,u],.cons ⟨_,rfl⟩ (.cons ru .nil),_,hT,rfl,_,rfl⟩
  refine ⟨_,rfl,wpAny_letOwnedTupleGo_enum ho fun h2 he2 sb2=>?_⟩
  have I2:Inv X pins σ (upd H s.heap.objs.size (.tup [.int i,x])) {s with heap:=h2,toks:=s.toks+1}:=
   I1.turned (t':=s.toks+1) (fun b o hb q=>(sb2.2 b hb).trans q) (by rw [zai eT];exact fe.1) fe.2.1 fe.2.2.2.1 fe.2.2.2.2.1 fe.2.2.2.2.2
  refine ⟨.ref s.heap.objs.size,_,I2,rfl,⟨_,x,I.hok.fresh (yN _),rfl,rfl,fun ys hy=>by rw [I.list_inj hy hq];exact hx⟩,⟨⟨u,?_⟩,?_⟩,fun b hb=>?_⟩
  ·have:(((i+1:Nat)):Int)=(i:Int)+1:=by omega
   rw [this]
   exact he2
  ·exact hit'.extBut sb2.extBut (jL hne)
  ·rcases yR.mp hb with rfl | hb
   ·rw [zai eT];exact fe.1
   ·have q:b=it:=by simpa using hb
    subst q
    rw [zai iT];exact fi.1
 done:=by
  intro X hP hw hK hc i pins s σ H E I hf st hg
  subst hP hw hK
  obtain ⟨⟨old,he⟩,hit⟩:=st
  obtain ⟨xs,hq,hx⟩:=hg
  obtain ⟨its,rv,p,hz⟩:=I.list hq
  have fi:=hf it (by simp)
  have hl:=rv.length
  exact wpAny_pyNext_enum_end (I.ok.hd hc) he hit p.isList (by simp;omega) fun h' eb=>
   ⟨rfl,I.turned (t':=s.toks) (fun b o hb q=>eb b o hb q) fi.1 fi.2.1 fi.2.2.2.1 fi.2.2.2.2.1 fi.2.2.2.2.2⟩
 self:=fun _ _ _ _ _ st h=>by
  obtain ⟨⟨old,he⟩,_⟩:=st
  exact wpAny_pyIter_enum he h
noncomputable def iEnum (K:PySem.W.Frag) (ta:TA):TI:=fun σ H R=>ta σ H fun vs H1=>∃ l,vs= [.ref l]∧(∃ xs,SqL K H1 l xs)∧R (Ite K l) H1
theorem zpF {X:Cx}{a:Expr}{ta:TA}{p pos tp:Pos}{elts:List Expr}{k:Nat}(hg:Gl X "enumerate")(hm:X.mg "enumerate" =none)(ha:PA X [a] ta)
  (hs:starEach [a] X.env= [(false,eval a X.env)]:=by rfl):PI X (.Tuple elts k tp) (.Call (.Name "enumerate" p) [a] [] pos) (iEnum X.K ta):=by
 intro pins s σ H R I h
 refine Call_ (zf3 I hg hm boot_enumerate (xI (thn (ha pos pins s σ H _ I h) fun us s1 ⟨vs,H1,I1,r1,q1⟩=>?_) hs rfl))
 obtain ⟨l,e,⟨xs,hq⟩,q⟩:=q1
 subst e
 cases r1 with
 | cons r rr=>
  cases rr
  cases r
  obtain ⟨its,rv,pl,hz⟩:=I1.list hq
  refine call_enumerate_list pl.isList fun h' he hit hz' hk=>?_
  refine wpAny_pyIter_enum he ?_
  refine ⟨s1.heap.objs.size+1,[s1.heap.objs.size+1,s1.heap.objs.size],_,_,H1,rfl,I1.kept (t':=s1.toks) hk,znO l _ _ (Nat.succ_ne_self _),⟨⟨_,he⟩,hit⟩,fun b hb=>?_,q⟩
  have le:s1.heap.objs.size≤b:=by
   rcases yR.mp hb with z | hb
   ·rw [z];exact Nat.le_succ _
   ·have z:b=s1.heap.objs.size:=by simpa using hb
    rw [z];exact yN _
  exact I1.fpOk le (I1.hok.fresh le)
theorem zgv {K:PySem.W.Frag}{a:Addr}{xs:List V}{g:TG}{tb:TS}{D:Ends}{σ :St}{H:Hp}(Pv:Nat→St→Hp→Prop)(h0:Pv 0 σ H)
  (hl:∀ i σ H,i≤xs.length→Pv i σ H→SqL K H a xs)
  (hs:∀ i x σ H T,xs[i]? =some x→Pv i σ H→H T=none→g (.ref T) σ (upd H T (.tup [.int i,x])) fun σ2 H2=>tb {D with nx:=Pv (i+1),ct:=Pv (i+1),bk:=D.nx} σ2 H2)
  (hd:∀ σ H,Pv xs.length σ H→D.nx σ H):
  ∃ W:Nat→Nat→St→Hp→Prop,(∃ m,W 0 m σ H)∧∀ i m σ H,W i m σ H→
   ((Ite K a).stop i H ∧ D.nx σ H) ∨ ((Ite K a).go i H ∧ ∃ N : St → Hp → Prop, (∀ σ' H', N σ' H' → ∃ m', m' < m ∧ W (i + 1) m' σ' H') ∧
     ∀ x H',(Ite K a).yld i H x H'→g x σ H' fun σ2 H2=>tb {D with nx:=N,ct:=N,bk:=D.nx} σ2 H2):=by
 refine ⟨fun i m σ H=>m=xs.length - i∧i≤xs.length∧Pv i σ H,⟨xs.length,by simp,qL _,h0⟩,?_⟩
 rintro i m σ H ⟨rfl,hi,p⟩
 have q:=hl i σ H hi p
 by_cases hlt:i < xs.length
 ·refine .inr ⟨⟨xs,xs[i],q,by simp [hlt]⟩,Pv (i+1),fun σ' H' p'=>⟨xs.length - (i+1),by omega,rfl,hlt,p'⟩,fun x H' y=>?_⟩
  obtain ⟨T,z,hT,e1,e2,y⟩:=y
  subst e1 e2
  exact hs i z σ H T (y xs q) p hT
 ·have e:i=xs.length:=by omega
  subst e
  exact .inl ⟨⟨xs,q,yN _⟩,hd σ H p⟩
open PySem.W (Dat kqdP kqdPs kqdOk)
mutual
inductive Rep (K:PySem.W.Frag) (H:Hp):V→Dat→Prop
 | non:Rep K H .non .none
 | bl (b:Bool):Rep K H (.bl b) (.bool b)
 | int (i:Int):Rep K H (.int i) (.int i)
 | str (x:Str):Rep K H (.str x) (.str x)
 | tup {a:Addr} {xs:List V} {ds:List Dat}:SqT K H a xs→Reps K H xs ds→Rep K H (.ref a) (.tuple ds)
 | lst {a:Addr} {xs:List V} {ds:List Dat}:SqL K H a xs→Reps K H xs ds→Rep K H (.ref a) (.list ds)
inductive Reps (K:PySem.W.Frag) (H:Hp):List V→List Dat→Prop
 | nil:Reps K H [] []
 | cons {x:V} {xs:List V} {d:Dat} {ds:List Dat}:Rep K H x d→Reps K H xs ds→Reps K H (x::xs) (d::ds)
end
theorem Same.seqT {K:PySem.W.Frag}{H H':Hp}{a:Addr}{xs:List V}(e:Same H H')(h:SqT K H a xs):SqT K H' a xs:=by
 rcases h with h | h
 ·rcases h with h | ⟨o,h⟩
  ·exact .inl (.inl (e _ _ h))
  ·exact .inl (.inr ⟨o,e _ _ h⟩)
 ·exact .inr h
mutual
theorem Rep.mono {K:PySem.W.Frag}{H H':Hp}(s:Same H H'):∀ {v:V} {d:Dat},Rep K H v d→Rep K H' v d
 | _,_,.non=>.non
 | _,_,.bl b=>.bl b
 | _,_,.int i=>.int i
 | _,_,.str x=>.str x
 | _,_,.tup h r=>.tup (s.seqT h) (Reps.mono s r)
 | _,_,.lst h r=>.lst (s.seq h) (Reps.mono s r)
theorem Reps.mono {K:PySem.W.Frag}{H H':Hp}(s:Same H H'):∀ {vs:List V} {ds:List Dat},Reps K H vs ds→Reps K H' vs ds
 | _,_,.nil=>.nil
 | _,_,.cons h r=>.cons (Rep.mono s h) (Reps.mono s r)
end
theorem Reps.length {K:PySem.W.Frag}{H:Hp}:∀ {vs:List V} {ds:List Dat},Reps K H vs ds→vs.length=ds.length
 | _,_,.nil=>rfl
 | _,_,.cons _ r=>congrArg Nat.succ (Reps.length r)
theorem Reps.get {K:PySem.W.Frag}{H:Hp}:∀ {vs:List V} {ds:List Dat} {i:Nat} {v:V},Reps K H vs ds→vs[i]? =some v→∃ d,ds[i]? =some d∧Rep K H v d
 | _,_,_,_,.nil,e=>by simp at e
 | _,_,0,_,.cons h _,e=>by simp at e;subst e;exact ⟨_,rfl,h⟩
 | _,_,i+1,v,.cons _ r,e=>by
  obtain ⟨d,h1,h2⟩:=Reps.get (i:=i) (v:=v) r (by simpa using e)
  exact ⟨d,by simpa using h1,h2⟩
theorem Reps.getD {K:PySem.W.Frag}{H:Hp}:∀ {vs:List V} {ds:List Dat} {i:Nat} {d:Dat},Reps K H vs ds→ds[i]? =some d→∃ v,vs[i]? =some v∧Rep K H v d
 | _,_,_,_,.nil,e=>by simp at e
 | _,_,0,_,.cons h _,e=>by simp at e;subst e;exact ⟨_,rfl,h⟩
 | _,_,i+1,v,.cons _ r,e=>by
  obtain ⟨d,h1,h2⟩:=Reps.getD (i:=i) (d:=v) r (by simpa using e)
  exact ⟨d,by simpa using h1,h2⟩
theorem Reps.append {K:PySem.W.Frag}{H:Hp}:∀ {vs us:List V} {ds es:List Dat},Reps K H vs ds→Reps K H us es→Reps K H (vs++us) (ds++es)
 | _,_,_,_,.nil,s=>s
 | _,_,_,_,.cons h r,s=>.cons h (Reps.append r s)
theorem Reps.snoc {K:PySem.W.Frag}{H:Hp}{vs:List V}{ds:List Dat}{v:V}{d:Dat}(r:Reps K H vs ds)(h:Rep K H v d):Reps K H (vs++ [v]) (ds++ [d]):=r.append (.cons h .nil)
theorem Reps.ints {K:PySem.W.Frag}{H:Hp}:∀ ns:List Int,Reps K H (ns.map V.int) (ns.map Dat.int)
 | []=>.nil
 | n::r=>.cons (.int n) (Reps.ints r)
section
variable {X:Cx} {pins:List (Addr×Obj)} {σ :St} {H:Hp} {s:Shared}
mutual
theorem Rep.reads (I:Inv X pins σ H s):∀ (n:Nat) {v:V} {d:Dat} {u:Value},Rep X.K H v d→RelV v u→kqdOk n d=true→∃ as,Reads s.heap u (kqdP d) as
 | _,_,_,_,.non,r,_=>by cases (show _=_ from r);exact ⟨_,Reads.none⟩
 | _,_,_,_,.bl b,r,_=>by cases (show _=_ from r);exact ⟨_,Reads.bool b⟩
 | _,_,_,_,.int i,r,_=>by obtain ⟨t,rfl⟩:=r;exact ⟨_,Reads.int i t⟩
 | _,_,_,_,.str x,r,_=>by obtain ⟨t,rfl⟩:=r;exact ⟨_,Reads.str x t⟩
 | 0,_,_,_,.tup _ _,_,hk=>by simp [kqdOk] at hk
 | 0,_,_,_,.lst _ _,_,hk=>by simp [kqdOk] at hk
 | n+1,_,_,_,.tup h q,r,hk=>by
  cases (show _=_ from r)
  obtain ⟨its,rv,⟨o,e,c,m,d⟩,_⟩:=I.tuple h
  obtain ⟨as,z⟩:=Reps.reads I n q rv (by simpa [kqdOk] using hk)
  rw [kqdP]
  exact ⟨as,reads_tuple_at e c d (by simpa using z)⟩
 | n+1,_,_,_,.lst h q,r,hk=>by
  cases (show _=_ from r)
  obtain ⟨its,rv,⟨o,m,e,c,_,d⟩,_⟩:=I.list h
  obtain ⟨as,z⟩:=Reps.reads I n q rv (by simpa [kqdOk] using hk)
  rw [kqdP]
  exact ⟨_,reads_list_at e c d (by simpa using z)⟩
theorem Reps.reads (I:Inv X pins σ H s):∀ (n:Nat) {vs:List V} {ds:List Dat} {us:List Value},Reps X.K H vs ds→Vals vs us→(∀ d∈ds,kqdOk n d=true)→∃ as,ReadsAll s.heap us (kqdPs ds) as
 | _,_,_,_,.nil,r,_=>by cases r;exact ⟨_,ReadsAll.nil⟩
 | n,_,_,_,.cons h q,r,hk=>by
  cases r with
  | cons r1 r2=>
   obtain ⟨as,z⟩:=Rep.reads I n h r1 (hk _ (.head _))
   obtain ⟨bs,y⟩:=Reps.reads I n q r2 fun d hm=>hk d (.tail _ hm)
   rw [kqdPs]
   exact ⟨_,ReadsAll.cons z y⟩
end
end
noncomputable def rEqD (K:PySem.W.Frag) (neg:Bool):R2:=fun x y H Q=>∃ dx dy,Rep K H x dx∧Rep K H y dy∧kqdOk 8 dx=true∧kqdOk 8 dy=true∧(dx=dy→Q (.bl (!neg)) H)∧(dx≠dy→Q (.bl neg) H)
section
variable {X:Cx}
theorem zbG {d:Dat}(h:kqdOk 8 d=true):SeqAt.shaped (kqdP d)=true:=by
 have l:=PySem.W.kqd_lay 8 d h
 unfold SeqAt.shaped
 rw [l.1,Bool.true_and]
 exact decide_eq_true (jB l.2 (by decide))
theorem zns (hu:X.A.units+64 < cLine):OpR X (compareOp .Eq) (rEqD X.K false):=by
 intro pins s σ H x y v u Q I rx ry ⟨dx,dy,hx,hy,kx,ky,q1,q2⟩
 obtain ⟨as,ra⟩:=Rep.reads I 8 hx rx kx
 obtain ⟨bs,rb⟩:=Rep.reads I 8 hy ry ky
 have e:=PySem.W.kqd_eqv 8 dx dy 8 kx ky
 refine eq_dataH ra rb (zbG kx) (zbG ky) hu ?_
 cases z:yaS (kqdP dx) (kqdP dy) with
 | true=>exact ⟨.bl true,H,I,rfl,q1 (e.mp z)⟩
 | false=>exact ⟨.bl false,H,I,rfl,q2 fun w=>by rw [e.mpr w] at z;cases z⟩
theorem zf8 (hu:X.A.units+64 < cLine):OpR X (compareOp .NotEq) (rEqD X.K true):=by
 intro pins s σ H x y v u Q I rx ry ⟨dx,dy,hx,hy,kx,ky,q1,q2⟩
 obtain ⟨as,ra⟩:=Rep.reads I 8 hx rx kx
 obtain ⟨bs,rb⟩:=Rep.reads I 8 hy ry ky
 have e:=PySem.W.kqd_eqv 8 dx dy 8 kx ky
 refine ne_dataH ra rb (zbG kx) (zbG ky) hu ?_
 cases z:yaS (kqdP dx) (kqdP dy) with
 | true=>exact ⟨.bl false,H,I,rfl,q1 (e.mp z)⟩
 | false=>exact ⟨.bl true,H,I,rfl,q2 fun w=>by rw [e.mpr w] at z;cases z⟩
noncomputable def CBits (i j:Int):Prop:=qS i≤2 ^ 20∧qS j≤2 ^ 20
theorem zd6:OpR X (binaryOp .Mult) (rI CBits fun i j=>.int (i * j)):=opI fun i j t u s Q E h q=>mul_int q (IntMulOk.of_bits h.1 h.2)
theorem zit {i:Int}{k:Nat}(hk:k≤2 ^ 20)(h1: -(2 ^ k) < i)(h2:i < 2 ^ k):qS i≤2 ^ 20:=by
 unfold qS
 split
 ·exact qL _
 ·rename_i h0
  have hn:i.natAbs < 2 ^ k:=by
   have e:((2 ^ k:Nat):Int)=2 ^ k:=by norm_cast
   omega
  have:i.natAbs.log2 < k:=by
   refine (Nat.log2_lt ?_).mpr hn
   intro z
   simp at h0
   omega
  omega
end
end L2
namespace L2
open PySem PySem.Spec PyProof.Rows
section
variable {X:Cx} {K:PySem.W.Frag}
theorem zep (h:X.K=K:=by rfl):IxR X (rIxL K):=by subst h;exact za0
theorem zm7 (h:X.K=K:=by rfl):IxR X (rIxT K):=by subst h;exact zaL
theorem zfy (h:X.K=K:=by rfl):zfD X (.type "list") (fun xs H Q=>∃ p ys,xs= [.ref p]∧(SqL K H p ys∨SqT K H p ys)∧∀ l,H l=none→Q (.ref l) (upd H l (.lst ys))):=by subst h;exact zi5
theorem zl3 (h:X.K=K:=by rfl):OpR X (compareOp .In) (rIn K false):=by subst h;exact zeY
theorem zkB (hu:X.A.units+64 < cLine)(h:X.K=K:=by rfl):OpR X (compareOp .Eq) (rEqD K false):=by subst h;exact zns hu
theorem zp2 {es:List Expr}{k:Nat}{t:TGs}{n:Nat}{pos:Pos}(hc:X.calm=true)(h:PGs X es t)(hK:X.K=K:=by rfl)
  (hn:(assignEach es X.env).length=n:=by rfl) (hst:(assignEach es X.env).findIdx? (·.1)=none:=by rfl):PG X (.Tuple es k pos) (gTup K n t):=by subst hK;exact zpm hc h hn hst
end
structure Bx (p:Prop):Prop where
 get:p
section
variable {X:Cx} {a b c e l o i f elt tg iter target value:Expr} {es ts rest:List Expr} {st:Stmt} {sts body els:List Stmt} {ta tb tc te td ty tx tv tl to ti:TE} {tA tB':TT} {t tr:TA} {s u tb':TS} {g:TG} {gs:TGs} {wi:TI} {tt:TT}
 {pos apos cpos p pos' spos:Pos} {op op':CmpOp} {bop:Operator} {r r':R2} {lo hi:Option Expr} {tlo thi:TO}
theorem bpv (k:Nat){x:Str}{pos:Pos}(hN:X.N[k]? =some x:=by rfl)(hv:Vis X.env.scope x:=by first | exact Or.inl rfl | exact Or.inr (Or.inl rfl) | exact Or.inr (Or.inr rfl))
  (hd:(x==("__debug__" :Str))=false:=by decide) (hcd:(x==("__classdict__" :Str))=false:=by decide):Bx (PE X (.Name x pos) (tVar k)):=⟨zpc hN hv hd hcd⟩
theorem zag {k:Int}{j pos}:Bx (PE X (.Constant (.int k) j pos) (tC (.int k))):=⟨pe_int⟩
theorem zfb {k:Bool}{j pos}:Bx (PE X (.Constant (.bool k) j pos) (tC (.bl k))):=⟨pe_bl⟩
theorem ziu {j pos}:Bx (PE X (.Constant .none j pos) (tC .non)):=⟨pe_non⟩
theorem zay {x:Str}{j pos}:Bx (PE X (.Constant (.str x) j pos) (tC (.str x))):=⟨pe_str⟩
theorem zln {x:Str}{v:V}{w:Value}{pos:Pos}(hg:Gl X x)(hm:X.mg x=some w)(r:RelV v w)(hd:(x==("__debug__" :Str))=false:=by decide):Bx (PE X (.Name x pos) (tC v)):=⟨zp6 hg hm r hd⟩
theorem zao (ho:OpR X (binaryOp bop) r)(ha:Bx (PE X a ta))(hb:Bx (PE X b tb)):Bx (PE X (.BinOp a bop b pos) (tOp r ta tb)):=⟨pe_op ho ha.1 hb.1⟩
theorem zhX {uop:UnaryOp}{r:V→Hp→VK→Prop}(ho:UnR X (unaryOp uop) r)(ha:Bx (PE X a ta)):Bx (PE X (.UnaryOp uop a pos) (tUn r ta)):=⟨pe_un ho ha.1⟩
theorem zes (ho:OpR X (compareOp op) r)(ha:Bx (PE X a ta))(hb:Bx (PE X b tb))(hm:behindInMarks op b=false):Bx (PE X (.Compare a [op] [b] pos) (tOp r ta tb)):=⟨zqn ho ha.1 hb.1 hm⟩
theorem zax (ho:OpR X (compareOp op) r)(ha:Bx (PE X a ta))(hb:Bx (PE X b tb))(hm:behindInMarks op b=false):Bx (PT X (.Compare a [op] [b] pos) (zoH (tOp r ta tb))):=⟨zpD ho ha.1 hb.1 hm⟩
theorem zn2 (ho:OpR X (compareOp op) r)(ho':OpR X (compareOp op') r')(ha:Bx (PE X a ta))(hb:Bx (PE X b tb))(hc:Bx (PE X c tc))(hm:lastMarks [op,op'] [b,c]=false:=by with_unfolding_all rfl):Bx (PT X (.Compare a [op,op'] [b,c] pos) (zoH (zpd r r' ta tb tc))):=⟨zoD ho ho' ha.1 hb.1 hc.1 hm⟩
theorem zkm {j pos'}(ha:Bx (PE X a ta)):Bx (PC X .Is a (.Constant .none j pos') (tIsN ta)):=⟨pc_isN ha.1⟩
theorem ziQ {j pos'}(ha:Bx (PE X a ta)):Bx (PC X .IsNot a (.Constant .none j pos') (tNotN ta)):=⟨zpI ha.1⟩
theorem zpE (hu:X.A.units+1 < cLine)(hi:Bx (PE X i ty))(ho:Bx (PE X o td)):Bx (PC X .In i o (tDIn ty td)):=⟨pc_din hu hi.1 ho.1⟩
theorem zl7 (hu:X.A.units+1 < cLine)(hi:Bx (PE X i ty))(ho:Bx (PE X o td)):Bx (PC X .NotIn i o (znB ty td)):=⟨zni hu hi.1 ho.1⟩
theorem zpw (h:Bx (PC X op a b te))(h1:behindInMarks op b=false:=by first | exact zgx _ (by decide) (by decide) | rfl):Bx (PE X (.Compare a [op] [b] pos) te):=⟨pe_cmp h.1 h1⟩
theorem zeT (h:Bx (PC X op a b te))(h1:behindInMarks op b=false:=by first | exact zgx _ (by decide) (by decide) | rfl):Bx (PT X (.Compare a [op] [b] pos) (tB te)):=⟨pt_cmp h.1 h1⟩
theorem zij (h:Bx (PE X e te))(he:∀ zff,isTrue e X.env zff=(do let v ← zff;standAt e.pos;holding [v] (truthy v)):=by intro _;rfl):Bx (PT X e (tB te)):=⟨pt_val h.1 he⟩
theorem zgJ (h:Bx (PW X e tt)):Bx (PT X e tt):=⟨h.1.pt⟩
theorem ze2 (ha:Bx (PT X a tA)):Bx (PW X (.BoolOp .And [a] pos) tA):=⟨zpq ha.1⟩
theorem znz (ha:Bx (PT X a tA)):Bx (PW X (.BoolOp .Or [a] pos) tA):=⟨pw_or1 ha.1⟩
theorem zgV (ha:Bx (PT X a tA))(hb:Bx (PW X (.BoolOp .And (b::rest) pos) tB')):Bx (PW X (.BoolOp .And (a::b::rest) pos) (tAnd tA tB')):=⟨pw_and ha.1 hb.1⟩
theorem zpb (ha:Bx (PT X a tA))(hb:Bx (PW X (.BoolOp .Or (b::rest) pos) tB')):Bx (PW X (.BoolOp .Or (a::b::rest) pos) (tOr tA tB')):=⟨pw_or ha.1 hb.1⟩
theorem zke (ha:Bx (PT X a tA)):Bx (PT X (.UnaryOp .Not a pos) (tNot tA)):=⟨pt_not ha.1⟩
theorem zqh {bo}(h:Bx (PE X a te)):Bx (PE X (.BoolOp bo [a] pos) te):=⟨pe_one h.1⟩
theorem zqa (ha:Bx (PE X a ta))(hb:Bx (PE X (.BoolOp .And (b::rest) pos) tb)):Bx (PE X (.BoolOp .And (a::b::rest) pos) (tAndV ta tb)):=⟨pe_and ha.1 hb.1⟩
theorem zgF (hc:Bx (PT X c tA))(ha:Bx (PE X a ta))(hb:Bx (PE X b tb)):Bx (PE X (.IfExp c a b pos) (tIf tA ta tb)):=⟨zoE hc.1 ha.1 hb.1⟩
theorem zac:Bx (PA X [] tNil):=⟨pa_nil⟩
theorem zaa (ha:Bx (PE X e te))(hr:Bx (PA X es t))(hs:starEach (e::es) X.env=(false,eval e X.env)::starEach es X.env:=by rfl):Bx (PA X (e::es) (tCons te t)):=⟨zpC ha.1 hr.1 hs⟩
theorem zaG {x1}(h:Bx (PA X es t)):Bx (PE X (.Tuple es x1 pos) (tTup t)):=⟨pe_tup h.1⟩
theorem zau (h:Bx (PA X es t)):Bx (PE X (.List es pos) (tLst t)):=⟨pe_lst h.1⟩
theorem zas (hr:IxR X r)(ha:Bx (PE X a ta))(hb:Bx (PE X b tb))(hs:zmO b):Bx (PE X (.Subscript a b pos) (tOp r ta tb)):=⟨pe_ix hr ha.1 hb.1 hs⟩
theorem zbz (hu:X.A.units+1 < cLine)(ho:Bx (PE X o td))(hi:Bx (PE X i ty))(hs:NoSl i):Bx (PE X (.Subscript o i pos) (tDGet td ty)):=⟨zpA hu ho.1 hi.1 hs⟩
theorem ze5 (hu:X.A.units+1 < cLine)(ho:Bx (PE X o td))(he:Bx (PE X e ty))(hf:Bx (PE X f tx))(m:M2 X o "get" apos e f cpos):Bx (PE X (.Call (.Attribute o "get" apos) [e,f] [] cpos) (zpa td ty tx)):=⟨zog hu ho.1 he.1 hf.1 m⟩
theorem zcn:Bx (PE X (.Dict [] [] pos) zo3):=⟨zn7⟩
theorem zon:Bx (PPs X pos [] [] []):=⟨zqg⟩
theorem ze8 {ks:List (Option Expr)}{vs:List Expr}{trs:List (TE×TE)}(hk:Bx (PE X a ta))(hv:Bx (PE X b tb))(hr:Bx (PPs X pos ks vs trs)):Bx (PPs X pos (some a::ks) (b::vs) ((ta,tb)::trs)):=⟨zoy hk.1 hv.1 hr.1⟩
theorem zoK {keys:List (Option Expr)}{values:List Expr}{trs:List (TE×TE)}(h:Bx (PPs X pos keys values trs))(hall:keys.all (·.isSome)=true)(hl:keys.length=values.length)(h0:keys≠[])(h15:keys.length≤15):Bx (PE X (.Dict keys values pos) (tDisp trs)):=⟨zpy h.1 hall hl h0 h15⟩
theorem zc8:Bx (PO X none zm0):=⟨zp0⟩
theorem zcW (h:Bx (PE X e te)):Bx (PO X (some e) (tPart te)):=⟨zqe h.1⟩
theorem zco {r:V→Option Int→Option Int→Hp→VK→Prop}{p2:Pos}(hr:SlR X r)(he:Bx (PE X e te))(hl:Bx (PO X lo tlo))(hu:Bx (PO X hi thi)):Bx (PE X (.Subscript e (.Slice lo hi none p2) pos) (tSl r te tlo thi)):=⟨zol hr he.1 hl.1 hu.1⟩
theorem zaK {r:List V→Hp→VK→Prop}{x:Str}{id:String}(hc:zfD X (.builtin id) r)(hg:Gl X x)(hm:X.mg x=none)(hv:bootBuiltins x=some (.builtin id))(ha:Bx (PA X (e::es) t))(hn:x≠"__name__" :=by decide)(hdb:(x==("__debug__" :Str))=false:=by decide)
  (he:starEach (e::es) X.env=(false,eval e X.env)::starEach es X.env:=by rfl) (hpl:(backTo pos (starEach es X.env)).any (·.1)=false:=by rfl):Bx (PE X (.Call (.Name x p) (e::es) [] pos) (tCB r t)):=⟨zof hc hg hm hv ha.1 hn hdb he hpl⟩
theorem zbw {r:List V→Hp→VK→Prop}{x:Str}{T:String}(hc:zfD X (.type T) r)(hg:Gl X x)(hm:X.mg x=none)(hv:bootBuiltins x=some (.type T))(ha:Bx (PA X (e::es) t))(hn:x≠"__name__" :=by decide)(hdb:(x==("__debug__" :Str))=false:=by decide)
  (he:starEach (e::es) X.env=(false,eval e X.env)::starEach es X.env:=by rfl) (hpl:(backTo pos (starEach es X.env)).any (·.1)=false:=by rfl):Bx (PE X (.Call (.Name x p) (e::es) [] pos) (tCB r t)):=⟨zm6 hc hg hm hv ha.1 hn hdb he hpl⟩
theorem zaj {CX:CXT}{k:Nat}{fa:Addr}{fd:FuncData}{ps:List Str}{sp:Sp}{dvs:List V}{ds:List Value}{E:XK}{x:Str}(F:FnOk X.prog X.w X.K X.mg X.base CX k fa fd ps sp)(hr:Room k X.A)(hg:Gl X x)(hm:X.mg x=some (.ref fa))(hk:PySem.W.keepIn X.K (.ref fa)=true)
  (hb:zhu X.K fd ps ds) (hd:Vals dvs ds) (hx:zlD CX X E) (ha:Bx (PA X (e::es) t)) (hdb:(x==("__debug__" :Str))=false:=by decide)
  (he:starEach (e::es) X.env=(false,eval e X.env)::starEach es X.env:=by rfl) (hpl:(backTo pos (starEach es X.env)).any (·.1)=false:=by rfl):Bx (PE X (.Call (.Name x p) (e::es) [] pos) (tCall sp dvs E t)):=⟨zp3 F hr hg hm hk hb hd hx ha.1 hdb he hpl⟩
theorem zbW {name:Str}{T id:String}{r:V→List V→Hp→VK→Prop}(pa:PlainAttrs T)(slot:Slot T name id)(hty:typeOf (.builtin id)=pure (.type "method_descriptor"))(hm:MtR X id r)(ho:Bx (PE X o to))(ha:Bx (PA X (e::es) t))
  (h1:attributeBase o name X.env (eval o X.env)=eval o X.env:=by rfl)
  (h2:((backTo cpos (starEach (e::es) X.env)).all (fun x=>!x.1) && (backToKw cpos (keywordEach [] X.env)).all (fun x=>x.1.isSome) && decide ((e::es).length+([]:List Keyword).length+(if ([]:List Keyword).isEmpty then 0 else 1) < 30))=true:=by rfl)
  (h3:(apos.endLine==cpos.line)=true:=by rfl) (h4:starEach (e::es) X.env=(false,eval e X.env)::starEach es X.env:=by rfl) (h5:(backTo cpos (starEach es X.env)).any (·.1)=false:=by rfl):
  Bx (PE X (.Call (.Attribute o name apos) (e::es) [] cpos) (tBM X.K T r to t)):=⟨pe_bm pa slot hty hm ho.1 ha.1 h1 h2 h3 h4 h5⟩
theorem zql {name:Str}{T id:String}{r:V→List V→Hp→VK→Prop}(pa:PlainAttrs T)(slot:Slot T name id)(hty:typeOf (.builtin id)=pure (.type "method_descriptor"))(hm:MtR X id r)(ho:Bx (PE X o to))
  (hbase:attributeBase o name X.env (eval o X.env)=eval o X.env:=by rfl) (hline:(apos.endLine==cpos.line)=true:=by rfl):Bx (PE X (.Call (.Attribute o name apos) [] [] cpos) (tBM0 X.K T r to)):=⟨pe_bm0 pa slot hty hm ho.1 hbase hline⟩
theorem zaA:Bx (PSs X [] tNext):=⟨zpW⟩
theorem zae (h1:Bx (PS X st s))(h2:Bx (PSs X sts u)):Bx (PSs X (st::sts) (tSeq s u)):=⟨zoo h1.1 h2.1⟩
theorem zaf (h1:Bx (PS X st s)):Bx (PSs X [st] s):=⟨zpH h1.1⟩
theorem ze7:Bx (PS X st zo9):=⟨zoU⟩
theorem zba (he:Bx (PE X e te))(hs:swapsWith e none pos.line X.env=pure false:=by rfl):Bx (PS X (.Expr e pos) (tDrop te)):=⟨zpO he.1 hs⟩
theorem zap (he:Bx (PE X e te)):Bx (PS X (.Return (some e) pos) (tRet te)):=⟨ps_ret he.1⟩
theorem zaP (hc:Bx (PT X c tA))(ha:Bx (PSs X body s))(hb:Bx (PSs X els u)):Bx (PS X (.If c body els pos) (tIfS tA s u)):=⟨ps_if hc.1 ha.1 hb.1⟩
theorem zah {k:Nat}{x:Str}(hN:X.N.Nodup)(hi:X.N[k]? =some x)(hx:Loc X.env.scope x)(hf:X.fn x=true∨X.env.scope.names.lookup x=some .local:=by first | exact .inl rfl | exact .inr rfl | assumption):Bx (PG X (.Name x pos) (zfL k)):=⟨zpV hN hi hx hf⟩
theorem za1:Bx (PGs X [] gNil):=⟨zpX⟩
theorem zar (h1:Bx (PG X e g))(h2:Bx (PGs X es gs))(hs:(assignEach (e::es) X.env).map (·.2)=assign e X.env::(assignEach es X.env).map (·.2):=by rfl):Bx (PGs X (e::es) (zkv g gs)):=⟨zop h1.1 h2.1 hs⟩
theorem zcK {k n:Nat}(hc:X.calm=true)(h:Bx (PGs X es gs))(hn:(assignEach es X.env).length=n:=by rfl)(hst:(assignEach es X.env).findIdx? (·.1)=none:=by rfl):Bx (PG X (.Tuple es k pos) (gTup X.K n gs)):=⟨zpm hc h.1 hn hst⟩
theorem zc6 {K:PySem.W.Frag}{k n:Nat}(hc:X.calm=true)(h:Bx (PGs X es gs))(hK:X.K=K:=by rfl)(hn:(assignEach es X.env).length=n:=by rfl)(hst:(assignEach es X.env).findIdx? (·.1)=none:=by rfl):Bx (PG X (.Tuple es k pos) (gTup K n gs)):=⟨zp2 hc h.1 hK hn hst⟩
theorem zpB {tset:TSet}(ho:Bx (PE X o to))(hi:Bx (PE X i ti))(hs:PSet X tset)
  (ha:∀ v,assign (.Subscript o i pos) X.env v=(do
   let ov ← holding [v] (eval o X.env)
   let iv ← holding [v,ov] (eval i X.env)
   standAt pos
   holding [v,ov,iv] (setItem ov iv v)
   release [v,ov,iv] []):=by intro _;rfl):Bx (PG X (.Subscript o i pos) (gSub to ti tset)):=⟨pg_sub ho.1 hi.1 hs ha⟩
theorem ziA (he:Bx (PE X e te))(hg:Bx (PG X tg g))(hs:swapsWithSole [tg] e pos.line X.env=pure false:=by rfl)(hw:swappedStores [tg] e X.env=pure none:=by rfl)
  (h1:(assignEach [tg] X.env).map (·.2)= [assign tg X.env]:=by rfl):Bx (PS X (.Assign [tg] e pos) (tAsg te g)):=⟨ps_asg he.1 hg.1 hs hw h1⟩
theorem zal {k:Nat}{x:Str}(hN:X.N.Nodup)(hi:X.N[k]? =some x)(hx:Loc X.env.scope x)(he:Bx (PE X e te))(hs:swapsWith e (some (.Name x pos')) pos.line X.env=pure false:=by rfl)(hf:X.fn x=true∨X.env.scope.names.lookup x=some .local:=by first | exact .inl rfl | exact .inr rfl | assumption):
  Bx (PS X (.Assign [.Name x pos'] e pos) (tAsg te (zfL k))):=⟨ps_set hN hi hx he.1 hs hf⟩
theorem ziV (hu:X.A.units+1 < cLine)(ho:Bx (PE X o td))(hi:Bx (PE X i ty))(hv:Bx (PE X value tv))(hs:swapsWith value (some (.Subscript o i pos')) pos.line X.env=pure false:=by rfl):Bx (PS X (.Assign [.Subscript o i pos'] value pos) (sDPut td ty tv)):=⟨zpZ hu ho.1 hi.1 hv.1 hs⟩
theorem zaE (hp:PassesOwn (model X.prog X.w) X.A X.env X.xe)(hc:X.calm=true)(hi:Bx (PI X tg iter wi))(hg:Bx (PG X tg g))(hb:Bx (PSs X body tb'))(hs:∀ x,foldedSetIterable iter X.env x=pure x:=by intro _;rfl):Bx (PS X (.For tg iter body [] pos) (tFor wi g tb')):=⟨ps_for hp hc hi.1 hg.1 hb.1 hs⟩
theorem zaz (hl:Bx (PE X l tl)):Bx (PI X tg l (iList X.K tl)):=⟨zpu hl.1⟩
theorem zkz (hl:Bx (PE X l tl)):Bx (PI X tg l (iTup X.K tl)):=⟨pi_tup hl.1⟩
theorem zaW (hg:Gl X "range")(hm:X.mg "range" =none)(ha:Bx (PA X [a] t))(hs:starEach [a] X.env= [(false,eval a X.env)]:=by rfl):Bx (PI X tg (.Call (.Name "range" p) [a] [] pos) (iRng1 t)):=⟨znS hg hm ha.1 hs⟩
theorem zdQ {elts:List Expr}{k:Nat}{tp:Pos}(hg:Gl X "enumerate")(hm:X.mg "enumerate" =none)(ha:Bx (PA X [a] t))(hs:starEach [a] X.env= [(false,eval a X.env)]:=by rfl):Bx (PI X (.Tuple elts k tp) (.Call (.Name "enumerate" p) [a] [] pos) (iEnum X.K t)):=⟨zpF hg hm ha.1 hs⟩
theorem zaI:Bx (PTs X [] tYes):=⟨zpN⟩
theorem zgy (h:Bx (PT X c tA)):Bx (PTs X [c] tA):=⟨zpt h.1⟩
theorem zaJ {ifs:List Expr}{scope:Scope}{N:List Str}{n:Nat}{cap:List Nat}(hc:X.calm=true)(B:Blk X scope N n cap)(hi:Bx (PI X tg iter wi))(hk:zkd n g)
  (hg:∀ cl fp s H,Bx (PG (zbv X N scope cl fp s H) tg g)) (ht:∀ cl fp s H,Bx (PTs (zbv X N scope cl fp s H) ifs tt)) (he:∀ cl fp s H,Bx (PE (zbv X N scope cl fp s H) elt te))
  (hs:∀ x,foldedSetIterable iter X.env x=pure x:=by intro _;rfl):Bx (PE X (.ListComp elt [⟨tg,iter,ifs,0⟩] scope pos) (zod n cap wi g tt te)):=
 ⟨zp4 hc B hi.1 hk (fun cl fp s H=>(hg cl fp s H).1) (fun cl fp s H=>(ht cl fp s H).1) (fun cl fp s H=>(he cl fp s H).1) hs⟩
theorem ze6 {ifs:List Expr}{scope:Scope}{N:List Str}{n:Nat}{cap:List Nat}{k:Nat}{x:Str}(hc:X.calm=true)(B:Blk X scope N n cap)(hN:X.N.Nodup)(hi:X.N[k]? =some x)(hx:X.env.scope.names.lookup x=some .local)(hit:Bx (PI X tg iter wi))(hk:zkd n g)
  (hg:∀ cl fp s H,Bx (PG (zbv X N scope cl fp s H) tg g)) (ht:∀ cl fp s H,Bx (PTs (zbv X N scope cl fp s H) ifs tt)) (he:∀ cl fp s H,Bx (PE (zbv X N scope cl fp s H) elt te))
  (hsw:swapsWith (.ListComp elt [⟨tg,iter,ifs,0⟩] scope pos) (some (.Name x pos')) spos.line X.env=pure true) (hs:∀ x,foldedSetIterable iter X.env x=pure x:=by intro _;rfl):
  Bx (PS X (.Assign [.Name x pos'] (.ListComp elt [⟨tg,iter,ifs,0⟩] scope pos) spos) (tAsg (zod n cap wi g tt te) (zfL k))):=
 ⟨zpv hc B hN hi hx hit.1 hk (fun cl fp s H=>(hg cl fp s H).1) (fun cl fp s H=>(ht cl fp s H).1) (fun cl fp s H=>(he cl fp s H).1) hsw hs⟩
end
section
variable {P:Program} {w:World} {K:PySem.W.Frag} {mg:Str→Option Value} {base:Heap}
theorem Fun.okB {x qual:Str}{st:Stmt}{f:Addr}{fd:FuncData}{N ps:List Str}{k:Nat}{sp:Sp}(F:Fun K x qual st f fd)(S:zat N ps (zak st))(len:∀ vs H Q E,sp vs H Q E→vs.length=ps.length)
  (hbody:∀ (cdv:Value) (A:Around) (outer:List Env) (s:Shared) (H:Hp) (vs:List V) (Q:VK) (E:XK),Room k (A.deeper (envOfC qual (zak st) s.heap.objs.size f cdv))→sp vs H Q E→
   ∃ t,Bx (PSs (cxOf CX0 P w K mg base N qual (zak st) f cdv A outer s H E).nox (zbN st) t)∧t {nx:=fun _ H'=>Q .non H',rt:=Q} (start N vs) H):FnOk P w K mg base CX0 (k+1) f fd ps sp:=
 F.ok S len fun cdv A outer s H vs Q E hr h=>let ⟨t,a,b⟩:=hbody cdv A outer s H vs Q E hr h;⟨t,a.1,b⟩
end
section
variable {X:Cx}
theorem zlS {its:List Value}{ns:List Int}(h:IntsAre its ns):∃ xs:Array (Int×Tok),its.toArray=intItems xs∧xs.toList.map (·.1)=ns:=by
 obtain ⟨xs,e⟩:=h.allInts.items
 refine ⟨xs,e,?_⟩
 rw [← nums_intItems,← e]
 exact h.numsOf
theorem znE (hc:X.calm=true):zfD X (.builtin "sum") (fun xs H Q=>∃ (p:Addr) (ns:List Int),xs= [.ref p]∧SqL X.K H p (ns.map V.int)∧Q (.int ns.sum) H):=by
 intro pins s σ H xs us Q I r ⟨p,ns,e,hq,q⟩
 subst e
 obtain ⟨u,rfl,rx⟩:=ziF r
 cases rx
 obtain ⟨its,rv,pl,hz⟩:=I.list hq
 obtain ⟨zs,e,en⟩:=zlS (L2.zmf rv)
 refine sum_intListG (I.ok.hd hc) (by rw [← e];exact pl.isList) fun h' tk t' hk=>?_
 rw [preSum_eq,jP (by simp),en]
 exact ⟨.int ns.sum,H,I.kept (t':=tk) hk,⟨t',rfl⟩,q⟩
theorem zow {bs:List Bool}:∀ {us:List Value} {j:Nat} {v:Value},Vals (bs.map V.bl) us→us[j]? =some v→∃ b,bs[j]? =some b∧v= .bool b:=by
 intro us j v r h
 have hl:=r.length
 have hj:j < us.length:=(yF.mp h).1
 have hb:j < bs.length:=by rw [yB] at hl;omega
 obtain ⟨u,hu,ru⟩:=r.get (i:=j) (x:=.bl bs[j]) (by simp [hb])
 rw [h] at hu
 cases hu
 exact ⟨bs[j],by simp [hb],ru⟩
theorem znW (bs:List Bool):(xO bs.length).all (fun j=>(bs[j]?).getD true)=bs.all id:=by
 rw [xJ,yZ,yZ]
 constructor
 ·intro h b hb
  obtain ⟨j,hj,e⟩:=List.mem_iff_getElem.mp hb
  have:=h j (jY.mpr hj)
  rw [yC hj] at this
  simpa [e] using this
 ·intro h j hj
  have hj:=jY.mp hj
  rw [yC hj]
  exact h _ (jC hj)
theorem zgK (hc:X.calm=true):zfD X (.builtin "all") (fun xs H Q=>∃ (p:Addr) (bs:List Bool),xs= [.ref p]∧SqL X.K H p (bs.map V.bl)∧Q (.bl (bs.all id)) H):=by
 intro pins s σ H xs us Q I r ⟨p,bs,e,hq,q⟩
 subst e
 obtain ⟨u,rfl,rx⟩:=ziF r
 cases rx
 obtain ⟨its,rv,pl,hz⟩:=I.list hq
 have hl:its.toArray.size=bs.length:=by
  have:=rv.length
  simpa using this.symm
 have hlt:p < s.heap.objs.size:=by
  obtain ⟨o,ho,_⟩:=pl.isList
  exact yV ho
 refine call_all_walk (wpAny_pyIter_list pl.isList ?_)
 refine ⟨_,_,_,_,_,_,fun j=>(bs[j]?).getD true,rfl,ycn (A:=X.A.in1) (I.ok.hd hc) _ p (qC hlt) its.toArray,⟨⟨_,yT _ rfl,rfl,rfl⟩,pl.isList.at fun o e=>yI _ e⟩,?_,fun h' tk hk=>?_⟩
 ·intro j v s' Q' E' hv hQ
  obtain ⟨b,hb,rfl⟩:=zow rv (show its[j]? =some v by simpa using hv)
  dsimp only at hQ
  rw [hb] at hQ
  exact wpAny_truthy_bool hQ
 ·rw [hl,znW]
  refine ⟨.bl _,H,I.kept (t':=tk) fun b o e=>hk b o ?_ (yI _ e),rfl,q⟩
  intro z
  have:b=s.heap.objs.size:=by simpa using z
  exact qC (yV e) this
end
open PySem.W (Dat kqdP kqdPs kqdOk)
theorem zad {H:Hp}{p:Addr}(h:H p=none)(o:HO):Same H (upd H p o):=fun b u q=>by rw [zai (zam q h)];exact q
theorem Same.upd {H H':Hp}(s:Same H H'){p:Addr}(h:H' p=none)(o:HO):Same H (upd H' p o):=s.trans (zad h o)
theorem Same.write {H H':Hp}(s:Same H H'){p:Addr}(h:H p=none)(o:HO):Same H (L2.upd H' p o):=fun b u q=>by rw [zai (zam q h)];exact s b u q
noncomputable def ziG (p:Addr) (H H':Hp):Prop:=∀ b o,b≠p→H b=some o→H' b=some o
theorem ziG.refl (p:Addr)(H:Hp):ziG p H H:=fun _ _ _ h=>h
theorem ziG.write {p:Addr}{H H1:Hp}(a:ziG p H H1)(o:HO):ziG p H (L2.upd H1 p o):=fun c u n h=>by rw [zai n];exact a c u n h
structure Bld (K:PySem.W.Frag) (H0:Hp) (p:Addr) (xs:List V) (ds:List Dat) (H:Hp):Prop where
 ex:∃ G,Same H0 G∧Same G H∧G p=none∧Reps K G xs ds
 at_:H p=some (.lst xs)
section
variable {K:PySem.W.Frag} {H0 H:Hp} {p T:Addr} {xs vs:List V} {ds es:List Dat}
theorem Bld.start (h:H0 p=none):Bld K H0 p [] [] (upd H0 p (.lst [])):=⟨⟨H0,Same.refl _,zad h _,h,.nil⟩,zab⟩
theorem Bld.same (b:Bld K H0 p xs ds H):Same H0 H:=by
 obtain ⟨G,a,c,_⟩:=b.ex
 exact a.trans c
theorem Bld.reps (b:Bld K H0 p xs ds H):Reps K H xs ds:=by
 obtain ⟨G,_,a,_,r⟩:=b.ex
 exact r.mono a
theorem Bld.len (b:Bld K H0 p xs ds H):xs.length=ds.length:=b.reps.length
theorem Bld.sq (b:Bld K H0 p xs ds H):SqL K H p xs:=.of b.at_
theorem Bld.rep (b:Bld K H0 p xs ds H):Rep K H (.ref p) (.list ds):=.lst b.sq b.reps
theorem Bld.new (b:Bld K H0 p xs ds H)(h:H T=none)(o:HO):Bld K H0 p xs ds (upd H T o):=by
 obtain ⟨G,a,c,n,r⟩:=b.ex
 exact ⟨⟨G,a,c.upd h o,n,r⟩,by rw [zai (zam b.at_ h)];exact b.at_⟩
theorem Bld.pushT (b:Bld K H0 p xs ds H)(h:H T=none)(r:Reps K H0 vs es):Bld K H0 p (xs++ [.ref T]) (ds++ [.tuple es]) (upd (upd H T (.tup vs)) p (.lst (xs++ [.ref T]))):=by
 obtain ⟨G,a,c,n,rs⟩:=b.ex
 have hT:G T=none:=c.free h
 have pT:p≠T:=zam b.at_ h
 have s1:Same G (upd G T (.tup vs)):=zad hT _
 refine ⟨⟨upd G T (.tup vs),a.trans s1,fun x u q=>?_,by rw [zai pT];exact n,(rs.mono s1).snoc (.tup (.of zab) ((r.mono a).mono s1))⟩,zab⟩
 by_cases e:x=T
 ·subst e
  rw [zab] at q
  rw [zai (jL pT),zab]
  exact q
 ·rw [zai e] at q
  rw [zai (zam q n),zai e]
  exact c x u q
end
theorem big {n:Nat}(h:n≤100000):n < yM:=ybQ h (by decide)
theorem bigE {n:Nat}(h:n≤100000):n≤yM:=yai (big h)
end L2
namespace L2
open PySem PySem.Spec PyProof.Rows
open PySem.W (Dat kqdP kqdPs kqdOk)
noncomputable def rInD (K:PySem.W.Frag) (neg:Bool):R2:=fun x y H Q=>∃ d ds,Rep K H x d∧Rep K H y (.list ds)∧kqdOk 8 d=true∧(∀ e∈ds,kqdOk 8 e=true)∧(d∈ds→Q (.bl (!neg)) H)∧(d∉ds→Q (.bl neg) H)
section
variable {X:Cx}
open Classical in
theorem zp5 {pins:List (Addr×Obj)}{σ :St}{H:Hp}{s:Shared}{x y:V}{v u:Value}{d:Dat}{ds:List Dat}(I:Inv X pins σ H s)(hu:X.A.units+64 < cLine)(rx:RelV x v)(ry:RelV y u)
  (hx:Rep X.K H x d) (hy:Rep X.K H y (.list ds)) (kd:kqdOk 8 d=true) (ks:∀ e∈ds,kqdOk 8 e=true):
  ∃ (p:Addr) (its:List Value) (e:Value→Bool),u= .ref p∧s.heap.IsList p its.toArray∧(∀ z,z∈its.toArray→xB X.A.in1 s z v (e z))∧(its.toArray.any e=true↔d∈ds):=by
 cases hy with
 | lst hq rq=>
  cases (show _=_ from ry)
  obtain ⟨its,r,pl,hz⟩:=I.list hq
  obtain ⟨as,ra⟩:=Rep.reads I 8 hx rx kd
  have room:∀ di,kqdOk 8 di=true→X.A.in1.units+min (kqdP di).depth (kqdP d).depth < cLine:=fun di k=>by
   have l:=(PySem.W.kqd_lay 8 di k).2
   rw [yb6]
   omega
  have back:∀ {xs:List V} {us:List Value} {i:Nat} {u:Value},Vals xs us→us[i]? =some u→∃ x,xs[i]? =some x∧RelV x u:=fun {xs us i u} r e=>by
   have hi:i < xs.length:=by rw [r.length];exact (yF.mp e).1
   obtain ⟨u',h1,h2⟩:=r.get (yC hi)
   rw [e] at h1
   cases h1
   exact ⟨_,yC hi,h2⟩
  have each:∀ z∈its,∃ di,di∈ds∧∃ bs,Reads s.heap z (kqdP di) bs:=by
   intro z hz
   obtain ⟨i,hi⟩:=jQ hz
   obtain ⟨w,hw,rw'⟩:=back r hi
   obtain ⟨di,hdi,rdi⟩:=rq.get hw
   exact ⟨di,yH hdi,Rep.reads I 8 rdi rw' (ks di (yH hdi))⟩
  have same:∀ di,di∈ds→kqdP di=kqdP d→di=d:=fun di hd e=>by
   have z:=(PySem.W.kqd_eqv 8 d d 8 kd kd).mpr rfl
   exact (PySem.W.kqd_eqv 8 di d 8 (ks di hd) kd).mp (by rw [e];exact z)
  refine ⟨_,its,fun z=>decide (∃ bs,Reads s.heap z (kqdP d) bs),rfl,pl.isList,fun z hz=>?_,?_⟩
  ·obtain ⟨di,hd,bs,rb⟩:=each z (by simpa using hz)
   have q:=yb7 _ _ X.A.in1 s z v bs as rb ra (xP (zbG (ks di hd))) (xP (zbG kd)) (room di (ks di hd))
   have e:yaS (kqdP di) (kqdP d)=decide (∃ bs,Reads s.heap z (kqdP d) bs):=by
    by_cases h:di=d
    ·subst h
     rw [(PySem.W.kqd_eqv 8 di di 8 kd kd).mpr rfl]
     exact (decide_eq_true ⟨bs,rb⟩).symm
    ·have e1:yaS (kqdP di) (kqdP d)=false:=by
      cases c:yaS (kqdP di) (kqdP d) with
      | true=>exact absurd ((PySem.W.kqd_eqv 8 di d 8 (ks di hd) kd).mp c) h
      | false=>rfl
     rw [e1]
     refine (decide_eq_false ?_).symm
     rintro ⟨cs,rc⟩
     exact h (same di hd (ya3 _ _ z bs cs (xP (zbG (ks di hd))) rb rc))
   show xB X.A.in1 s z v (decide (∃ bs,Reads s.heap z (kqdP d) bs))
   rw [← e]
   exact q
  ·rw [Array.any_eq_true']
   constructor
   ·rintro ⟨z,hz,c⟩
    obtain ⟨cs,rc⟩:=of_decide_eq_true c
    obtain ⟨di,hd,bs,rb⟩:=each z (by simpa using hz)
    have:=same di hd (ya3 _ _ z bs cs (xP (zbG (ks di hd))) rb rc)
    exact this ▸ hd
   ·intro hd
    obtain ⟨i,hi⟩:=jQ hd
    obtain ⟨w,hw,rw'⟩:=rq.getD hi
    obtain ⟨z,hz,rz⟩:=r.get hw
    exact ⟨z,by simpa using yH hz,decide_eq_true (Rep.reads I 8 rw' rz kd)⟩
theorem zja (hu:X.A.units+64 < cLine):OpR X (compareOp .NotIn) (rInD X.K true):=by
 intro pins s σ H x y v u Q I rx ry ⟨d,ds,hx,hy,kd,ks,q1,q2⟩
 obtain ⟨p,its,e,rfl,hl,he,hm⟩:=zp5 I hu rx ry hx hy kd ks
 refine ybP e hl he ?_
 by_cases h:d∈ds
 ·rw [hm.mpr h]
  exact ⟨.bl false,H,I,rfl,q1 h⟩
 ·have z:its.toArray.any e=false:=by
   cases c:its.toArray.any e with
   | true=>exact absurd (hm.mp c) h
   | false=>rfl
  rw [z]
  exact ⟨.bl true,H,I,rfl,q2 h⟩
end
section
variable {X:Cx} {K:PySem.W.Frag}
end
section
variable {g:TG} {tt:TT} {te:TE} {n0:Nat} {cap:List Nat} {σ :St} {Q:VK} {D:Addr} {H1:Hp} {K:PySem.W.Frag}
theorem zhc {a:Addr}{xs:List V}(Pv:Nat→Hp→Prop)(h0:Pv 0 (upd H1 D (.lst [])))(hl:∀ i H,i≤xs.length→Pv i H→SqL K H a xs)
  (hs:∀ i x H T,xs[i]? =some x→Pv i H→H T=none→g (.ref T) (zbC n0 cap σ) (upd H T (.tup [.int i,x])) fun σ2 H2=>tt σ2 H2 fun b H3=>if b=true then te σ2 H3 fun y H4=>∃ xs,H4 D=some (.lst xs)∧xs.length < yM∧Pv (i+1) (upd H4 D (.lst (xs++ [y]))) else Pv (i+1) H3)
  (hd:∀ H,Pv xs.length H→Q (.ref D) H):
  zdf (Ite K a) D n0 cap σ g tt te Q H1:=by
 refine ⟨fun i m H=>m=xs.length - i∧i≤xs.length∧Pv i H,⟨xs.length,by simp,qL _,h0⟩,?_⟩
 rintro i m H ⟨rfl,hi,p⟩
 have q:=hl i H hi p
 by_cases hlt:i < xs.length
 ·refine .inr ⟨⟨xs,xs[i],q,by simp [hlt]⟩,Pv (i+1),fun H' p'=>⟨xs.length - (i+1),by omega,rfl,hlt,p'⟩,fun x H' y=>?_⟩
  obtain ⟨T,z,hT,e1,e2,y⟩:=y
  subst e1 e2
  exact hs i z H T (y xs q) p hT
 ·have e:i=xs.length:=by omega
  subst e
  exact .inl ⟨⟨xs,q,yN _⟩,hd H p⟩
end
end L2
namespace L2
open PySem PySem.Spec PyProof.Rows
open PySem.W (Dat kqdP kqdPs kqdOk)
structure Off (M:List Addr) (G H:Hp):Prop where
 same:Same G H
 out:∀ m∈M,G m=none
 there:∀ m∈M,∃ o,H m=some o
section
variable {M:List Addr} {G G1 G2 H H':Hp} {T m:Addr} {o u:HO}
theorem Off.ne (f:Off M G H)(h:H T=none):T∉M:=fun z=>by
 obtain ⟨o,e⟩:=f.there T z
 rw [h] at e
 cases e
theorem Off.ne' (f:Off M G H)(h:H T=none)(hm:m∈M):m≠T:=fun z=>f.ne h (z ▸ hm)
theorem Off.new (f:Off M G H)(h:H T=none)(o:HO):Off M G (upd H T o):=⟨f.same.upd h o,f.out,fun m hm=>by
 obtain ⟨u,e⟩:=f.there m hm
 exact ⟨u,zad h o _ _ e⟩⟩
theorem Off.grow (f:Off M G H)(s:Same H H'):Off M G H':=⟨f.same.trans s,f.out,fun m hm=>by
 obtain ⟨u,e⟩:=f.there m hm
 exact ⟨u,s _ _ e⟩⟩
theorem Off.add (f:Off M G H)(h:H T=none)(o:HO):Same G (upd G T o):=zad (f.same.free h) o
theorem Off.lay (f:Off M G H)(h:H T=none)(o:HO):Off M (upd G T o) (upd H T o):=⟨fun b v q=>by
  by_cases e:b=T
  ·subst e
   rw [zab] at q ⊢
   exact q
  ·rw [zai e] at q ⊢
   exact f.same b v q,
 fun m hm=>by rw [zai (f.ne' h hm)];exact f.out m hm,(f.new h o).there⟩
theorem Off.write (f:Off M G H)(hm:m∈M)(o:HO):Off M G (upd H m o):=⟨f.same.write (f.out m hm) o,f.out,fun k hk=>by
 by_cases e:k=m
 ·subst e
  exact ⟨o,zab⟩
 ·obtain ⟨u,e'⟩:=f.there k hk
  exact ⟨u,by rw [zai e];exact e'⟩⟩
theorem Off.opn (f:Off M G H)(h:H T=none)(o:HO):Off (T::M) G (upd H T o):=⟨f.same.upd h o,fun m hm=>by
  rcases yR.mp hm with rfl | hm
  ·exact f.same.free h
  ·exact f.out m hm,
 fun m hm=>by
  rcases yR.mp hm with rfl | hm
  ·exact ⟨o,zab⟩
  ·exact (f.new h o).there m hm⟩
theorem Off.drop (f:Off (m::M) G H):Off M G H:=⟨f.same,fun k hk=>f.out k (.tail _ hk),fun k hk=>f.there k (.tail _ hk)⟩
theorem Off.close (f:Off (m::M) G H)(e:H m=some o)(hn:m∉M):Off M (upd G m o) H:=⟨fun b v q=>by
  by_cases eb:b=m
  ·subst eb
   rw [zab] at q
   rw [e]
   exact q
  ·rw [zai eb] at q
   exact f.same b v q,
 fun k hk=>by
  have:k≠m:=fun z=>hn (z ▸ hk)
  rw [zai this]
  exact f.out k (.tail _ hk),fun k hk=>f.there k (.tail _ hk)⟩
theorem Off.cadd (f:Off (m::M) G H)(o:HO):Same G (upd G m o):=zad (f.out m (.head _)) o
theorem Off.take {a:Addr}(f:Off M G H)(e:H a=some o)(hn:a∉M):Off M (upd G a o) H∧Same G (upd G a o):=by
 refine ⟨⟨fun b v q=>?_,fun k hk=>?_,f.there⟩,fun b v q=>?_⟩
 ·by_cases eb:b=a
  ·subst eb
   rw [zab] at q
   rw [e]
   exact q
  ·rw [zai eb] at q
   exact f.same b v q
 ·have:k≠a:=fun z=>hn (z ▸ hk)
  rw [zai this]
  exact f.out k hk
 ·by_cases eb:b=a
  ·subst eb
   have:=f.same _ _ q
   rw [e] at this
   rw [zab]
   exact this
  ·rw [zai eb]
   exact q
theorem Off.start {p:Addr}(h:H p=none)(o:HO):Off [p] H (upd H p o):=⟨zad h o,fun m hm=>by rw [yE.mp hm];exact h,fun m hm=>by rw [yE.mp hm];exact ⟨o,zab⟩⟩
end
end L2
namespace L2
open PySem PySem.Spec PyProof.Rows
noncomputable def zef (kvs more:List (List Key×V)):List (List Key×V):=more.foldl (fun acc kv=>putK acc kv.1 kv.2) kvs
noncomputable def storeAll (acc xs:List (List Key×Addr×Value)):List (List Key×Addr×Value):=xs.foldl (fun acc x=>storedH acc x.1 x.2.1 x.2.2) acc
noncomputable abbrev zeI (H:Hp):List V→List (List Key×V)→Prop:=Paired fun x kv=>∃ p kt,x=V.ref p∧H p=some (.tup [.ref kt,kv.2])∧RdT H kt (kv.1.map kV)
theorem zn1:typeLookup (.type "list") "keys" =pure none:=am_miss_of_fast (by kernel_rfl)
theorem zeH:entryFor table "dict.update.loop" =some Builtin.«dict.update.loop» :=entryFor_of_fast (by kernel_rfl)
theorem zce:plainId "dict.update.loop" =true:=by decide+kernel
theorem ziY (xs:List (List Key×Addr×Value)){i:Nat}{x:List Key×Addr×Value}(h:xs[i]? =some x):storeAll [] (xs.take (i+1))=storedH (storeAll [] (xs.take i)) x.1 x.2.1 x.2.2:=by
 unfold storeAll
 rw [yO,h,xU]
 rfl
theorem zl2 (xs:List (List Key×Addr×Value))(k:List Key)(b:Addr)(v:Value):(storedH xs k b v).length≤xs.length+1:=by
 unfold storedH
 split
 ·rw [yB];omega
 ·rw [yJ,yX];omega
theorem zeK:∀ (xs acc:List (List Key×Addr×Value)),(storeAll acc xs).length≤acc.length+xs.length
 | [],acc=>by show acc.length≤acc.length+0;omega
 | x::r,acc=>by
  have h1:=zeK r (storedH acc x.1 x.2.1 x.2.2)
  have h2:=zl2 acc x.1 x.2.1 x.2.2
  show (storeAll (storedH acc x.1 x.2.1 x.2.2) r).length≤_
  rw [qY];omega
section
variable {prog:Program} {w:World} {A:Around} {E:Value→Shared→Prop} {s:Shared}
theorem zfg {a:Addr}{o:Obj}{xs:Array Value}{k:Nat}{Q:Option Value→Shared→Prop}
  (hx:s.heap.get? a=some o) (hc:o.cls= .type "list") (hdat:o.data= .seq xs k) (hd:o.dict=none) (hA:A.handled=none)
  (h:∀ h' tk,(∀ b ob,s.heap.get? b=some ob→h'.get? b=some ob)→Q none {s with heap:=h',toks:=tk}):
  wpAny (model prog w) A (getAttr? (.ref a) "keys") Q E s:=by
 obtain ⟨c,dct,dat,sl⟩:=o
 simp only at hc hdat hd
 subst hc hdat hd
 obtain ⟨hp,g,d,tk,os⟩:=s
 have hT:∀ tk',(⟨hp,g,d,tk',os⟩:Shared).TypeIs (.ref a) "list" :=fun _=>⟨_,hx,rfl⟩
 have f1:=sub_AttributeError
 have f3:=yak.lookup
 have f4:=yak.bind (.ref a)
 have f5:=am_list_getattr_none
 unfold getAttr? getAttrBy? getAttrBy
 repeat (any_goals (first | assumption | exact hT _ | ((with_reducible show wpAny _ _ (call (Value.builtin "list.__getattribute__") _ _) _ _ _);refine call_meets yak (hT _) am_entry_list_getattribute (F.args_list_getattribute_2 _ _) (meets_getattribute_miss_list a xs k sl "keys" _ zn1 (by decide+kernel) (by decide+kernel)) ⟨hx,hA,fun h' tk' e hx'=>?_⟩) | wp_step))
 obtain ⟨t',u',he⟩:=hx'.there
 show wpAny _ _ (getattributeRaised _ _ _ _ _ _ _) _ _ _
 unfold getattributeRaised
 repeat (any_goals (first | assumption | wp_step))
 exact h _ _ hx'.keeps
end
section
variable {prog:Program} {w:World} {A:Around} {R:Result→Shared→Prop}
theorem zlo {h h':Heap}{k:List Key}{a:Addr}(hk:(tupleKind (zaw prog w)).is h k a)(keep:∀ o,h.get? a=some o→h'.get? a=some o):(tupleKind (zaw prog w)).is h' k a:=by
 obtain ⟨o,it,n,e,r⟩:=hk
 exact ⟨o,it,n,keep _ e,r⟩
theorem zgt {h:Heap}{I L:Addr}{i:Nat}(hit:h.IsListIter I L i):∃ oi,h.get? I=some oi∧oi.cls= .type "list_iterator" :=by
 obtain ⟨o,e,c,_⟩:=hit
 exact ⟨o,e,c⟩
theorem zhI {h h':Heap}{I d:Addr}{acc:List (List Key×Addr×Value)}(hm:h.DictOfH (tupleKind (zaw prog w)) d acc)(hI:∃ oi,h.get? I=some oi∧oi.cls= .type "list_iterator")
  (hk:∀ b o,b≠I→h.get? b=some o→h'.get? b=some o):h'.DictOfH (tupleKind (zaw prog w)) d acc:=by
 obtain ⟨o,es,ep,h1,h2,h3,h4,his,h5⟩:=hm
 obtain ⟨oi,e1,e2⟩:=hI
 refine ⟨o,es,ep,hk _ _ ?_ h1,h2,h3,h4,fun x hx=>?_,h5⟩
 ·intro z
  subst z
  rw [h1] at e1
  cases e1
  rw [h2.1] at e2
  exact absurd (wU e2) (by decide)
 ·have q:=his x hx
  refine zlo q fun ob ho=>hk _ _ ?_ ho
  intro z
  obtain ⟨o',it,n,e,c,_⟩:=q
  rw [z,e1] at e
  cases e
  rw [e2] at c
  exact absurd (wU c) (by decide)
theorem zgm {d I L:Addr}{items:Array Value}{h0:Heap}{xs:List (List Key×Addr×Value)}
  (hA:A.in1.handled=none) (hu:(tupleKind (zaw prog w)).room A.in1) (hLI:L≠I) (hdI:d≠I) (hdL:d≠L)
  (hd0:h0.get? d=none) (hI0:h0.get? I=none)
  (good:∀ (i:Nat) (x:List Key×Addr×Value),xs[i]? =some x→∃ (p:Addr) (o:Obj) (n:Nat),items[i]? =some (Value.ref p)∧h0.get? p=some o∧o.cls= .type "tuple"∧o.data= .seq #[.ref x.2.1,x.2.2] n∧(tupleKind (zaw prog w)).is h0 x.1 x.2.1)
  (hn:items.size=xs.length) (hz:xs.length < yM):
  ∀ (k i:Nat) (s:Shared) (t:Tok),xs.length - i=k→i≤xs.length→s.heap.IsListIter I L i→s.heap.IsList L items→s.heap.DictOfH (tupleKind (zaw prog w)) d (storeAll [] (xs.take i))→
   (∀ b o,h0.get? b=some o→s.heap.get? b=some o)→
   (∀ h' tk,h'.DictOfH (tupleKind (zaw prog w)) d (storeAll [] xs)→(∀ b o,h0.get? b=some o→h'.get? b=some o)→R (.ok (.ret .none)) {s with heap:=h',toks:=tk})→
   codeAny (model prog w) A (.builtin "dict.update.loop" ⟨[.ref d,.ref I,.int i t,.none],[]⟩) R s:=by
 have W:=ycn (prog:=prog) (w:=w) hA I L hLI items
 intro k
 induction k with
 | zero=>
  intro i s t hk hi hit hl hm hkeep hR
  have hin:i=items.size:=by omega
  refine codeAny_builtin zeH ?_
  rw [vH zce _]
  show wpAny _ A.in1 (pyNext (.ref I) >>=_) _ _ s
  refine yA (W.done s _ _ (by rw [← hin];exact ⟨hit,hl⟩) fun h' tk hk'=>?_)
  have hk2:∀ b o,b≠I→s.heap.get? b=some o→h'.get? b=some o:=fun b o hb e=>hk' b o (by simpa using hb) e
  have et:xs.take i=xs:=jP (by omega)
  rw [et] at hm
  show wpAny _ _ (ya9 d [] >>=_) _ _ _
  exact yA (yD (yD (hR h' tk (zhI hm (zgt hit) hk2) fun b o e=>hk2 b o (fun z=>by rw [z,hI0] at e;cases e) (hkeep b o e))))
 | succ k ih=>
  intro i s t hk hi hit hl hm hkeep hR
  have hlt:i < xs.length:=by omega
  obtain ⟨p,o,n,hp,ho,hc,hdat,hkey⟩:=good i xs[i] (yC hlt)
  refine codeAny_builtin zeH ?_
  rw [vH zce _]
  show wpAny _ A.in1 (pyNext (.ref I) >>=_) _ _ s
  refine yA (W.item i s _ _ (by omega) ⟨hit,hl⟩ fun v h' tk hP hst' hk'=>?_)
  rw [hp] at hP
  cases hP
  have hk2:∀ b o,b≠I→s.heap.get? b=some o→h'.get? b=some o:=fun b o hb e=>hk' b o (by simpa using hb) e
  have hkeep':∀ b o,h0.get? b=some o→h'.get? b=some o:=fun b o e=>hk2 b o (fun z=>by rw [z,hI0] at e;cases e) (hkeep b o e)
  have hm':h'.DictOfH (tupleKind (zaw prog w)) d (storeAll [] (xs.take i)):=zhI hm (zgt hit) hk2
  refine yA (wpAny_holding (yA (wpAny_tryCatch ?_)))
  unfold Builtin.Dict.pairItems
  refine yA (wpAny_typeOf (T:="tuple") ⟨o,hkeep' _ _ ho,hc⟩ ?_)
  rw [if_pos (by decide)]
  refine yA (wpAny_seqItems (hkeep' _ _ ho) hdat (yD ?_))
  show wpAny _ _ (holding [_,_] (dictSet d _ _)) _ _ _
  have l1:=zeK (xs.take i) []
  rw [vW,yP] at l1
  refine wpAny_holding (wpAny_dictSet_heap (hsz:=by omega) hu (zlo hkey fun o e=>hkeep' _ _ e) hm' fun h2 hd2 hs2=>?_)
  have hk3:∀ b o,b≠d→h'.get? b=some o→h2.get? b=some o:=fun b o hb e=>(hs2.2 b hb).trans e
  refine yD ⟨plainId_quiet zce _,ih (i+1) _ _ (by omega) (by omega) (hst'.1.at fun o e=>hk3 _ _ (jL hdI) e) (hst'.2.at fun o e=>hk3 _ _ (jL hdL) e) ?_ (fun b o e=>hk3 b o (fun z=>by rw [z,hd0] at e;cases e) (hkeep' b o e)) fun h3 tk3 hd3 hk4=>hR h3 tk3 hd3 hk4⟩
  rw [ziY xs (yC hlt)]
  exact hd2
end
section
variable {prog:Program} {w:World} {A:Around} {E:Value→Shared→Prop} {s:Shared}
theorem zgX {L:Addr}{o:Obj}{items:Array Value}{m:Nat}{xs:List (List Key×Addr×Value)}{Q:Value→Shared→Prop}(hA:A.handled=none)(hu:A.units+64 < cLine)
  (ho:s.heap.get? L=some o) (hc:o.cls= .type "list") (hd:o.dict=none) (hdat:o.data= .seq items m)
  (good:∀ (i:Nat) (x:List Key×Addr×Value),xs[i]? =some x→∃ (p:Addr) (o:Obj) (n:Nat),items[i]? =some (Value.ref p)∧s.heap.get? p=some o∧o.cls= .type "tuple"∧o.data= .seq #[.ref x.2.1,x.2.2] n∧(tupleKind (zaw prog w)).is s.heap x.1 x.2.1)
  (hn:items.size=xs.length) (hz:xs.length < yM)
  (h:∀ h' tk,h'.DictOfH (tupleKind (zaw prog w)) s.heap.objs.size (storeAll [] xs)→(∀ b o,s.heap.get? b=some o→h'.get? b=some o)→Q (.ref s.heap.objs.size) {s with heap:=h',toks:=tk}):
  wpAny (model prog w) A (call (.type "dict") [.ref L]) Q E s:=by
 refine callType_codes (Q₁ :=fun obj s₁ =>obj= .ref s.heap.objs.size∧s₁ = {s with heap:=s.heap.push {cls:=.type "dict",data:=.dict #[]}}) PySem.F.kt_called_dict (PySem.F.kt_typeCall_dict_1 _) PySem.F.entry_dict_init (kt_code_dict_new _ ⟨rfl,rfl⟩) ?_
 rintro obj s₁ ⟨rfl,rfl⟩
 have hd1:(s.heap.push {cls:=.type "dict",data:=.dict #[]}).get? s.heap.objs.size=some {cls:=.type "dict",data:=.dict #[]}:=yT _ rfl
 have hL1:(s.heap.push {cls:=.type "dict",data:=.dict #[]}).get? L=some o:=yI _ ho
 have hlt:L < s.heap.objs.size:=yV ho
 refine ⟨⟨_,hd1,rfl⟩,PySem.F.args_dict_init_2 _ _,?_⟩
 unfold Builtin.«dict.__init__»
 refine yA ?_
 unfold yba
 refine yA (wpAny_notOrdered_dict ⟨_,hd1,rfl⟩ ?_)
 show wpAny _ _ (pure (s.heap.objs.size,[Value.ref L])) _ _ _
 refine yD ?_
 show wpAny _ _ (wA "dict.__init__" s.heap.objs.size (.ref L) [] .none) _ _ _
 unfold wA
 refine yA (wpAny_typeOf (T:="list") ⟨_,hL1,hc⟩ ?_)
 rw [if_pos (by decide)]
 refine yA (zfg hL1 hc hdat hd hA fun h2 tk2 hk2=>?_)
 rw [if_pos (show (none:Option Value).isNone=true from rfl)]
 refine yA (wpAny_rule ?_)
 have hl2:h2.IsList L items:=⟨o,hk2 _ _ hL1,hc,m,hdat⟩
 refine yA (wpAny_pyIter_list hl2 ?_)
 have hz2:s.heap.objs.size < h2.objs.size:=yV (hk2 _ _ hd1)
 have keep:∀ b ob,s.heap.get? b=some ob→(h2.push {cls:=.type "list_iterator",data:=.fields #[.ref L,.int 0 0]}).get? b=some ob:=fun b ob e=>yI _ (hk2 _ _ (yI _ e))
 refine yD ⟨plainId_quiet zce _,zgm (A:=A.in1) (h0:=s.heap) (L:=L) hA (show A.units+1+1 < cLine by omega) (qC (yaC hlt hz2)) (qC hz2) (jL (qC hlt)) (yaK (yN _)) (yaK (yai hz2)) good hn hz
  xs.length 0 _ _ (by omega) (qL _) ⟨_,yT _ rfl,rfl,rfl⟩ (hl2.at fun o e=>yI _ e) ?_ keep fun h' tk hd' hk'=>⟨rfl,h h' tk hd' hk'⟩⟩
 exact ⟨_,#[],0,yI _ (hk2 _ _ hd1),⟨rfl,rfl,rfl⟩,rfl,rfl,(fun x hx=>nomatch hx),xL⟩
end
theorem zdZ:∀ (more kvs:List (List Key×V)),(zef kvs more).length≤kvs.length+more.length
 | [],kvs=>by show kvs.length≤kvs.length+0;omega
 | p::r,kvs=>by
  have h1:=zdZ r (putK kvs p.1 p.2)
  have h2:=zcL kvs p.1 p.2
  show (zef (putK kvs p.1 p.2) r).length≤_
  rw [qY];omega
theorem KT.merge {H:Hp}:∀ {more:List (List Key×V)} {xs:List (List Key×Addr×Value)} {kvs:List (List Key×V)} {ys:List (List Key×Addr×Value)},KT H more xs→KT H kvs ys→KT H (zef kvs more) (storeAll ys xs)
 | _,_,_,_,.nil,q=>q
 | _,_,kvs,ys,.cons (a:=p) (b:=x) h t,q=>by
  have e:KT H (putK kvs p.1 p.2) (storedH ys x.1 x.2.1 x.2.2):=by
   have:=q.put p.1 h.2.1 h.2.2
   rw [← h.1];exact this
  have z:=KT.merge (kvs:=putK kvs p.1 p.2) (ys:=storedH ys x.1 x.2.1 x.2.2) t e
  exact z
section
variable {X:Cx}
theorem zh2 (hc:X.calm=true)(hu:X.A.units+64 < cLine):zfD X (.type "dict") (fun xs H Q=>∃ (L:Addr) (vs:List V) (kvs:List (List Key×V)),xs= [.ref L]∧H L=some (.lst vs)∧zeI H vs kvs∧kvs.length < yM∧∀ d,H d=none→Q (.ref d) (upd H d (.dT (zef [] kvs)))):=by
 intro pins s σ H xs us Q I r ⟨L,vs,kvs,e,hL,hp,hz,q⟩
 subst e
 obtain ⟨u,rfl,rx⟩:=ziF r
 cases rx
 obtain ⟨z,its,n,rv,hl,eL⟩:=I.lstM hL
 obtain ⟨ws,kt,gd⟩:∃ ws:List (List Key×Addr×Value),KT H kvs ws∧∀ (i:Nat) (x:List Key×Addr×Value),ws[i]? =some x→∃ p o n,its[i]? =some (.ref p)∧s.heap.get? p=some o∧o.cls= .type "tuple"∧o.data= .seq #[.ref x.2.1,x.2.2] n∧(tupleKind (zaw X.prog X.w)).is s.heap x.1 x.2.1:=by
  clear q hz hL z eL hl
  induction hp generalizing its with
  | nil=>cases rv;exact ⟨[],.nil,fun i x hx=>by simp at hx⟩
  | @cons x kv vs kvs h t ih=>
   cases rv with
   | @cons _ u _ us ru rus=>
    obtain ⟨ws,k1,g1⟩:=ih us rus
    obtain ⟨p,ktt,rfl,h1,h2⟩:=h
    cases ru
    obtain ⟨_,ts,rt,ot,e1,c1,n1,d1⟩:=(show zbM X.prog X.w H s.heap p (.tup [.ref ktt,kv.2]) from I.hok p _ h1)
    cases rt with
    | @cons _ t1 _ _ r1 r2=>
     cases r2 with
     | @cons _ t2 _ _ r2 r3=>
      cases r3
      cases r1
      refine ⟨(kv.1,ktt,t2)::ws,.cons ⟨rfl,h2,r2⟩ k1,fun i x hx=>?_⟩
      cases i with
      | zero=>
       simp at hx
       subst hx
       exact ⟨p,ot,n1,rfl,e1,c1,d1,zfe I.hok h2⟩
      | succ i=>
       obtain ⟨p',o',n',a1,a2⟩:=g1 i x (by simpa using hx)
       exact ⟨p',o',n',by simpa using a1,a2⟩
 have lw:kvs.length=ws.length:=qI kt
 have lv:vs.length=kvs.length:=qI hp
 refine zgX (xs:=ws) (I.ok.hd hc) hu eL rfl rfl rfl (fun i x hx=>?_) (by rw [yW];omega) (by omega) fun h' tk hd hk=>?_
 ·obtain ⟨p,o,n,a1,a2⟩:=gd i x hx
  exact ⟨p,o,n,by simpa using a1,a2⟩
 ·have hf:=I.fresh
  obtain ⟨o,es,ep,h1,h2,h3,h4,his,h5⟩:=hd
  have lm:=zdZ kvs []
  rw [vW] at lm
  have hb:=I.big
  refine ⟨.ref s.heap.objs.size,_,I.laid (a:=s.heap.objs.size) (o:=.dT (zef [] kvs)) (t':=tk) hk (yN _) ⟨by omega,beq_eq_false_iff_ne.mpr (jL (qC hb)),storeAll [] ws,(kt.merge .nil).keeps fun b ys eb=>eb.upd hf,o,es,ep,h1,h2,h3,h4,h5⟩,rfl,q _ hf⟩
end
section
variable {X:Cx} {e k:Expr} {te tk:TE} {pos p2:Pos}
end
section
variable {prog:Program} {w:World} {A:Around} {E:Value→Shared→Prop} {s:Shared}
end
section
variable {X:Cx} {pos:Pos}
end
section
variable {X:Cx}
end
section
variable {prog:Program} {w:World} {A:Around} {E:Value→Shared→Prop} {s:Shared}
end
section
variable {X:Cx}
end
end L2
namespace My
open PySem L2
open PySem.W (Dat kqdP kqdPs kqdOk)
structure zaq where
 ins:Int
 gates:List (Str×List Int)
 outs:List Int
noncomputable def zbn (kind:Str) (n:Nat):Prop:=((kind="and"∨kind="or"∨kind="odd")∧2≤n∧n≤4)∨(kind="not"∧n=1)∨(kind="choose"∧n=3)∨((kind="zero"∨kind="one")∧n=0)
structure WF (most:Nat) (w:zaq):Prop where
 i1: 1≤w.ins
 i6:w.ins≤6
 few:w.gates.length≤most
 legs:∀ (k:Nat) g,w.gates[k]? =some g→zbn g.1 g.2.length∧∀ l∈g.2,0≤l∧l < w.ins+k
 o1: 1≤w.outs.length
 o3:w.outs.length≤most+20
 outs:∀ o∈w.outs,0≤o∧o < w.ins+w.gates.length
noncomputable def zkx (g:Str×List Int):Dat:=.tuple [.str g.1,.tuple (g.2.map .int)]
noncomputable def zbt (w:zaq):Dat:=.tuple [.int w.ins,.list (w.gates.map zkx),.list (w.outs.map .int)]
theorem zbn.le {k:Str}{n:Nat}(h:zbn k n):n≤4:=by
 unfold zbn at h
 omega
noncomputable def zn8 (i b:Int):Dat:=.tuple [.str "wire",.int i,.int b]
noncomputable def legF (k i b:Int):Dat:=.tuple [.str "leg",.int k,.int i,.int b]
noncomputable def zlx:Nat→List Dat
 | 0=>[]
 | n+1=>zlx n++ [zn8 n 0,zn8 n 1]
noncomputable def zox (k:Int):Nat→List Dat
 | 0=>[]
 | n+1=>zox k n++ [legF k n 0,legF k n 1]
noncomputable def zk4 (gs:List (Str×List Int)):Nat→List Dat
 | 0=>[]
 | n+1=>zk4 gs n++zox n ((gs[n]?.map fun g=>g.2.length).getD 0)
noncomputable def zdO (w:zaq):List Dat:=zlx (w.ins.toNat+w.gates.length)++zk4 w.gates w.gates.length
noncomputable def zms (i:Int):List Dat:=[.str "wire",.int i]
noncomputable def legP (k i:Int):List Dat:=[.str "leg",.int k,.int i]
noncomputable def zc7:Nat→List (List Dat)
 | 0=>[]
 | n+1=>zc7 n++ [zms n]
noncomputable def zfE (k:Int):Nat→List (List Dat)
 | 0=>[]
 | n+1=>zfE k n++ [legP k n]
noncomputable def zcR (gs:List (Str×List Int)):Nat→List (List Dat)
 | 0=>[]
 | n+1=>zcR gs n++zfE n ((gs[n]?.map fun g=>g.2.length).getD 0)
noncomputable def zeA (ps:List (List Dat)):List Dat:=ps.flatMap fun p=>[.tuple (p++ [.int 0]),.tuple (p++ [.int 1])]
theorem zbU (a b:List (List Dat)):zeA (a++b)=zeA a++zeA b:=by unfold zeA;rw [vX]
theorem zfs (p:List Dat):zeA [p]= [.tuple (p++ [.int 0]),.tuple (p++ [.int 1])]:=by unfold zeA;simp
theorem zg2:∀ n,zeA (zc7 n)=zlx n
 | 0=>rfl
 | n+1=>by rw [zc7,zbU,zg2 n,zfs,zlx];rfl
theorem zhU (k:Int):∀ n,zeA (zfE k n)=zox k n
 | 0=>rfl
 | n+1=>by rw [zfE,zbU,zhU k n,zfs,zox];rfl
theorem zgC (gs:List (Str×List Int)):∀ n,zeA (zcR gs n)=zk4 gs n
 | 0=>rfl
 | n+1=>by rw [zcR,zbU,zgC gs n,zhU,zk4]
noncomputable def zbd (w:zaq):List (List Dat):=zc7 (w.ins.toNat+w.gates.length)++zcR w.gates w.gates.length
theorem zcP (w:zaq):zeA (zbd w)=zdO w:=by unfold zbd zdO;rw [zbU,zg2,zgC]
theorem zcH:∀ n,(zc7 n).length=n
 | 0=>rfl
 | n+1=>by rw [zc7,yJ,zcH n];simp
theorem zfx (k:Int):∀ n,(zfE k n).length=n
 | 0=>rfl
 | n+1=>by rw [zfE,yJ,zfx k n];simp
theorem zoS {m:Nat}{w:zaq}(h:WF m w)(n:Nat):(w.gates[n]?.map fun g=>g.2.length).getD 0≤4:=by
 cases e:w.gates[n]? with
 | none=>simp
 | some g=>simpa using (h.legs n g e).1.le
theorem zdu {m:Nat}{w:zaq}(h:WF m w):∀ n,(zcR w.gates n).length≤4 * n
 | 0=>qL _
 | n+1=>by
  have:=zdu h n
  have:=zoS h n
  rw [zcR,yJ,zfx]
  omega
theorem zhj:∀ ps:List (List Dat),(zeA ps).length=2 * ps.length
 | []=>rfl
 | p::r=>by
  show (zeA ([p]++r)).length=_
  rw [zbU,zfs,yJ,zhj r]
  simp
  omega
theorem zhH:∀ n p,p∈zc7 n→∃ i,p=zms i
 | 0,p,h=>nomatch h
 | n+1,p,h=>by
  rw [zc7] at h
  rcases yU.mp h with h | h
  ·exact zhH n p h
  ·exact ⟨_,yE.mp h⟩
theorem zi7 (k:Int):∀ n p,p∈zfE k n→∃ i,p=legP k i
 | 0,p,h=>nomatch h
 | n+1,p,h=>by
  rw [zfE] at h
  rcases yU.mp h with h | h
  ·exact zi7 k n p h
  ·exact ⟨_,yE.mp h⟩
theorem zhM (gs:List (Str×List Int)):∀ n p,p∈zcR gs n→∃ k i,p=legP k i
 | 0,p,h=>nomatch h
 | n+1,p,h=>by
  rw [zcR] at h
  rcases yU.mp h with h | h
  ·exact zhM gs n p h
  ·obtain ⟨i,e⟩:=zi7 _ _ p h
   exact ⟨_,i,e⟩
theorem zfI {w:zaq}{p:List Dat}(h:p∈zbd w):(∃ i,p=zms i)∨∃ k i,p=legP k i:=by
 unfold zbd at h
 rcases yU.mp h with h | h
 ·exact .inl (zhH _ p h)
 ·exact .inr (zhM _ _ p h)
theorem znk {w:zaq}{i:Nat}(h:(zbd w)[i]? =some []):False:=by
 rcases zfI (yH h) with ⟨_,e⟩ | ⟨_,_,e⟩ <;> cases e
theorem zmZ {w:zaq}{i:Nat}{p:List Dat}(h:(zbd w)[i]? =some p):p.length≤3:=by
 rcases zfI (yH h) with ⟨_,e⟩ | ⟨_,_,e⟩ <;> (rw [e];simp [zms,legP])
theorem zl1 {w:zaq}{d:Dat}(h:d∈zdO w):(∃ i b,d=zn8 i b)∨∃ k i b,d=legF k i b:=by
 rw [← zcP] at h
 unfold zeA at h
 obtain ⟨p,hp,hd⟩:=wC.mp h
 rcases zfI hp with ⟨i,e⟩ | ⟨k,i,e⟩
 ·left
  rw [e] at hd
  rcases yR.mp hd with e1 | hd
  ·exact ⟨i,0,e1⟩
  ·exact ⟨i,1,yE.mp hd⟩
 ·right
  rw [e] at hd
  rcases yR.mp hd with e1 | hd
  ·exact ⟨k,i,0,e1⟩
  ·exact ⟨k,i,1,yE.mp hd⟩
theorem zia {w:zaq}{d:Dat}(n:Nat)(h:d∈zdO w):kqdOk (n+1) d=true:=by
 rcases zl1 h with ⟨i,b,e⟩ | ⟨k,i,b,e⟩
 ·rw [e]
  have:yb0 "wire" =true:=by decide+kernel
  cases n <;> simp [zn8,kqdOk,this]
 ·rw [e]
  have:yb0 "leg" =true:=by decide+kernel
  cases n <;> simp [legF,kqdOk,this]
theorem zkJ (n:Nat)(ns:List Int):(ns.map Dat.int).all (kqdOk n)=true:=by
 refine yZ.mpr fun d h=>?_
 obtain ⟨i,_,rfl⟩:=yY.mp h
 cases n <;> rfl
theorem zbr {K:PySem.W.Frag}{H:Hp}{w:zaq}{x:V}(h:Rep K H x (zbt w)):
  ∃ a ga oa gs os,x= .ref a∧SqT K H a [.int w.ins,.ref ga,.ref oa]∧SqL K H ga gs∧SqL K H oa os∧Reps K H gs (w.gates.map zkx)∧Reps K H os (w.outs.map .int):=by
 unfold zbt at h
 cases h with
 | tup ha r=>
  cases r with
  | cons r1 r=>
   cases r with
   | cons r2 r=>
    cases r with
    | cons r3 r=>
     cases r
     cases r1
     cases r2 with
     | lst hg rg=>
      cases r3 with
      | lst ho ro=>exact ⟨_,_,_,_,_,rfl,ha,hg,ho,rg,ro⟩
theorem zgL {K:PySem.W.Frag}{H:Hp}{g:Str×List Int}{x:V}(h:Rep K H x (zkx g)):
  ∃ a la,x= .ref a∧SqT K H a [.str g.1,.ref la]∧SqT K H la (g.2.map V.int):=by
 unfold zkx at h
 cases h with
 | tup ha r=>
  cases r with
  | cons r1 r=>
   cases r with
   | cons r2 r=>
    cases r
    cases r1
    cases r2 with
    | tup hl rl=>
     have e:∀ (xs:List V) (ns:List Int),Reps K H xs (ns.map Dat.int)→xs=ns.map V.int:=by
      intro xs ns
      induction ns generalizing xs with
      | nil=>intro z;cases z;rfl
      | cons m r ih=>
       intro z
       cases z with
       | cons z1 z2=>
        cases z1
        rw [ih _ z2]
        rfl
     rw [e _ _ rl] at hl
     exact ⟨_,_,rfl,ha,hl⟩
end My
namespace My
open PySem L2
noncomputable def Bits (ns:List Int):Prop:=∀ n∈ns,n=0∨n=1
noncomputable def zbs (x:Str) (ns:List Int):Int:=
 if x="and" then (if ns.all (· ==1)=true then 1 else 0)
 else if x="or" then (if ns.any (· ==1)=true then 1 else 0)
 else if x="odd" then ns.sum % 2
 else if x="not" then 1 - ns.getD 0 0
 else if x="choose" then (if ns.getD 0 0=1 then ns.getD 1 0 else ns.getD 2 0)
 else if x="one" then 1 else 0
theorem n_oa:("or" :Str)≠"and" :=by decide+kernel
theorem n_da:("odd" :Str)≠"and" :=by decide+kernel
theorem n_do:("odd" :Str)≠"or" :=by decide+kernel
theorem n_na:("not" :Str)≠"and" :=by decide+kernel
theorem n_no:("not" :Str)≠"or" :=by decide+kernel
theorem n_nd:("not" :Str)≠"odd" :=by decide+kernel
theorem n_ca:("choose" :Str)≠"and" :=by decide+kernel
theorem n_co:("choose" :Str)≠"or" :=by decide+kernel
theorem n_cd:("choose" :Str)≠"odd" :=by decide+kernel
theorem n_cn:("choose" :Str)≠"not" :=by decide+kernel
theorem n_za:("zero" :Str)≠"and" :=by decide+kernel
theorem n_zo:("zero" :Str)≠"or" :=by decide+kernel
theorem n_zd:("zero" :Str)≠"odd" :=by decide+kernel
theorem n_zn:("zero" :Str)≠"not" :=by decide+kernel
theorem n_zc:("zero" :Str)≠"choose" :=by decide+kernel
theorem n_z1:("zero" :Str)≠"one" :=by decide+kernel
theorem n_1a:("one" :Str)≠"and" :=by decide+kernel
theorem n_1o:("one" :Str)≠"or" :=by decide+kernel
theorem n_1d:("one" :Str)≠"odd" :=by decide+kernel
theorem n_1n:("one" :Str)≠"not" :=by decide+kernel
theorem n_1c:("one" :Str)≠"choose" :=by decide+kernel
theorem zgA (ns:List Int):zbs "and" ns=if ns.all (· ==1)=true then 1 else 0:=by unfold zbs;rw [if_pos rfl]
theorem zkM (ns:List Int):zbs "or" ns=if ns.any (· ==1)=true then 1 else 0:=by unfold zbs;rw [if_neg n_oa,if_pos rfl]
theorem zg0 (ns:List Int):zbs "odd" ns=ns.sum % 2:=by unfold zbs;rw [if_neg n_da,if_neg n_do,if_pos rfl]
theorem znG (ns:List Int):zbs "not" ns=1 - ns.getD 0 0:=by unfold zbs;rw [if_neg n_na,if_neg n_no,if_neg n_nd,if_pos rfl]
theorem zg3 (ns:List Int):zbs "choose" ns=if ns.getD 0 0=1 then ns.getD 1 0 else ns.getD 2 0:=by unfold zbs;rw [if_neg n_ca,if_neg n_co,if_neg n_cd,if_neg n_cn,if_pos rfl]
theorem zkE (ns:List Int):zbs "zero" ns=0:=by unfold zbs;rw [if_neg n_za,if_neg n_zo,if_neg n_zd,if_neg n_zn,if_neg n_zc,if_neg n_z1]
theorem znQ (ns:List Int):zbs "one" ns=1:=by unfold zbs;rw [if_neg n_1a,if_neg n_1o,if_neg n_1d,if_neg n_1n,if_neg n_1c,if_pos rfl]
theorem za9 {ns:List Int}(b:Bits ns){i:Nat}(h:i < ns.length):ns.getD i 0=0∨ns.getD i 0=1:=by
 rw [yL,yC h]
 exact b _ (jC h)
theorem zcT {x:Str}{ns:List Int}(b:Bits ns)(h:zbn x ns.length):zbs x ns=0∨zbs x ns=1:=by
 rcases h with ⟨h | h | h,l1,l2⟩ | ⟨h,l1⟩ | ⟨h,l1⟩ | ⟨h | h,l1⟩
 ·rw [h,zgA];split <;> simp
 ·rw [h,zkM];split <;> simp
 ·rw [h,zg0];omega
 ·rw [h,znG]
  have:=za9 b (i:=0) (by omega)
  omega
 ·rw [h,zg3]
  split
  ·exact za9 b (i:=1) (by omega)
  ·exact za9 b (i:=2) (by omega)
 ·rw [h,zkE];simp
 ·rw [h,znQ];simp
noncomputable def zbZ (gs:List (Str×List Int)) (row:List Int):Nat→List Int
 | 0=>row
 | n+1=>zbZ gs row n++ [match gs[n]? with
   | some g=>zbs g.1 (g.2.map fun l=>(zbZ gs row n).getD l.toNat 0)
   | none=>0]
theorem zdi (gs:List (Str×List Int))(row:List Int):∀ n,(zbZ gs row n).length=row.length+n
 | 0=>rfl
 | n+1=>by rw [zbZ,yJ,zdi gs row n];simp;omega
theorem zdU {m:Nat}{w:zaq}{row:List Int}(wf:WF m w)(hl:(row.length:Int)=w.ins)(b:Bits row):∀ n,n≤w.gates.length→Bits (zbZ w.gates row n)
 | 0,_=>b
 | n+1,h=>by
  have ih:=zdU wf hl b n (by omega)
  obtain ⟨g,hg⟩:∃ g,w.gates[n]? =some g:=⟨_,yC (by omega)⟩
  rw [zbZ,hg]
  intro z hz
  rcases yU.mp hz with hz | hz
  ·exact ih z hz
  ·rw [yE.mp hz]
   obtain ⟨l1,l2⟩:=wf.legs n g hg
   refine zcT (fun y hy=>?_) (by rw [yB];exact l1)
   obtain ⟨l,hl',rfl⟩:=yY.mp hy
   have:=l2 l hl'
   exact za9 ih (by rw [zdi];omega)
theorem ifY {x y:Str}{A B:Prop}(h:x=y)(a:A):if (decide (V.str x=V.str y))=true then A else B:=by rw [if_pos (decide_eq_true (by rw [h]))];exact a
theorem ifN {x y:Str}{A B:Prop}(h:x≠y)(b:B):if (decide (V.str x=V.str y))=true then A else B:=by rw [if_neg (by rw [decide_eq_true_eq];intro z;exact h (V.str.inj z))];exact b
theorem zbQ {ns:List Int}{i:Int}(h0: 0≤i)(h1:i < ns.length):atI (ns.map V.int) i=some (.int (ns.getD i.toNat 0)):=by
 have e:i=((i.toNat:Nat):Int):=by omega
 have hk:i.toNat < ns.length:=by omega
 have q:atI (ns.map V.int) ((i.toNat:Nat):Int)=some (.int ns[i.toNat]):=zb7 (by rw [yG,yC hk] <;> rfl)
 rw [← e] at q
 rw [q,yL,yC hk]
 rfl
open PySem.W (Dat kqdP kqdPs kqdOk)
noncomputable def zaQ:Nat→List (List Int)
 | 0=>[[]]
 | n+1=>(zaQ n).map (0:: ·)++(zaQ n).map (1:: ·)
theorem zbe:∀ n,(zaQ n).length=2 ^ n
 | 0=>rfl
 | n+1=>by rw [zaQ,yJ,yB,yB,zbe n,yaE];omega
theorem zb4:∀ n r,r∈zaQ n→r.length=n∧Bits r
 | 0,r,h=>by
  rw [yE.mp h]
  exact ⟨rfl,fun _ z=>nomatch z⟩
 | n+1,r,h=>by
  rcases yU.mp h with h | h
  ·obtain ⟨u,hu,rfl⟩:=yY.mp h
   obtain ⟨a,b⟩:=zb4 n u hu
   exact ⟨by rw [qY,a],fun z hz=>by
    rcases yR.mp hz with e | e
    ·exact .inl e
    ·exact b z e⟩
  ·obtain ⟨u,hu,rfl⟩:=yY.mp h
   obtain ⟨a,b⟩:=zb4 n u hu
   exact ⟨by rw [qY,a],fun z hz=>by
    rcases yR.mp hz with e | e
    ·exact .inr e
    ·exact b z e⟩
theorem zlh {n:Nat}(h:n≤6):(zaQ n).length≤64:=by
 rw [zbe]
 exact jT (n:=2) (by decide) h
noncomputable def rowD (r:List Int):Dat:=.list (r.map .int)
inductive At (H:Hp):List Addr→List (List Int)→Prop
 | nil:At H [] []
 | cons {q:Addr} {r:List Int} {qs:List Addr} {rs:List (List Int)}:H q=some (.lst (r.map V.int))→At H qs rs→At H (q::qs) (r::rs)
section
variable {K:PySem.W.Frag} {H H':Hp} {qs qs':List Addr} {rs rs':List (List Int)}
theorem At.mono (s:Same H H')(h:At H qs rs):At H' qs rs:=by
 induction h with
 | nil=>exact .nil
 | cons e _ ih=>exact .cons (s _ _ e) ih
theorem At.append (h:At H qs rs)(h':At H qs' rs'):At H (qs++qs') (rs++rs'):=by
 induction h with
 | nil=>exact h'
 | cons e _ ih=>exact .cons e ih
theorem At.len (h:At H qs rs):qs.length=rs.length:=by
 induction h with
 | nil=>rfl
 | cons e _ ih=>rw [qY,qY,ih]
theorem At.get (h:At H qs rs):∀ {i:Nat} {q:Addr},qs[i]? =some q→∃ r,rs[i]? =some r∧H q=some (.lst (r.map V.int)):=by
 induction h with
 | nil=>intro i q e;cases e
 | cons e _ ih=>
  intro i q z
  cases i with
  | zero=>cases z;exact ⟨_,rfl,e⟩
  | succ i=>exact ih z
theorem At.here (h:At H qs rs){q:Addr}(m:q∈qs):∃ r∈rs,H q=some (.lst (r.map V.int)):=by
 obtain ⟨i,hi⟩:=jQ m
 obtain ⟨r,a,b⟩:=h.get hi
 exact ⟨r,yH a,b⟩
theorem At.write {p:Addr}{o:HO}(n:p∉qs)(h:At H qs rs):At (upd H p o) qs rs:=by
 induction h with
 | nil=>exact .nil
 | cons e _ ih=>
  refine .cons ?_ (ih fun z=>n (.tail _ z))
  rename_i q0 _ _ _ _
  have hne:q0≠p:=fun z=>n (by rw [z];exact .head _)
  rw [zai hne]
  exact e
end
structure Rows (H0:Hp) (R:Addr) (qs:List Addr) (rs:List (List Int)) (H:Hp):Prop where
 same:Same H0 H
 out:H0 R=none
 at_:H R=some (.lst (qs.map V.ref))
 rows:At H qs rs
 nd:qs.Nodup
 new:∀ q∈qs,H0 q=none∧q≠R
section
variable {K:PySem.W.Frag} {H0 H H1 H2:Hp} {R D D1 D2 T q:Addr} {qs qs1 qs2:List Addr} {rs rs1 rs2:List (List Int)}
theorem Rows.start (s:Same H0 H)(h:H D=none):Rows H0 D [] [] (upd H D (.lst [])):=⟨s.upd h _,s.free h,zab,.nil,.nil,fun _ z=>nomatch z⟩
theorem Rows.sq (b:Rows H0 R qs rs H):SqL K H R (qs.map V.ref):=.of b.at_
theorem Rows.push {o:HO}{r:List Int}{vs:List V}(b:Rows H0 D qs rs H)(hT:H T=none)(hq:upd H T o q=none)(e:vs=r.map V.int):
  Rows H0 D (qs++ [q]) (rs++ [r]) (upd (upd (upd H T o) q (.lst vs)) D (.lst (qs.map V.ref++ [.ref q]))):=by
 subst e
 have s1:Same H (upd (upd H T o) q (.lst (r.map V.int))):=(zad hT _).upd hq _
 have q0:H q=none:=(zad hT o).free hq
 have qD:q≠D:=jL (zam b.at_ q0)
 have nq:q∉qs:=fun z=>by
  obtain ⟨r,_,e⟩:=b.rows.here z
  rw [q0] at e
  cases e
 refine ⟨(b.same.trans s1).write b.out _,b.out,by rw [zab,yK];rfl,?_,?_,fun z hz=>?_⟩
 ·refine At.write (fun z=>?_) (At.append (b.rows.mono s1) (.cons zab .nil))
  rcases yU.mp z with z | z
  ·exact (b.new D z).2 rfl
  ·exact qD (yE.mp z).symm
 ·refine jG.mpr ⟨b.nd,xR.mpr ⟨(fun z=>nomatch z),xL⟩,fun x hx y hy e=>?_⟩
  rw [yE.mp hy] at e
  exact nq (e ▸ hx)
 ·rcases yU.mp hz with hz | hz
  ·exact b.new z hz
  ·rw [yE.mp hz]
   exact ⟨b.same.free q0,qD⟩
theorem Rows.cat (a:Rows H0 D1 qs1 rs1 H1)(b:Rows H1 D2 qs2 rs2 H2)(h:H2 R=none):Rows H0 R (qs1++qs2) (rs1++rs2) (upd H2 R (.lst (qs1.map V.ref++qs2.map V.ref))):=by
 have s:=a.same.trans b.same
 have t:At H2 (qs1++qs2) (rs1++rs2):=(a.rows.mono b.same).append b.rows
 refine ⟨s.upd h _,s.free h,by rw [zab,yK],t.mono (zad h _),?_,fun q hq=>?_⟩
 ·refine jG.mpr ⟨a.nd,b.nd,fun x hx y hy e=>?_⟩
  subst e
  obtain ⟨r,_,e⟩:=a.rows.here hx
  rw [(b.new x hy).1] at e
  cases e
 ·refine ⟨?_,fun e=>?_⟩
  ·rcases yU.mp hq with hq | hq
   ·exact (a.new q hq).1
   ·exact a.same.free (b.new q hq).1
  ·obtain ⟨r,_,z⟩:=t.here hq
   rw [e,h] at z
   cases z
end
theorem zee {K:PySem.W.Frag}{H:Hp}:∀ {xs:List V} {ns:List Int},Reps K H xs (ns.map Dat.int)→xs=ns.map V.int
 | _,[],h=>by cases h;rfl
 | _,n::ns,h=>by
  cases h with
  | cons h1 h2=>
   cases h1
   rw [zee h2]
   rfl
noncomputable def zbL (w:zaq) (ws:List Int):List Int:=w.outs.map fun o=>ws.getD o.toNat 0
theorem zbX (rs:List (List Int)):kqdOk 8 (.list (rs.map rowD))=true:=by
 show (rs.map rowD).all (kqdOk 7)=true
 refine yZ.mpr fun d hd=>?_
 obtain ⟨r,_,rfl⟩:=yY.mp hd
 exact zkJ 6 r
theorem ziD {r:List Int}{rs:List (List Int)}{j:Nat}(f:List Int→List Int)(h:rs[j]? =some r):(rs.take (j+1)).map f=(rs.take j).map f++ [f r]:=by
 rw [yO,h,yK]
 rfl
end My
namespace My
open PySem L2
open PySem.W (Dat kqdP kqdPs kqdOk)
theorem zdy (ns:List Int):kqdOk 8 (.list (ns.map Dat.int))=true:=zkJ 7 ns
end My
namespace My
open PySem L2
open PySem.W (Dat kqdP kqdPs kqdOk)
structure Flt where
 place:List Key
 worth:Int
noncomputable def kD:Key→Dat
 | .inl n=>.int n
 | .inr s=>.str s
noncomputable def fltD (f:Flt):Dat:=.tuple (f.place.map kD++ [.int f.worth])
noncomputable def zbk (i:Int):List Key:=[Sum.inr "wire",Sum.inl i]
noncomputable def legK (k i:Int):List Key:=[Sum.inr "leg",Sum.inl k,Sum.inl i]
noncomputable def zdr:Nat→List (List Key)
 | 0=>[]
 | n+1=>zdr n++ [zbk n]
noncomputable def zic (k:Int):Nat→List (List Key)
 | 0=>[]
 | n+1=>zic k n++ [legK k n]
noncomputable def zeF (gs:List (Str×List Int)):Nat→List (List Key)
 | 0=>[]
 | n+1=>zeF gs n++zic n ((gs[n]?.map fun g=>g.2.length).getD 0)
noncomputable def zbF (w:zaq):List (List Key):=zdr (w.ins.toNat+w.gates.length)++zeF w.gates w.gates.length
theorem ziE:∀ n,(zdr n).map (·.map kD)=zc7 n
 | 0=>rfl
 | n+1=>by rw [zdr,yK,ziE n,zc7];rfl
theorem zkN (k:Int):∀ n,(zic k n).map (·.map kD)=zfE k n
 | 0=>rfl
 | n+1=>by rw [zic,yK,zkN k n,zfE];rfl
theorem ziO (gs:List (Str×List Int)):∀ n,(zeF gs n).map (·.map kD)=zcR gs n
 | 0=>rfl
 | n+1=>by rw [zeF,yK,ziO gs n,zcR,zkN]
theorem zfa (w:zaq):(zbF w).map (·.map kD)=zbd w:=by unfold zbF zbd;rw [yK,ziE,ziO]
theorem zew:∀ {n:Nat} {p:List Key},p∈zdr n→∃ i:Nat,i < n∧p=zbk i
 | n+1,p,h=>by
  rcases yU.mp h with h | h
  ·obtain ⟨i,a,b⟩:=zew h
   exact ⟨i,by omega,b⟩
  ·exact ⟨n,by omega,yE.mp h⟩
theorem zfo {k:Int}:∀ {n:Nat} {p:List Key},p∈zic k n→∃ i:Nat,i < n∧p=legK k i
 | n+1,p,h=>by
  rcases yU.mp h with h | h
  ·obtain ⟨i,a,b⟩:=zfo h
   exact ⟨i,by omega,b⟩
  ·exact ⟨n,by omega,yE.mp h⟩
theorem zey {gs:List (Str×List Int)}:∀ {n:Nat} {p:List Key},p∈zeF gs n→∃ k i:Nat,k < n∧i < ((gs[k]?.map fun g=>g.2.length).getD 0)∧p=legK k i
 | n+1,p,h=>by
  rcases yU.mp h with h | h
  ·obtain ⟨k,i,a,b,c⟩:=zey h
   exact ⟨k,i,by omega,b,c⟩
  ·obtain ⟨i,a,b⟩:=zfo h
   exact ⟨n,i,by omega,a,b⟩
theorem znM {i j:Int}(h:zbk i=zbk j):i=j:=by
 unfold zbk at h
 injection h with _ h
 injection h with h
 exact ybf h
theorem zh4 {k l i j:Int}(h:legK k i=legK l j):k=l∧i=j:=by
 unfold legK at h
 injection h with _ h
 injection h with h1 h
 injection h with h
 exact ⟨ybf h1,ybf h⟩
theorem zlm {i k j:Int}(h:zbk i=legK k j):False:=by
 have:=congrArg vI h
 exact absurd this (by show ¬(2:Nat)=3;decide)
theorem zhG {α :Type}{xs:List α}{x: α}(h:xs.Nodup)(n:x∉xs):(xs++ [x]).Nodup:=
 jG.mpr ⟨h,xR.mpr ⟨(fun z=>nomatch z),xL⟩,fun a ha b hb e=>n (by rw [← yE.mp hb,← e];exact ha)⟩
theorem ziZ:∀ n,(zdr n).Nodup
 | 0=>xL
 | n+1=>zhG (ziZ n) fun h=>by
  obtain ⟨i,a,b⟩:=zew h
  have:=znM b
  omega
theorem zlw (k:Int):∀ n,(zic k n).Nodup
 | 0=>xL
 | n+1=>zhG (zlw k n) fun h=>by
  obtain ⟨i,a,b⟩:=zfo h
  have:=(zh4 b).2
  omega
theorem zjZ (gs:List (Str×List Int)):∀ n,(zeF gs n).Nodup
 | 0=>xL
 | n+1=>jG.mpr ⟨zjZ gs n,zlw _ _,fun a ha b hb e=>by
  obtain ⟨k,i,h1,_,h2⟩:=zey ha
  obtain ⟨j,_,h3⟩:=zfo hb
  have:=(zh4 (h2.symm.trans (e.trans h3))).1
  omega⟩
theorem zlG (w:zaq):(zbF w).Nodup:=jG.mpr ⟨ziZ _,zjZ _ _,fun a ha b hb e=>by
 obtain ⟨i,_,h1⟩:=zew ha
 obtain ⟨k,j,_,_,h2⟩:=zey hb
 exact zlm (h1.symm.trans (e.trans h2))⟩
noncomputable def zfc (w:zaq) (f:Flt):Prop:=f.place∈zbF w∧(f.worth=0∨f.worth=1)
theorem zib {w:zaq}{f:Flt}(h:zfc w f):fltD f∈zdO w:=by
 rw [← zcP,← zfa]
 unfold zeA
 refine wC.mpr ⟨f.place.map kD,yY.mpr ⟨_,h.1,rfl⟩,?_⟩
 unfold fltD
 rcases h.2 with e | e
 ·rw [e];exact .head _
 ·rw [e];exact .tail _ (.head _)
noncomputable def zdh (fs:List Flt):Prop:=(fs.map (·.place)).Nodup
noncomputable def tabV (fs:List Flt):List (List Key×V):=fs.map fun f=>(f.place,V.int f.worth)
noncomputable def look (fs:List Flt) (p:List Key):Option Int:=(fs.find? fun f=>decide (f.place=p)).map (·.worth)
noncomputable def pick (fs:List Flt) (p:List Key) (v:Int):Int:=(look fs p).getD v
theorem zfF (p:List Key):∀ fs:List Flt,valV (tabV fs) p=(look fs p).map V.int
 | []=>rfl
 | f::fs=>by
  show valV ((f.place,V.int f.worth)::tabV fs) p=_
  unfold look
  by_cases e:f.place=p
  ·rw [zdC e,wE (by simpa using e)]
   rfl
  ·rw [zcl e,yav (by simpa using e),zfF p fs]
   rfl
theorem ziL (fs:List Flt)(p:List Key)(v:Int):(valV (tabV fs) p).getD (.int v)= .int (pick fs p v):=by
 rw [zfF]
 unfold pick
 cases look fs p <;> rfl
theorem zj4 {fs:List Flt}{p:List Key}(h:p∉fs.map (·.place)):look fs p=none:=by
 unfold look
 rw [vO.mpr]
 ·rfl
 ·intro f hf z
  exact h (yY.mpr ⟨f,hf,of_decide_eq_true z⟩)
theorem zor {fs:List Flt}{p:List Key}{b:Int}(h:look fs p=some b):⟨p,b⟩∈fs:=by
 unfold look at h
 obtain ⟨f,hf,rfl⟩:=kA.mp h
 have e0:=List.find?_some hf
 have e:f.place=p:=by simpa using e0
 rw [← e]
 exact wV hf
theorem zgw {fs:List Flt}{p:List Key}{v:Int}(hb:∀ f∈fs,f.worth=0∨f.worth=1)(hv:v=0∨v=1):pick fs p v=0∨pick fs p v=1:=by
 unfold pick
 cases e:look fs p with
 | none=>exact hv
 | some b=>exact hb _ (zor e)
noncomputable def zb8 (fs:List Flt) (k:Int) (ns:List Int):List Int:=ns.mapIdx fun i v=>pick fs (legK k i) v
noncomputable def rowS (fs:List Flt) (ns:List Int):List Int:=ns.mapIdx fun i v=>pick fs (zbk i) v
noncomputable def zaB (fs:List Flt) (gs:List (Str×List Int)) (row:List Int):Nat→List Int
 | 0=>rowS fs row
 | n+1=>zaB fs gs row n++ [pick fs (zbk ((row.length+n:Nat):Int)) (match gs[n]? with
   | some g=>zbs g.1 (zb8 fs n (g.2.map fun l=>(zaB fs gs row n).getD l.toNat 0))
   | none=>0)]
theorem zir (fs:List Flt)(ns:List Int):(rowS fs ns).length=ns.length:=by unfold rowS;rw [wH]
theorem zd9 (fs:List Flt)(k:Int)(ns:List Int):(zb8 fs k ns).length=ns.length:=by unfold zb8;rw [wH]
theorem zmM (fs:List Flt)(ns:List Int)(v:Int):rowS fs (ns++ [v])=rowS fs ns++ [pick fs (zbk ns.length) v]:=by unfold rowS;rw [yao]
theorem zlH (fs:List Flt)(k:Int)(ns:List Int)(v:Int):zb8 fs k (ns++ [v])=zb8 fs k ns++ [pick fs (legK k ns.length) v]:=by unfold zb8;rw [yao]
theorem zbx (fs:List Flt)(gs:List (Str×List Int))(row:List Int):∀ n,(zaB fs gs row n).length=row.length+n
 | 0=>zir fs row
 | n+1=>by rw [zaB,yJ,zbx fs gs row n];simp;omega
theorem zm4 {fs:List Flt}(hb:∀ f∈fs,f.worth=0∨f.worth=1){ns:List Int}(b:Bits ns):Bits (rowS fs ns):=by
 intro z hz
 unfold rowS at hz
 obtain ⟨i,h,e⟩:=vM.mp hz
 rw [← e]
 exact zgw hb (b _ (jC h))
theorem zfM {fs:List Flt}(hb:∀ f∈fs,f.worth=0∨f.worth=1){k:Int}{ns:List Int}(b:Bits ns):Bits (zb8 fs k ns):=by
 intro z hz
 unfold zb8 at hz
 obtain ⟨i,h,e⟩:=vM.mp hz
 rw [← e]
 exact zgw hb (b _ (jC h))
theorem zb9 {fs:List Flt}(hb:∀ f∈fs,f.worth=0∨f.worth=1){m:Nat}{w:zaq}{row:List Int}(wf:WF m w)(hl:(row.length:Int)=w.ins)(b:Bits row):∀ n,n≤w.gates.length→Bits (zaB fs w.gates row n)
 | 0,_=>zm4 hb b
 | n+1,h=>by
  have ih:=zb9 hb wf hl b n (by omega)
  obtain ⟨g,hg⟩:∃ g,w.gates[n]? =some g:=⟨_,yC (by omega)⟩
  rw [zaB,hg]
  intro z hz
  rcases yU.mp hz with hz | hz
  ·exact ih z hz
  ·rw [yE.mp hz]
   obtain ⟨l1,l2⟩:=wf.legs n g hg
   refine zgw hb (zcT (zfM hb fun y hy=>?_) (by rw [zd9,yB];exact l1))
   obtain ⟨l,hl',rfl⟩:=yY.mp hy
   have:=l2 l hl'
   exact za9 ih (by rw [zbx];omega)
theorem zk6 (p:List Key)(v:Int):pick [] p v=v:=rfl
theorem zoB (ns:List Int):rowS [] ns=ns:=by
 unfold rowS
 refine jM fun i=>?_
 rw [qZ]
 cases ns[i]? <;> rfl
theorem zjK (k:Int)(ns:List Int):zb8 [] k ns=ns:=by
 unfold zb8
 refine jM fun i=>?_
 rw [qZ]
 cases ns[i]? <;> rfl
theorem zfW (gs:List (Str×List Int))(row:List Int):∀ n,zaB [] gs row n=zbZ gs row n
 | 0=>zoB row
 | n+1=>by
  rw [zaB,zbZ,zfW gs row n,zk6]
  cases gs[n]? with
  | none=>rfl
  | some g=>simp only [zjK]
theorem zen {K:PySem.W.Frag}{H:Hp}{b:Int}:∀ {ks:List Key} {vs:List V},Reps K H vs (ks.map kD++ [.int b])→vs=ks.map kV++ [.int b]
 | [],_,h=>by
  cases h with
  | cons h1 h2=>cases h1;cases h2;rfl
 | .inl n::ks,_,h=>by
  cases h with
  | cons h1 h2=>cases h1;rw [zen h2];rfl
 | .inr n::ks,_,h=>by
  cases h with
  | cons h1 h2=>cases h1;rw [zen h2];rfl
theorem zho {K:PySem.W.Frag}{H:Hp}{b:Int}:∀ (ks:List Key),Reps K H (ks.map kV++ [.int b]) (ks.map kD++ [.int b])
 | []=>.cons (.int _) .nil
 | .inl n::ks=>.cons (.int _) (zho ks)
 | .inr n::ks=>.cons (.str _) (zho ks)
theorem flt_at {K:PySem.W.Frag}{H:Hp}{f:Flt}{x:V}(h:Rep K H x (fltD f)):∃ a,x= .ref a∧SqT K H a (f.place.map kV++ [.int f.worth]):=by
 unfold fltD at h
 cases h with
 | tup ha r=>exact ⟨_,rfl,by rw [← zen r];exact ha⟩
theorem zdG {K:PySem.W.Frag}{H:Hp}{f:Flt}{a:Addr}(h:SqT K H a (f.place.map kV++ [.int f.worth])):Rep K H (.ref a) (fltD f):=.tup h (zho _)
theorem zil (xs:List V)(v:V):cutV (xs++ [v]) none (some (-1))=xs:=by
 have e1:HT.sIx (xs++ [v]).length 0 none=0:=rfl
 have e2:HT.sIx (xs++ [v]).length (xs++ [v]).length (some (-1))=xs.length:=by
  simp only [HT.sIx,yJ,yX]
  rw [if_pos (by decide)]
  omega
 unfold cutV
 rw [e1,e2]
 simp
theorem zk2 (xs:List V)(v:V):¬(HT.sIx (xs++ [v]).length 0 none=0∧HT.sIx (xs++ [v]).length (xs++ [v]).length (some (-1))=(xs++ [v]).length):=by
 rintro ⟨_,z⟩
 simp only [HT.sIx,yJ,yX] at z
 rw [if_pos (by decide)] at z
 omega
theorem zkq (xs:List V)(v:V):atI (xs++ [v]) (-1)=some v:=by
 unfold atI ixN
 have e:((-1:Int)+((xs++ [v]).length:Nat)).toNat=xs.length:=by rw [yJ,yX];omega
 rw [if_neg (by decide),if_pos (by rw [yJ,yX];omega),e]
 simp
end My
namespace My
open PySem L2
open PySem.W (Dat kqdP kqdPs kqdOk)
theorem zhJ (n:Nat):(zdr n).length=n:=by
 have:=congrArg vI (ziE n)
 rw [yB,zcH] at this
 exact this
theorem zig {w:zaq}{f:Flt}(n:Nat)(h:zfc w f):kqdOk (n+1) (fltD f)=true:=zia n (zib h)
theorem zoj {w:zaq}{fs:List Flt}(h:∀ f∈fs,zfc w f)(n:Nat):kqdOk (n+2) (.list (fs.map fltD))=true:=by
 show (fs.map fltD).all (kqdOk (n+1))=true
 refine yZ.mpr fun d hd=>?_
 obtain ⟨f,hf,rfl⟩:=yY.mp hd
 exact zig n (h f hf)
theorem zez {H H':Hp}(s:Same H H'){xs:List V}{kvs:List (List Key×V)}(h:zeI H xs kvs):zeI H' xs kvs:=Paired.mapP h fun _ _ ⟨p,kt,e,h1,h2⟩=>⟨p,kt,e,s _ _ h1,h2.same s⟩
theorem zgM {H:Hp}{D:Addr}{l:List V}{o:HO}(hD:H D=some (.lst l)){xs:List V}{kvs:List (List Key×V)}(h:zeI H xs kvs):zeI (upd H D o) xs kvs:=Paired.mapP h fun _ _ ⟨p,kt,e,h1,h2⟩=>
 ⟨p,kt,e,by rw [zai (zmm h1 hD (fun z=>nomatch z))];exact h1,h2.write hD⟩
theorem zka:∀ (fs gs:List Flt),zdh (gs++fs)→zef (tabV gs) (tabV fs)=tabV (gs++fs)
 | [],gs,_=>by rw [jW];rfl
 | f::fs,gs,h=>by
  have nl:look gs f.place=none:=zj4 fun z=>by
   unfold zdh at h
   rw [yK] at h
   exact (jG.mp h).2.2 _ z _ (yY.mpr ⟨f,.head _,rfl⟩) rfl
  have nv:valV (tabV gs) f.place=none:=by rw [zfF,nl];rfl
  show zef (putK (tabV gs) f.place (V.int f.worth)) (tabV fs)=_
  rw [zev _ nv]
  have e:tabV gs++ [(f.place,V.int f.worth)]=tabV (gs++ [f]):=by unfold tabV;rw [yK];rfl
  rw [e,zka fs (gs++ [f]) (by rw [xF];exact h),xF]
  rfl
end My
namespace L2
end L2
namespace My
open PySem L2
open PySem.W (Dat kqdP kqdPs kqdOk)
theorem zfk (fs:List Flt)(ws:List (Str×List Int))(row:List Int){i n:Nat}(h:i < row.length+n):∀ m,n≤m→(zaB fs ws row m)[i]? =(zaB fs ws row n)[i]?
 | 0,hm=>by
  have:n=0:=by omega
  subst this
  rfl
 | m+1,hm=>by
  by_cases e:n=m+1
  ·subst e
   rfl
  ·rw [zaB,qU (by rw [zbx];omega),zfk fs ws row h m (by omega)]
end My
namespace My
open PySem L2
open PySem.W (Dat kqdP kqdPs kqdOk)
end My
namespace My
open PySem L2
open PySem.W (Dat kqdP kqdPs kqdOk)
noncomputable abbrev Gts:=List (Str×List Int)
section
variable {ins:Int} {gl:Gts} {row:List Int} {w:Int} {x:Str} {ls:List Int}
end
section
variable {ins n0:Int} {gl:Gts} {ss:List Int} {one other b l r:Int}
end
section
variable {K:PySem.W.Frag} {M:List Addr} {m D T:Addr} {ins:Int} {gl:Gts} {G H:Hp} {o:HO}
end
end My
namespace My
open PySem L2
open PySem.W (Dat kqdP kqdPs kqdOk)
theorem look1 (p q:List Key)(b:Int):look [⟨p,b⟩] q=if p=q then some b else none:=by
 unfold look
 by_cases e:p=q
 ·rw [if_pos e,wE (by simpa using e)]
  rfl
 ·rw [if_neg e,yav (by simpa using e)]
  rfl
theorem zpr {p q:List Key}(b x:Int)(h:p≠q):pick [⟨p,b⟩] q x=x:=by
 unfold pick
 rw [look1,if_neg h]
 rfl
theorem zn0 {p:List Key}{b:Int}{k:Int}(h:∀ i:Int,p≠legK k i)(ns:List Int):zb8 [⟨p,b⟩] k ns=ns:=by
 unfold zb8
 refine jM fun i=>?_
 rw [qZ]
 cases ns[i]? with
 | none=>rfl
 | some x=>
  show some (pick _ _ _)=some x
  rw [zpr b x (h i)]
noncomputable def sh (W l:Int):Int:=l+(if W≤l then 1 else 0)
noncomputable def turned (W:Int) (g p n:Nat) (ls:List Int):List Int:=if n=g then (ls.map (sh W)).set p W else ls.map (sh W)
noncomputable def allF (w:zaq):List Flt:=(zbF w).flatMap fun p=>[⟨p,0⟩,⟨p,1⟩]
theorem zpi (w:zaq):(allF w).map fltD=zdO w:=by
 rw [← zcP,← zfa]
 unfold allF zeA
 rw [List.map_flatMap,List.flatMap_map]
 rfl
theorem zbl {w:zaq}{f:Flt}(h:f∈allF w):zfc w f:=by
 unfold allF at h
 obtain ⟨p,hp,hf⟩:=wC.mp h
 rcases yR.mp hf with rfl | hf
 ·exact ⟨hp,.inl rfl⟩
 ·rw [yE.mp hf]
  exact ⟨hp,.inr rfl⟩
theorem zlL {w:zaq}{f:Flt}(h:zfc w f):(∃ i:Nat,i < w.ins.toNat+w.gates.length∧f.place=zbk i)∨∃ g p:Nat,∃ gt,w.gates[g]? =some gt∧p < gt.2.length∧f.place=legK g p:=by
 rcases yU.mp h.1 with h | h
 ·obtain ⟨i,hi,e⟩:=zew h
  exact .inl ⟨i,hi,e⟩
 ·obtain ⟨k,i,hk,hi,e⟩:=zey h
  rw [yC hk] at hi
  exact .inr ⟨k,i,_,yC hk,hi,e⟩
end My
namespace L2
end L2
namespace L2
open PySem PySem.Spec PyProof.Rows
section
variable {P:Program} {w:World} {C:Value} {M:Model} {A:Around} {env:Env} {outer:List Env} {L:Addr} {H:Hp} {s s':Shared} {E:XK} {e:Value} {base:Heap} {E1:Value→Shared→Prop}
end
section
variable {P:Program} {w:World} {M:Model} {A:Around} {env:Env} {outer:List Env} {L C x:Addr} {H:Hp} {s:Shared} {E:XK} {base h':Heap} {E1:Value→Shared→Prop} {us:List Value}
end
section
variable {X:Cx} {C:Addr} {E:XK} {B nid iid:String} {bB:List Value} {x:Str} {np cpos pos:Pos} {e:Expr} {es:List Expr} {t:TA}
end
section
variable {P:Program} {w:World} {K:PySem.W.Frag} {mg:Str→Option Value} {base:Heap} {N:List Str} {qual:Str} {scope:Scope} {f C:Addr} {cd:Value} {A:Around} {outer:List Env} {s:Shared} {H:Hp} {E:XK}
end
section
variable {X:Cx}
end
section
variable {P:Program} {w:World} {K:PySem.W.Frag} {mg:Str→Option Value} {base:Heap}
variable {N:List Str} {qual:Str} {scope:Scope} {f C:Addr} {cd:Value} {A:Around} {outer:List Env} {s:Shared} {H:Hp} {E:XK}
end
section
variable {M:Model} {A:Around} {E:Value→Shared→Prop}
variable {nm q nm2 q2:Str} {C N S N2:Addr} {bs bm bs2 bm2:List Value} {hdct hd2:Bool} {sn sn2:List Str} {sub sub2:List Value} {ab ab2:Bool} {col col2:Option Bool} {dd dd2:Option Addr} {k0 k1 k2 k3 k5 l0 l1 l2 l3 l5:Option Value} {newId newId2:String}
end
section
variable {X:Cx} {pins:List (Addr×Obj)} {σ :St} {H:Hp} {s:Shared}
end
section
variable {X:Cx} {pins:List (Addr×Obj)} {σ :St} {H1:Hp} {s1 s':Shared} {C S:Addr} {nid nid2:String} {bB bB2:List Value} {sx n:Str} {np hpos:Pos} {b₀ :Stmt} {suite:List Stmt} {j:Nat} {ts:TS} {D:Ends} {E':XK} {e:Value}
noncomputable def D1 (D:Ends) (j:Nat):Ends:={nx:=fun σ' H'=>D.nx (σ'.set j none) H',rt:=fun _ _=>False}
end
section
variable {X:Cx} {C S f:Addr} {k:Nat} {fd:FuncData} {ps:List Str} {sp:Sp} {dvs:List V} {ds:List Value} {nid nid2:String} {bB bB2:List Value} {fx sx n:Str} {p np hpos cpos epos pos:Pos} {b₀ :Stmt} {suite:List Stmt} {j:Nat} {t:TA} {ts:TS} {e:Expr} {es:List Expr}
end
section
variable {prog:Program} {w:World} {A:Around} {E:Value→Shared→Prop} {h:Heap} {g:Array GenState} {d:Drawn} {t:Nat} {os:OsState} {a:Addr} {o:Obj} {K:PySem.W.Frag}
 {nm q:Str} {C N:Addr} {bs bm bmB:List Value} {hdct:Bool} {sn:List Str} {sub:List Value} {ab:Bool} {col:Option Bool} {dd:Option Addr} {k0 k1 k2 k3 k5:Option Value} {B newId:String}
end
section
variable {X:Cx} {C:Addr} {B nid:String} {bB:List Value}
end
noncomputable def CDivB:Int→Int→Prop:=fun _ j=>0 < j∧j < 1000000000000000000000
section
variable {X:Cx}
theorem zoh:OpR X (binaryOp .FloorDiv) (rI CDivB fun i j=>.int (i / j)):=opI fun i j _ _ _ _ _ hc q=>by
 have h1:(0:Int) < j:=hc.1
 have h2:j < 1000000000000000000000:=hc.2
 refine floordiv_int (by omega) (by rw [wP i (by omega)];exact q) (.inl (PyProof.noPylong_of_log2 ?_))
 refine qN ((Nat.log2_lt (by omega)).mpr (?_:j.natAbs < 2 ^ 70)) (by decide)
 have:(2:Nat) ^ 70=1180591620717411303424:=by decide+kernel
 omega
end
end L2
namespace My
open PySem L2
open PySem.W (Dat kqdP kqdPs kqdOk)
end My
namespace My
open PySem L2
open PySem.W (Dat kqdP kqdPs kqdOk)
noncomputable def zbo (w:zaq) (fs gs:List Flt):Option (List Int):=(zaQ w.ins.toNat).find? fun r=>decide (zbL w (zaB fs w.gates r w.gates.length)≠zbL w (zaB gs w.gates r w.gates.length))
theorem zk9 {α :Type}{p: α→Bool}{xs:List α}{i:Nat}{x: α}(h:xs[i]? =some x)(hp:p x=true)(no:∀ y∈xs.take i,p y=false):xs.find? p=some x:=by
 have e:xs=xs.take i++x::xs.drop (i+1):=by
  have h2:=yF.mp h
  rw [← h2.2]
  simp
 rw [e,List.find?_append,vO.mpr (fun y hy=>by rw [no y hy];decide),wE hp]
 rfl
theorem zkw {w:zaq}{A B:List Flt}(h:∀ row:List Int,row.length=w.ins.toNat→Bits row→zbL w (zaB A w.gates row w.gates.length)=zbL w (zaB B w.gates row w.gates.length)):zbo w A B=none:=
 vO.mpr fun r hr=>by
  obtain ⟨l,b⟩:=zb4 _ r hr
  rw [decide_eq_false fun z=>z (h r l b)]
  decide
theorem zfr (q:List Key)(p:List Key)(v:Int):look [⟨p,v⟩] q=if p=q then some v else none:=by
 unfold look
 by_cases e:p=q
 ·rw [if_pos e,wE (by simpa using e)]
  rfl
 ·rw [if_neg e,yav (by simpa using e)]
  rfl
theorem zoC {g p:Nat}{v:Int}(ns:List Int)(hp:p < ns.length):zb8 [⟨legK g p,v⟩] g ns=ns.set p v:=by
 unfold zb8
 refine jM fun i=>?_
 rw [qZ]
 by_cases e:p=i
 ·subst e
  rw [wD hp,yC hp]
  simp only [yaV]
  unfold pick
  rw [zfr,if_pos rfl]
  rfl
 ·rw [vG e]
  cases ns[i]? with
  | none=>rfl
  | some x=>
   simp only [yaV]
   unfold pick
   rw [zfr,if_neg fun z=>e (by have:=(zh4 z).2;omega)]
   rfl
theorem zm5 (g p:Nat)(v:Int)(i:Int)(x:Int):pick [⟨legK g p,v⟩] (zbk i) x=x:=by
 unfold pick
 rw [zfr,if_neg fun z=>zlm z.symm]
 rfl
theorem znl (i:Int)(v x:Int):pick [⟨zbk i,v⟩] (zbk i) x=v:=by
 unfold pick
 rw [zfr,if_pos rfl]
 rfl
end My
namespace L2
open PySem PySem.Spec PyProof.Rows
section
open PySem.SeqAt
open PySem.AutoSeq1 (wpAny_loadPart')
open PySem.MeetsSeq PySem.MeetsSeq2 PySem.MeetsSeq3
end
section
variable {X:Cx}
end
end L2
namespace My
open PySem L2
open PySem.W (Dat kqdP kqdPs kqdOk)
end My
namespace L2
open PySem PySem.Spec PyProof.Rows
section
open PySem.Sem (wp)
end
section
variable {X:Cx}
end
theorem dflt1 {tk:Tok}:Vals [V.int 1] [Value.int 1 tk]:=.cons ⟨tk,rfl⟩ .nil
structure FunD (K:PySem.W.Frag) (x qual:Str) (st:Stmt) (f:Addr) (fd:FuncData) (T:Addr):Prop where
 ex:∃ (oc:Value) (od:Option Addr) (kV doc pm:Value) (an:Option Addr) (cdv ct:Value) (osl:Array (Option Value)),
  fd=PySem.W.fnOf x qual (zb6 st) (zbN st) (zak st) (.ref T) kV doc pm an cdv ct∧K.lookup f=some ⟨oc,od,.func fd,osl⟩∧PySem.W.codeIn K cdv qual=true
 kp:PySem.W.keepIn K (.ref f)=true
section
variable {P:Program} {w:World} {K:PySem.W.Frag} {mg:Str→Option Value} {base:Heap}
theorem FunD.okB {x qual:Str}{st:Stmt}{f T:Addr}{fd:FuncData}{N ps:List Str}{k:Nat}{sp:Sp}(F:FunD K x qual st f fd T)(S:zat N ps (zak st))(len:∀ vs H Q E,sp vs H Q E→vs.length=ps.length)
  (hbody:∀ (cdv:Value) (A:Around) (outer:List Env) (s:Shared) (H:Hp) (vs:List V) (Q:VK) (E:XK),Room k (A.deeper (envOfC qual (zak st) s.heap.objs.size f cdv))→sp vs H Q E→
   ∃ t,Bx (PSs (cxOf CX0 P w K mg base N qual (zak st) f cdv A outer s H E).nox (zbN st) t)∧t {nx:=fun _ H2=>Q .non H2,rt:=Q} (start N vs) H):FnOk P w K mg base CX0 (k+1) f fd ps sp:=by
 obtain ⟨oc,od,kV,doc,pm,an,cdv,ct,osl,rfl,lk,hcd⟩:=F.ex
 refine fn_of lk hcd S len fun A outer s H vs Q E hr hsp=>?_
 obtain ⟨t,h,q⟩:=hbody cdv A outer s H vs Q E hr hsp
 exact ⟨t,h.1.nox,q⟩
theorem FunD.binds {x qual:Str}{st:Stmt}{f T:Addr}{fd:FuncData}{ps:List Str}{ds:List Value}(F:FunD K x qual st f fd T)
  (h:∀ (kV doc pm:Value) (an:Option Addr) (cdv ct:Value) (s:Shared) (us:List Value),K.In s.heap→(us++ds).length=ps.length→
   BindsTo s (PySem.W.fnOf x qual (zb6 st) (zbN st) (zak st) (.ref T) kV doc pm an cdv ct) ⟨us,[]⟩ (ps.zip (us++ds))):zhu K fd ps ds:=by
 obtain ⟨oc,od,kV,doc,pm,an,cdv,ct,osl,rfl,lk,hcd⟩:=F.ex
 exact h kV doc pm an cdv ct
theorem zkG {x qual:Str}{st:Stmt}{f T:Addr}{oc:Value}{od an:Option Addr}{osl:Array (Option Value)}{kV doc pm cdv ct:Value}(l:K.lookup f=some ⟨oc,od,.func (PySem.W.fnOf x qual (zb6 st) (zbN st) (zak st) (.ref T) kV doc pm an cdv ct),osl⟩)
  (c:PySem.W.codeIn K cdv qual=true) (k:PySem.W.keepIn K (.ref f)=true):FunD K x qual st f (PySem.W.fnOf x qual (zb6 st) (zbN st) (zak st) (.ref T) kV doc pm an cdv ct) T:=⟨⟨oc,od,kV,doc,pm,an,cdv,ct,osl,rfl,l,c⟩,k⟩
end
end L2
namespace My
open PySem L2
noncomputable def zeW (o:Int) (x:Str) (ns:List Int):Int:=
 if x="not" then qX o (ns.getD 0 0)
 else if x="choose" then jF (qT (ns.getD 0 0) (ns.getD 1 0)) (qT (qX o (ns.getD 0 0)) (ns.getD 2 0))
 else ns.foldl (fun a b=>if x="and" then qT a b else if x="or" then jF a b else qX a b) (if x="and"∨x="one" then o else 0)
theorem zou {a b:Int}(ha:a=0∨a=1)(hb:b=0∨b=1):qT a b=if a=1∧b=1 then 1 else 0:=by
 rcases ha with rfl | rfl <;> rcases hb with rfl | rfl <;> decide
theorem zqk {a b:Int}(ha:a=0∨a=1)(hb:b=0∨b=1):jF a b=if a=1∨b=1 then 1 else 0:=by
 rcases ha with rfl | rfl <;> rcases hb with rfl | rfl <;> decide
theorem zok {a b:Int}(ha:a=0∨a=1)(hb:b=0∨b=1):qX a b=(a+b) % 2:=by
 rcases ha with rfl | rfl <;> rcases hb with rfl | rfl <;> decide
theorem zlv:∀ (ns:List Int) {a:Int},(a=0∨a=1)→Bits ns→ns.foldl qT a=if a=1∧ns.all (· ==1)=true then 1 else 0
 | [],a,ha,_=>by rcases ha with rfl | rfl <;> decide
 | n::ns,a,ha,b=>by
  have hn:=b n (.head _)
  have e:=zou ha hn
  rw [kQ,zlv ns (by rw [e];split <;> simp) fun z hz=>b z (.tail _ hz),e]
  rcases ha with rfl | rfl <;> rcases hn with rfl | rfl <;> simp
theorem zmN:∀ (ns:List Int) {a:Int},(a=0∨a=1)→Bits ns→ns.foldl jF a=if a=1∨ns.any (· ==1)=true then 1 else 0
 | [],a,ha,_=>by rcases ha with rfl | rfl <;> decide
 | n::ns,a,ha,b=>by
  have hn:=b n (.head _)
  have e:=zqk ha hn
  rw [kQ,zmN ns (by rw [e];split <;> simp) fun z hz=>b z (.tail _ hz),e]
  rcases ha with rfl | rfl <;> rcases hn with rfl | rfl <;> simp
theorem zlj:∀ (ns:List Int) {a:Int},(a=0∨a=1)→Bits ns→ns.foldl qX a=(a+ns.sum) % 2
 | [],a,ha,_=>by rcases ha with rfl | rfl <;> decide
 | n::ns,a,ha,b=>by
  have hn:=b n (.head _)
  have e:=zok ha hn
  rw [kQ,zlj ns (by rw [e];omega) fun z hz=>b z (.tail _ hz),e,List.sum_cons]
  omega
theorem n_an:("and" :Str)≠"not" :=by decide+kernel
theorem n_ac:("and" :Str)≠"choose" :=by decide+kernel
theorem n_on:("or" :Str)≠"not" :=by decide+kernel
theorem n_oc:("or" :Str)≠"choose" :=by decide+kernel
theorem n_o1:("or" :Str)≠"one" :=by decide+kernel
theorem n_dn:("odd" :Str)≠"not" :=by decide+kernel
theorem n_dc:("odd" :Str)≠"choose" :=by decide+kernel
theorem n_d1:("odd" :Str)≠"one" :=by decide+kernel
theorem zjO {x:Str}{ns:List Int}(b:Bits ns)(h:zbn x ns.length):zeW 1 x ns=zbs x ns:=by
 rcases h with ⟨h | h | h,l1,l2⟩ | ⟨h,l1⟩ | ⟨h,l1⟩ | ⟨h | h,l1⟩ <;> subst h <;> unfold zeW
 ·rw [zgA,if_neg n_an,if_neg n_ac,if_pos (.inl rfl)]
  simp only [if_pos]
  rw [zlv ns (.inr rfl) b]
  simp
 ·rw [zkM,if_neg n_on,if_neg n_oc,if_neg (fun z=>z.elim n_oa n_o1)]
  simp only [if_neg n_oa,if_pos]
  rw [zmN ns (.inl rfl) b]
  simp
 ·rw [zg0,if_neg n_dn,if_neg n_dc,if_neg (fun z=>z.elim n_da n_d1)]
  simp only [if_neg n_da,if_neg n_do]
  rw [zlj ns (.inl rfl) b,yal]
 ·rw [znG,if_pos rfl]
  rcases za9 b (i:=0) (by omega) with e | e <;> rw [e] <;> decide
 ·rw [zg3,if_neg n_cn,if_pos rfl]
  rcases za9 b (i:=0) (by omega) with e | e <;> rcases za9 b (i:=1) (by omega) with f | f <;> rcases za9 b (i:=2) (by omega) with g | g <;> rw [e,f,g] <;> decide
 ·obtain rfl:ns= []:=vA.mp l1
  rw [zkE,if_neg n_zn,if_neg n_zc,if_neg (fun z=>z.elim n_za n_z1)]
  rfl
 ·obtain rfl:ns= []:=vA.mp l1
  rw [znQ,if_neg n_1n,if_neg n_1c,if_pos (.inr rfl)]
  rfl
theorem gi_not (o:Int)(ns:List Int):zeW o "not" ns=qX o (ns.getD 0 0):=by unfold zeW;rw [if_pos rfl]
theorem zm2 (o:Int)(ns:List Int):zeW o "choose" ns=jF (qT (ns.getD 0 0) (ns.getD 1 0)) (qT (qX o (ns.getD 0 0)) (ns.getD 2 0)):=by unfold zeW;rw [if_neg n_cn,if_pos rfl]
theorem zpz {x:Str}(hn:x≠"not")(hc:x≠"choose")(o:Int)(ns:List Int):zeW o x ns=ns.foldl (fun a b=>if x="and" then qT a b else if x="or" then jF a b else qX a b) (if x="and"∨x="one" then o else 0):=by unfold zeW;rw [if_neg hn,if_neg hc]
theorem zoI {n:Nat}(h:zbn "not" n):n=1:=by
 rcases h with ⟨h | h | h,l1,l2⟩ | ⟨h,l1⟩ | ⟨h,l1⟩ | ⟨h | h,l1⟩ <;> first | exact l1 | exact absurd h (by decide+kernel)
theorem zkL {n:Nat}(h:zbn "choose" n):n=3:=by
 rcases h with ⟨h | h | h,l1,l2⟩ | ⟨h,l1⟩ | ⟨h,l1⟩ | ⟨h | h,l1⟩ <;> first | exact l1 | exact absurd h (by decide+kernel)
theorem in_two (x a b:Str):inV (.str x) [.str a,.str b]=decide (x=a∨x=b):=by
 show ((eqV (.str a) (.str x)) || ((eqV (.str b) (.str x)) || false))=_
 have e:∀ y z:Str,eqV (.str y) (.str z)=decide (z=y):=fun y z=>by
  show (y==z)=_
  rw [xJ,beq_iff_eq,decide_eq_true_eq]
  exact eq_comm
 rw [e,e,ybi]
 by_cases q:x=a <;> by_cases q2:x=b <;> simp [q,q2]
noncomputable def zcr (o:Int) (fs:List Flt) (gs:List (Str×List Int)) (row:List Int):Nat→List Int
 | 0=>rowS fs row
 | n+1=>zcr o fs gs row n++ [pick fs (zbk ((row.length+n:Nat):Int)) (match gs[n]? with
   | some g=>zeW o g.1 (zb8 fs n (g.2.map fun l=>(zcr o fs gs row n).getD l.toNat 0))
   | none=>0)]
theorem zf0 (o:Int)(fs:List Flt)(gs:List (Str×List Int))(row:List Int):∀ n,(zcr o fs gs row n).length=row.length+n
 | 0=>zir fs row
 | n+1=>by rw [zcr,yJ,zf0 o fs gs row n];simp;omega
end My
namespace L2
open PySem PySem.Spec PyProof.Rows
noncomputable def zc9:List Str→List Value→Bool
 | [],[]=>true
 | x::xs,.str y _::vs=>x==y && zc9 xs vs
 | _,_=>false
noncomputable def TupK (K:PySem.W.Frag) (a:Addr) (xs:List Str):Prop:=(match K.lookup a with
 | some o=>(o.cls== .type "tuple" && o.dict.isNone) && (match o.data with
  | .seq vs _=>zc9 xs vs.toList
  | _=>false)
 | none=>false)=true
theorem zgU:∀ {xs:List Str} {vs:List Value},zc9 xs vs=true→Vals (xs.map V.str) vs
 | [],[],_=>.nil
 | x::xs,v::vs,h=>by
  cases v with
  | str y t=>
   have h':(x==y && zc9 xs vs)=true:=h
   rw [qM] at h'
   have e:x=y:=eq_of_beq h'.1
   subst e
   exact .cons ⟨t,rfl⟩ (zgU h'.2)
  | _=>simp [zc9] at h
 | [],_::_,h=>by simp [zc9] at h
 | _::_,[],h=>by simp [zc9] at h
theorem TupK.sq {K:PySem.W.Frag}{H:Hp}{a:Addr}{xs:List Str}(h:TupK K a xs)(hz:xs.length≤1000):SqT K H a (xs.map V.str):=by
 unfold TupK at h
 cases e:K.lookup a with
 | none=>rw [e] at h;cases h
 | some o=>
  rw [e] at h
  simp only [qM] at h
  obtain ⟨⟨h1,_⟩,h2⟩:=h
  cases ed:o.data with
  | seq vs n=>
   rw [ed] at h2
   have rv:=zgU h2
   have lv:=rv.length
   rw [yB] at lv
   have lz:vs.size=xs.length:=by rw [lv,xT]
   have line:(1000:Nat)≤yM:=by decide
   exact .inr ⟨o,vs,n,e,beq_iff_eq.mp h1,ed,by omega,rv⟩
  | _=>rw [ed] at h2;cases h2
section
variable {X:Cx} {o e:Expr} {apos cpos:Pos} {td ty:TE}
end
section
variable {X:Cx} {e:Expr} {te:TE} {p p' pos pos':Pos}
end
open PySem.W (Dat kqdP kqdPs kqdOk)
section
variable {X:Cx}
open Classical in
end
section
variable {X:Cx} {K:PySem.W.Frag}
end
end L2
namespace My
open PySem L2
theorem zh9 (a b:Nat):qT (a:Int) (b:Int)=((a &&& b:Nat):Int):=by
 unfold qT
 rw [decide_eq_true (wG a),decide_eq_true (wG b)]
 rfl
theorem zo0 (a b:Nat):jF (a:Int) (b:Int)=((a ||| b:Nat):Int):=by
 have h:∀ n:Nat,decide (0≤xG (n:Int))=false:=fun n=>decide_eq_false (by unfold xG;omega)
 have t:∀ n:Nat,(xG (xG (n:Int))).toNat=n:=fun n=>by unfold xG;omega
 have e:qT (xG (a:Int)) (xG (b:Int))=xG ((a ||| b:Nat):Int):=by
  unfold qT
  rw [h a,h b]
  show xG (((xG (xG (a:Int))).toNat ||| (xG (xG (b:Int))).toNat:Nat):Int)=_
  rw [t a,t b]
 unfold jF
 rw [e]
 unfold xG
 omega
theorem zl6:∀ a b:Nat,a ||| b=(a ^^^ b)+(a &&& b):=by
 intro a
 induction a using Nat.strongRecOn with
 | ind a ih=>
  intro b
  by_cases ha:a=0
  ·subst ha
   simp
  ·have h:=ih (a / 2) (by omega) (b / 2)
   have e1:=Nat.or_div_two (a:=a) (b:=b)
   have e2:=Nat.xor_div_two (a:=a) (b:=b)
   have e3:=Nat.and_div_two (a:=a) (b:=b)
   have m1:(a ||| b) % 2=(a ^^^ b) % 2+(a &&& b) % 2:=by
    have t:∀ n:Nat,n % 2=if n.testBit 0 then 1 else 0:=fun n=>by
     rw [Nat.testBit_zero]
     by_cases hn:n % 2=1
     ·simp [hn]
     ·have:n % 2=0:=by omega
      simp [this]
    rw [t (a ||| b),t (a ^^^ b),t (a &&& b),Nat.testBit_or,ych,yci]
    cases a.testBit 0 <;> cases b.testBit 0 <;> rfl
   omega
theorem zpL (a b:Nat):qX (a:Int) (b:Int)=((a ^^^ b:Nat):Int):=by
 unfold qX
 rw [zo0,zh9]
 have:=zl6 a b
 omega
noncomputable def bitI (j:Nat) (x:Int):Int:=if x.toNat.testBit j then 1 else 0
noncomputable def za2 (R:Nat) (x:Int):Prop:=0≤x∧x.toNat < 2 ^ R
theorem zfB (j:Nat)(x:Int):bitI j x=0∨bitI j x=1:=by unfold bitI;split <;> simp
theorem za6 {R:Nat}{x:Int}(h:za2 R x):∃ n:Nat,x=(n:Int)∧n < 2 ^ R:=⟨x.toNat,by have:=h.1;omega,h.2⟩
theorem zd0 {R n:Nat}(h:n < 2 ^ R):za2 R (n:Int):=⟨by omega,by rw [jN];exact h⟩
theorem za8 (j n:Nat):bitI j (n:Int)=if n.testBit j then 1 else 0:=by unfold bitI;rw [jN]
theorem zg1 {R:Nat}{x y:Int}(hx:za2 R x)(hy:za2 R y):za2 R (qT x y)∧∀ j,bitI j (qT x y)=qT (bitI j x) (bitI j y):=by
 obtain ⟨a,rfl,ha⟩:=za6 hx
 obtain ⟨b,rfl,hb⟩:=za6 hy
 rw [zh9]
 refine ⟨zd0 (Nat.and_lt_two_pow _ hb),fun j=>?_⟩
 rw [za8,za8,za8,yci]
 cases a.testBit j <;> cases b.testBit j <;> decide
theorem ziy {R:Nat}{x y:Int}(hx:za2 R x)(hy:za2 R y):za2 R (jF x y)∧∀ j,bitI j (jF x y)=jF (bitI j x) (bitI j y):=by
 obtain ⟨a,rfl,ha⟩:=za6 hx
 obtain ⟨b,rfl,hb⟩:=za6 hy
 rw [zo0]
 refine ⟨zd0 (Nat.or_lt_two_pow ha hb),fun j=>?_⟩
 rw [za8,za8,za8,Nat.testBit_or]
 cases a.testBit j <;> cases b.testBit j <;> decide
theorem zfm {R:Nat}{x y:Int}(hx:za2 R x)(hy:za2 R y):za2 R (qX x y)∧∀ j,bitI j (qX x y)=qX (bitI j x) (bitI j y):=by
 obtain ⟨a,rfl,ha⟩:=za6 hx
 obtain ⟨b,rfl,hb⟩:=za6 hy
 rw [zpL]
 refine ⟨zd0 (Nat.xor_lt_two_pow ha hb),fun j=>?_⟩
 rw [za8,za8,za8,ych]
 cases a.testBit j <;> cases b.testBit j <;> decide
noncomputable def zaU (R:Nat):Int:=((2 ^ R - 1:Nat):Int)
theorem zcG (R:Nat):za2 R (zaU R):=zd0 (by have:=yap R;omega)
theorem zgq {R j:Nat}(h:j < R):bitI j (zaU R)=1:=by
 unfold zaU
 rw [za8,yaW]
 simp [h]
theorem zgs (j:Nat):bitI j 0=0:=by
 show bitI j ((0:Nat):Int)=0
 rw [za8,yb8]
 rfl
theorem zdq (R:Nat):za2 R 0:=zd0 (n:=0) (yap R)
theorem zfT {R:Nat}{ns:List Int}(h:∀ n∈ns,za2 R n)(i:Nat):za2 R (ns.getD i 0):=by
 rw [yL]
 cases e:ns[i]? with
 | none=>exact zdq R
 | some n=>exact h n (yH e)
theorem zds (j:Nat)(ns:List Int)(i:Nat):bitI j (ns.getD i 0)=(ns.map (bitI j)).getD i 0:=by
 rw [yL,yL,yG]
 cases ns[i]? with
 | none=>exact zgs j
 | some n=>rfl
theorem zhY {R:Nat}{f:Int→Int→Int}(hf:∀ x y,za2 R x→za2 R y→za2 R (f x y)∧∀ j,bitI j (f x y)=f (bitI j x) (bitI j y)):∀ (ns:List Int) {a:Int},za2 R a→(∀ n∈ns,za2 R n)→za2 R (ns.foldl f a)∧∀ j,bitI j (ns.foldl f a)=(ns.map (bitI j)).foldl f (bitI j a)
 | [],a,ha,_=>⟨ha,fun _=>rfl⟩
 | n::ns,a,ha,h=>by
  obtain ⟨h1,h2⟩:=hf a n ha (h n (.head _))
  obtain ⟨h3,h4⟩:=zhY hf ns h1 fun z hz=>h z (.tail _ hz)
  refine ⟨h3,fun j=>?_⟩
  rw [kQ,h4 j,qQ,kQ,h2 j]
theorem zlZ {R:Nat}(x:Str){ns:List Int}(h:∀ n∈ns,za2 R n):za2 R (zeW (zaU R) x ns)∧∀ j,j < R→bitI j (zeW (zaU R) x ns)=zeW 1 x (ns.map (bitI j)):=by
 have hg:=zfT h
 unfold zeW
 by_cases hn:x="not"
 ·rw [if_pos hn]
  obtain ⟨h1,h2⟩:=zfm (zcG R) (hg 0)
  refine ⟨h1,fun j hj=>?_⟩
  rw [if_pos hn,h2 j,zgq hj,zds]
 rw [if_neg hn]
 by_cases hc:x="choose"
 ·rw [if_pos hc]
  obtain ⟨a1,a2⟩:=zg1 (hg 0) (hg 1)
  obtain ⟨b1,b2⟩:=zfm (zcG R) (hg 0)
  obtain ⟨c1,c2⟩:=zg1 b1 (hg 2)
  obtain ⟨d1,d2⟩:=ziy a1 c1
  refine ⟨d1,fun j hj=>?_⟩
  rw [if_neg hn,if_pos hc,d2 j,a2 j,c2 j,b2 j,zgq hj,zds,zds,zds]
 rw [if_neg hc]
 have ha:za2 R (if x="and"∨x="one" then zaU R else 0):=by
  split
  ·exact zcG R
  ·exact zdq R
 have hf:∀ a b,za2 R a→za2 R b→za2 R ((fun a b=>if x="and" then qT a b else if x="or" then jF a b else qX a b) a b)∧∀ j,bitI j ((fun a b=>if x="and" then qT a b else if x="or" then jF a b else qX a b) a b)=(fun a b=>if x="and" then qT a b else if x="or" then jF a b else qX a b) (bitI j a) (bitI j b):=by
  intro a b h1 h2
  by_cases e1:x="and"
  ·simp only [if_pos e1]
   exact zg1 h1 h2
  ·by_cases e2:x="or"
   ·simp only [if_neg e1,if_pos e2]
    exact ziy h1 h2
   ·simp only [if_neg e1,if_neg e2]
    exact zfm h1 h2
 obtain ⟨h1,h2⟩:=zhY hf ns ha h
 refine ⟨h1,fun j hj=>?_⟩
 rw [if_neg hn,if_neg hc,h2 j]
 congr 1
 split
 ·exact zgq hj
 ·exact zgs j
noncomputable def zcu (R:Nat) (fs:List Flt):List Flt:=fs.map fun f=>⟨f.place,f.worth * zaU R⟩
theorem zmH (R:Nat)(fs:List Flt)(p:List Key):look (zcu R fs) p=(look fs p).map (· * zaU R):=by
 unfold look zcu
 induction fs with
 | nil=>rfl
 | cons f fs ih=>
  rw [qQ,vV,vV]
  by_cases h:f.place=p
  ·simp [h]
  ·simpa [h] using ih
theorem zoX {R:Nat}{v:Int}(h:v=0∨v=1):za2 R (v * zaU R)∧∀ j,j < R→bitI j (v * zaU R)=v:=by
 rcases h with rfl | rfl
 ·rw [Int.zero_mul]
  exact ⟨zdq R,fun j _=>zgs j⟩
 ·rw [Int.one_mul]
  exact ⟨zcG R,fun j hj=>zgq hj⟩
theorem zhl {R:Nat}{fs:List Flt}(fb:∀ f∈fs,f.worth=0∨f.worth=1)(p:List Key){v:Int}(h:za2 R v):za2 R (pick (zcu R fs) p v)∧∀ j,j < R→bitI j (pick (zcu R fs) p v)=pick fs p (bitI j v):=by
 unfold pick
 rw [zmH]
 cases e:look fs p with
 | none=>exact ⟨h,fun _ _=>rfl⟩
 | some b=>
  have hb:b=0∨b=1:=by
   unfold look at e
   obtain ⟨f,hf,rfl⟩:=kA.mp e
   exact fb f (wV hf)
  exact zoX hb
theorem zk8 {R:Nat}{fs:List Flt}(fb:∀ f∈fs,f.worth=0∨f.worth=1)(key:Nat→List Key){ns:List Int}(h:∀ n∈ns,za2 R n):(∀ n∈ns.mapIdx (fun i v=>pick (zcu R fs) (key i) v),za2 R n)∧∀ j,j < R→(ns.mapIdx (fun i v=>pick (zcu R fs) (key i) v)).map (bitI j)=(ns.map (bitI j)).mapIdx (fun i v=>pick fs (key i) v):=by
 constructor
 ·intro n hn
  obtain ⟨i,hi,e⟩:=vM.mp hn
  rw [← e]
  exact (zhl fb _ (h _ (jC hi))).1
 ·intro j hj
  refine jM fun i=>?_
  rw [yG,qZ,qZ,yG]
  cases e:ns[i]? with
  | none=>rfl
  | some v=>exact congrArg some ((zhl fb _ (h v (yH e))).2 j hj)
theorem zhP {R:Nat}{fs:List Flt}(fb:∀ f∈fs,f.worth=0∨f.worth=1){m:Nat}{w:zaq}{cols:List Int}(wf:WF m w)(hl:(cols.length:Int)=w.ins)(h:∀ n∈cols,za2 R n):
  ∀ n,n≤w.gates.length→(∀ v∈zcr (zaU R) (zcu R fs) w.gates cols n,za2 R v)∧∀ j,j < R→(zcr (zaU R) (zcu R fs) w.gates cols n).map (bitI j)=zaB fs w.gates (cols.map (bitI j)) n
 | 0,_=>zk8 fb (fun i=>zbk i) h
 | n+1,hn=>by
  obtain ⟨h1,h2⟩:=zhP fb wf hl h n (by omega)
  obtain ⟨g,hg⟩:∃ g,w.gates[n]? =some g:=⟨_,yC (by omega)⟩
  obtain ⟨lk,lb⟩:=wf.legs n g hg
  have hr:∀ v∈g.2.map (fun l=>(zcr (zaU R) (zcu R fs) w.gates cols n).getD l.toNat 0),za2 R v:=fun v hv=>by
   obtain ⟨l,_,rfl⟩:=yY.mp hv
   exact zfT h1 _
  obtain ⟨l1,l2⟩:=zk8 fb (fun i=>legK (n:Int) (i:Int)) hr
  obtain ⟨g1,g2⟩:=zlZ g.1 l1
  obtain ⟨p1,p2⟩:=zhl fb (zbk ((cols.length+n:Nat):Int)) g1
  rw [zcr,hg]
  refine ⟨fun v hv=>?_,fun j hj=>?_⟩
  ·rcases yU.mp hv with hv | hv
   ·exact h1 v hv
   ·rw [yE.mp hv]
    exact p1
  ·have bw:Bits (cols.map (bitI j)):=fun z hz=>by obtain ⟨v,_,rfl⟩:=yY.mp hz;exact zfB j v
   have hl':((cols.map (bitI j)).length:Int)=w.ins:=by rw [yB];exact hl
   have bS:=zb9 fb wf hl' bw n (by omega)
   rw [yK,h2 j hj,zaB,hg]
   congr 1
   refine congrArg (fun z=>[z]) ((p2 j hj).trans ?_)
   rw [g2 j hj,l2 j hj,yB]
   have e1:(g.2.map (fun l=>(zcr (zaU R) (zcu R fs) w.gates cols n).getD l.toNat 0)).map (bitI j)=g.2.map fun l=>(zaB fs w.gates (cols.map (bitI j)) n).getD l.toNat 0:=by
    rw [kY]
    refine xC fun l _=>?_
    show bitI j (List.getD _ _ 0)=_
    rw [zds,h2 j hj]
   rw [e1]
   refine congrArg (pick fs _) (zjO ?_ ?_)
   ·exact zfM (k:=(n:Int)) fb fun z hz=>by
     obtain ⟨l,hl2,rfl⟩:=yY.mp hz
     exact za9 bS (by rw [zbx,yB];have:=lb l hl2;omega)
   ·show zbn g.1 (zb8 fs n _).length
    rw [zd9,yB]
    exact lk
noncomputable def zdN:Nat→List Int
 | 0=>[]
 | n+1=>zaU (2 ^ n) * (zaU (2 ^ n)+1)::(zdN n).map fun v=>v+v * (zaU (2 ^ n)+1)
theorem zfj (R:Nat):zaU R+1=((2 ^ R:Nat):Int):=by
 unfold zaU
 have:=yap R
 omega
theorem zng (n:Nat):zaU (2 ^ n)+zaU (2 ^ n) * (zaU (2 ^ n)+1)=zaU (2 ^ (n+1)):=by
 have h:=yap (2 ^ n)
 have e: 2 ^ (2 ^ (n+1))=2 ^ 2 ^ n * 2 ^ 2 ^ n:=by rw [← Nat.pow_add];congr 1;rw [yaE];omega
 rw [zfj]
 unfold zaU
 rw [e]
 generalize 2 ^ 2 ^ n=q at h
 obtain ⟨p,rfl⟩:∃ p,q=p+1:=⟨q - 1,by omega⟩
 have e2:(p+1) * (p+1) - 1=p+p * (p+1):=by
  rw [Nat.add_mul,Nat.one_mul]
  omega
 rw [e2,ybR]
 push_cast
 rfl
theorem zhi {R a b:Nat}(hb:b < 2 ^ R)(j:Nat):(2 ^ R * a+b).testBit j=if j < R then b.testBit j else a.testBit (j - R):=Nat.testBit_two_pow_mul_add a hb j
theorem zi3 {R a b:Nat}(ha:a < 2 ^ R)(hb:b < 2 ^ R): 2 ^ R * a+b < 2 ^ (R+R):=by
 rw [Nat.pow_add]
 have: 2 ^ R * a+2 ^ R≤2 ^ R * 2 ^ R:=by
  rw [← Nat.mul_succ]
  exact Nat.mul_le_mul_left _ ha
 omega
theorem ze4:∀ n,(∀ v∈zdN n,za2 (2 ^ n) v)∧(zdN n).length=n∧∀ j,j < 2 ^ n→(zaQ n)[j]? =some ((zdN n).map (bitI j))
 | 0=>⟨(fun _ z=>nomatch z),rfl,fun j hj=>by
  have:j=0:=by simpa using hj
  subst this
  rfl⟩
 | n+1=>by
  obtain ⟨h1,h2,h3⟩:=ze4 n
  have hR: 2 ^ (n+1)=2 ^ n+2 ^ n:=by rw [yaE];omega
  have pos:=yap (2 ^ n)
  have eh:zaU (2 ^ n) * (zaU (2 ^ n)+1)=((2 ^ 2 ^ n * (2 ^ 2 ^ n - 1)+0:Nat):Int):=by
   rw [zfj]
   unfold zaU
   rw [Nat.add_zero,ybz]
   push_cast
   rfl
  have ev:∀ v:Nat,(v:Int)+(v:Int) * (zaU (2 ^ n)+1)=((2 ^ 2 ^ n * v+v:Nat):Int):=fun v=>by
   rw [zfj,ybz]
   push_cast
   omega
  refine ⟨fun v hv=>?_,by show ((zdN n).map _).length+1=n+1;rw [yB,h2],fun j hj=>?_⟩
  ·rw [hR]
   rcases yR.mp (show v∈_::_ from hv) with rfl | hv
   ·rw [eh]
    exact zd0 (zi3 (by omega) pos)
   ·obtain ⟨u,hu,rfl⟩:=yY.mp hv
    obtain ⟨k,rfl,hk⟩:=za6 (h1 u hu)
    rw [ev k]
    exact zd0 (zi3 hk hk)
  ·rw [hR] at hj
   have bits:∀ i,bitI j (zaU (2 ^ n) * (zaU (2 ^ n)+1))=(if j < 2 ^ n then 0 else 1)∧∀ u∈zdN n,(i=if j < 2 ^ n then j else j - 2 ^ n)→bitI j (u+u * (zaU (2 ^ n)+1))=bitI i u:=fun i=>by
    constructor
    ·rw [eh,za8,zhi pos]
     by_cases h:j < 2 ^ n
     ·rw [if_pos h,if_pos h,yb8]
      rfl
     ·rw [if_neg h,if_neg h,yaW,decide_eq_true (by omega)]
      rfl
    ·intro u hu hi
     obtain ⟨k,rfl,hk⟩:=za6 (h1 u hu)
     rw [ev k,za8,zhi hk,za8,hi]
     by_cases h:j < 2 ^ n
     ·rw [if_pos h,if_pos h]
     ·rw [if_neg h,if_neg h]
   show ((zaQ n).map (0:: ·)++(zaQ n).map (1:: ·))[j]? =some ((_::(zdN n).map _).map (bitI j))
   have ln:=zbe n
   rw [qQ,kY]
   by_cases h:j < 2 ^ n
   ·rw [qU (by rw [yB,ln];exact h),yG,h3 j h,(bits j).1,if_pos h]
    refine congrArg some (congrArg (List.cons 0) (xC fun u hu=>?_))
    exact ((bits j).2 u hu (by rw [if_pos h])).symm
   ·rw [qV (by rw [yB,ln];omega),yB,ln,yG,h3 (j - 2 ^ n) (by omega),(bits j).1,if_neg h]
    refine congrArg some (congrArg (List.cons 1) (xC fun u hu=>?_))
    exact ((bits (j - 2 ^ n)).2 u hu (by rw [if_neg h])).symm
noncomputable def zdP (xs ys:List Int):Int:=(xs.zip ys).foldl (fun u p=>jF u (qX p.1 p.2)) 0
theorem zeJ {R:Nat}:∀ (xs ys:List Int) {a:Int},xs.length=ys.length→(∀ v∈xs,za2 R v)→(∀ v∈ys,za2 R v)→za2 R a→
  za2 R ((xs.zip ys).foldl (fun u p=>jF u (qX p.1 p.2)) a)∧∀ j,bitI j ((xs.zip ys).foldl (fun u p=>jF u (qX p.1 p.2)) a)=1↔bitI j a=1∨xs.map (bitI j)≠ys.map (bitI j)
 | [],[],a,_,_,_,ha=>⟨ha,fun j=>by show bitI j a=1↔_;simp⟩
 | x::xs,y::ys,a,hl,hx,hy,ha=>by
  obtain ⟨x1,x2⟩:=zfm (hx x (.head _)) (hy y (.head _))
  obtain ⟨o1,o2⟩:=ziy ha x1
  obtain ⟨h1,h2⟩:=zeJ xs ys (a:=jF a (qX x y)) (ybB hl) (fun v hv=>hx v (.tail _ hv)) (fun v hv=>hy v (.tail _ hv)) o1
  refine ⟨h1,fun j=>?_⟩
  rw [List.zip_cons_cons,kQ]
  refine (h2 j).trans ?_
  rw [o2 j,x2 j,qQ,qQ]
  have ba:=zfB j a
  have bx:=zfB j x
  have by':=zfB j y
  generalize bitI j a=p at *
  generalize bitI j x=q at *
  generalize bitI j y=r at *
  have hc:((q::xs.map (bitI j))≠(r::ys.map (bitI j)))↔(q≠r∨xs.map (bitI j)≠ys.map (bitI j)):=by
   constructor
   ·intro z
    by_cases e:q=r
    ·exact .inr fun z2=>z (by rw [e,z2])
    ·exact .inl e
   ·rintro (z | z) e
    ·injection e with e1 _
     exact z e1
    ·injection e with _ e2
     exact z e2
  rw [hc]
  have key:(jF p (qX q r)=1)↔(p=1∨q≠r):=by
   rcases ba with rfl | rfl <;> rcases bx with rfl | rfl <;> rcases by' with rfl | rfl <;> decide
  rw [key,or_assoc]
end My
namespace L2
open PySem PySem.Spec PyProof.Rows
noncomputable def Itz (a b:Addr):It:=
 ⟨fun i H => ∃ xs ys x y, H a = some (.lst xs) ∧ H b = some (.lst ys) ∧ xs[i]? = some x ∧ ys[i]? = some y,
  fun i H v H'=>∃ T x y,H T=none∧v= .ref T∧H'=upd H T (.tup [x,y])∧∀ xs ys,H a=some (.lst xs)→H b=some (.lst ys)→xs[i]? =some x∧ys[i]? =some y,
  fun i H=>∃ xs ys,H a=some (.lst xs)∧H b=some (.lst ys)∧(xs.length≤i∨ys.length≤i)⟩
theorem far {n:Nat}(i j:Nat)(h:i≠j):(n+i:Nat)≠n+j:=by omega
theorem Inv.turnedC {X:Cx}{pins:List (Addr×Obj)}{σ :St}{H:Hp}{s:Shared}{h':Heap}{t':Nat}{ch:List Addr}(I:Inv X pins σ H s)
  (hch:∀ b∈ch,FpOk X pins H b) (k:∀ b u,b∉ch→s.heap.get? b=some u→h'.get? b=some u):Inv X pins σ H {s with heap:=h',toks:=t'}:=by
 have nch:∀ c u,H c=some u→c∉ch:=fun c u e z=>by rw [(hch c z).1] at e;cases e
 refine I.step (g':=s.gens) (d':=s.drawn) (ch:=ch) (fun b hb=>⟨(hch b hb).2.2.2.1,(hch b hb).2.1,(hch b hb).2.2.2.2.1,(hch b hb).2.2.2.2.2⟩)
  (fun b u _ _ hc e _=>k b u hc e) (fun b u _ _ hc e _=>⟨u.slots,k b u hc e⟩) (fun _ _ _ _ q=>q) (fun b u hc e=>⟨u,k b u hc e⟩)
  (fun _ _ q=>q) (fun _ _ _ q=>q) (fun b ps q=>⟨#[],by rw [q];simp⟩) (fun m hm=>?_) (fun b u e=>?_) I.bare
 ·exact hm.at' fun ob e=>k _ ob (fun z=>(hch _ z).2.1 rfl) e
 ·refine (I.hok b u e).stay (fun c v hc q=>k c v ?_ q) (fun c q=>q) fun c xs q=>q
  rcases hc with rfl | hc
  ·exact nch _ _ e
  ·exact nch _ _ hc
theorem zlf {n:Nat}{l1 l2:Addr}(a1:l1≠n+4)(a2:l1≠n+3)(a3:l1≠n)(a4:l1≠n+1)(b1:l2≠n+4)(b2:l2≠n+3)(b3:l2≠n)(b4:l2≠n+1):ZipApart (n+4) (n+2) (n+3) n (n+1) l1 l2:=
 ⟨far 2 4 (by decide),far 3 4 (by decide),far 0 4 (by decide),far 1 4 (by decide),far 2 3 (by decide),far 2 0 (by decide),far 2 1 (by decide),far 3 0 (by decide),far 3 1 (by decide),far 0 1 (by decide),a1,a2,a3,a4,b1,b2,b3,b4⟩
theorem zoi {P:Program}{w:World}{K:PySem.W.Frag}{elts:List Expr}{k:Nat}{tp:Pos}(a b:Addr)(n:Nat):
  Turn P w K (.Tuple elts k tp) (Itz a b) [n+4,n+2,n+3,n,n+1] (n+4)
   (fun i h=>IsZip h (n+4) (n+2) (n+3) .none∧IsPair h (n+2) (.ref n) (.ref (n+1))∧(∃ u v,IsPair h (n+3) u v)∧h.IsListIter n a i∧h.IsListIter (n+1) b i) where
 mem:=by simp
 obj:=fun i h st c hc=>by
  obtain ⟨hz,hI,⟨u,v,hO⟩,⟨o1,e1,_,d1⟩,⟨o2,e2,_,d2⟩⟩:=st
  simp only [yR,qK,or_false] at hc
  rcases hc with rfl | rfl | rfl | rfl | rfl
  ·exact ⟨_,hz,fun v z=>nomatch z⟩
  ·exact ⟨_,hI,fun v z=>nomatch z⟩
  ·exact ⟨_,hO,fun v z=>nomatch z⟩
  ·exact ⟨o1,e1,fun v z=>by rw [d1] at z;cases z⟩
  ·exact ⟨o2,e2,fun v z=>by rw [d2] at z;cases z⟩
 keep:=fun i h h' st kp=>by
  obtain ⟨hz,hI,⟨u,v,hO⟩,h1,h2⟩:=st
  exact ⟨kp _ (by simp) _ hz,kp _ (by simp) _ hI,⟨u,v,kp _ (by simp) _ hO⟩,h1.at fun o q=>kp _ (by simp) o q,h2.at fun o q=>kp _ (by simp) o q⟩
 item:=by
  intro X hP hw hK hc i pins s σ H E I hf st hg
  subst hP hw hK
  obtain ⟨hz,hI,⟨u,v,hO⟩,h1,h2⟩:=st
  obtain ⟨xs,ys,x,y,ha,hb,hx,hy⟩:=hg
  obtain ⟨its,rv,p1,_⟩:=I.list (.of ha)
  obtain ⟨its2,rv2,p2,_⟩:=I.list (.of hb)
  obtain ⟨u1,hu1,ru1⟩:=rv.get hx
  obtain ⟨u2,hu2,ru2⟩:=rv2.get hy
  have no:∀ {l:Addr} {o:HO},H l=some o→∀ c∈[n+4,n+2,n+3,n,n+1],l≠c:=fun e c hc z=>by
   rw [z,(hf c hc).1] at e
   cases e
  have D:ZipApart (n+4) (n+2) (n+3) n (n+1) a b:=zlf (no ha (n+4) (by simp)) (no ha (n+3) (by simp)) (no ha n (by simp)) (no ha (n+1) (by simp)) (no hb (n+4) (by simp)) (no hb (n+3) (by simp)) (no hb n (by simp)) (no hb (n+1) (by simp))
  refine wpAny_pyNext_zip_item D hz hI hO h1 h2 p1.isList p2.isList (x:=u1) (y:=u2) (by simpa using hu1) (by simpa using hu2) fun h' z1 z2 z3 z4 z5 z6 hk=>?_
  have new:∀ {c:Addr} {o:Obj},s.heap.get? c=some o→c≠s.heap.objs.size:=fun e=>qC (yV e)
  have I1:Inv X pins σ (upd H s.heap.objs.size (.tup [x,y])) {s with heap:=h'}:=
   I.laidC (t':=s.toks) (ch:=[n+4,n+2,n+3,n,n+1]) hf (fun c o hc q=>hk c o (fun z=>hc (by simp [z])) (fun z=>hc (by simp [z])) (fun z=>hc (by simp [z])) (fun z=>hc (by simp [z])) q) (yN _)
    ⟨(by show 2≤yM;decide),[u1,u2],.cons ru1 (.cons ru2 .nil),_,z5,rfl,_,rfl⟩
  refine ⟨_,rfl,wpAny_letOwnedTupleGo_zip z1 fun h2' w1 sb=>?_⟩
  have fz:=hf (n+4) (by simp)
  have I2:Inv X pins σ (upd H s.heap.objs.size (.tup [x,y])) {s with heap:=h2'}:=
   I1.turned (t':=s.toks) (fun c o hc q=>(sb.2 c hc).trans q) (by rw [zai (new hz)];exact fz.1) fz.2.1 fz.2.2.2.1 fz.2.2.2.2.1 fz.2.2.2.2.2
  refine ⟨.ref s.heap.objs.size,_,I2,rfl,⟨_,x,y,I.hok.fresh (yN _),rfl,rfl,fun xs' ys' hxs hys=>?_⟩,⟨w1,?_,⟨u1,u2,?_⟩,?_,?_⟩,fun c hc=>?_⟩
  ·rw [ha] at hxs
   rw [hb] at hys
   cases hxs
   cases hys
   exact ⟨hx,hy⟩
  ·exact sb.extBut _ _ (far 2 4 (by decide)) (hk _ _ (far 2 4 (by decide)) (far 2 3 (by decide)) (far 2 0 (by decide)) (far 2 1 (by decide)) hI)
  ·exact sb.extBut _ _ (far 3 4 (by decide)) z2
  ·exact z3.extBut sb.extBut (far 0 4 (by decide))
  ·exact z4.extBut sb.extBut (far 1 4 (by decide))
  ·have hn:c≠s.heap.objs.size:=by
    simp only [yR,qK,or_false] at hc
    rcases hc with rfl | rfl | rfl | rfl | rfl
    ·exact new hz
    ·exact new hI
    ·exact new hO
    ·obtain ⟨o,e,_⟩:=h1;exact new e
    ·obtain ⟨o,e,_⟩:=h2;exact new e
   rw [zai hn]
   exact (hf c hc).1
 done:=by
  intro X hP hw hK hc i pins s σ H E I hf st hg
  subst hP hw hK
  obtain ⟨hz,hI,⟨u,v,hO⟩,h1,h2⟩:=st
  obtain ⟨xs,ys,ha,hb,hx⟩:=hg
  obtain ⟨its,rv,p1,_⟩:=I.list (.of ha)
  obtain ⟨its2,rv2,p2,_⟩:=I.list (.of hb)
  have no:∀ {l:Addr} {o:HO},H l=some o→∀ c∈[n+4,n+2,n+3,n,n+1],l≠c:=fun e c hc z=>by
   rw [z,(hf c hc).1] at e
   cases e
  have D:ZipApart (n+4) (n+2) (n+3) n (n+1) a b:=zlf (no ha (n+4) (by simp)) (no ha (n+3) (by simp)) (no ha n (by simp)) (no ha (n+1) (by simp)) (no hb (n+4) (by simp)) (no hb (n+3) (by simp)) (no hb n (by simp)) (no hb (n+1) (by simp))
  have l1:=rv.length
  have l2:=rv2.length
  refine wpAny_pyNext_zip_end (I.ok.hd hc) D hz hI hO h1 h2 p1.isList p2.isList (hx.elim (fun q=>.inl (by simp;omega)) fun q=>.inr (by simp;omega)) fun h' hk=>⟨rfl,?_⟩
  exact I.turnedC (t':=s.toks) (ch:=[n+4,n+2,n+3,n,n+1]) hf fun c o hc q=>hk c o (fun z=>hc (by simp [z])) (fun z=>hc (by simp [z])) (fun z=>hc (by simp [z])) (fun z=>hc (by simp [z])) q
 self:=fun _ _ _ _ _ st h=>wpAny_pyIter_zip st.1 h
noncomputable def iZip (ta:TA):TI:=fun σ H R=>ta σ H fun vs H1=>∃ a b xs ys,vs= [.ref a,.ref b]∧H1 a=some (.lst xs)∧H1 b=some (.lst ys)∧R (Itz a b) H1
theorem pi_zip {X:Cx}{e1 e2:Expr}{ta:TA}{p pos tp:Pos}{elts:List Expr}{k:Nat}(hg:Gl X "zip")(hm:X.mg "zip" =none)(ha:PA X [e1,e2] ta)
  (hs:starEach [e1,e2] X.env= [(false,eval e1 X.env),(false,eval e2 X.env)]:=by rfl) (hs2:starEach [e2] X.env= [(false,eval e2 X.env)]:=by rfl):PI X (.Tuple elts k tp) (.Call (.Name "zip" p) [e1,e2] [] pos) (iZip ta):=by
 intro pins s σ H R I h
 refine Call_ (zf3 I hg hm boot_zip (xI (thn (ha pos pins s σ H _ I h) fun us s1 ⟨vs,H1,I1,r1,q1⟩=>?_) (by rw [hs,hs2]) (by rw [hs2];rfl)))
 obtain ⟨a,b,xs,ys,e,ha',hb',q⟩:=q1
 subst e
 cases r1 with
 | cons r rr=>
  cases rr with
  | cons r' rr=>
   cases rr
   cases r
   cases r'
   obtain ⟨its,rv,p1,_⟩:=I1.list (.of ha')
   obtain ⟨its2,rv2,p2,_⟩:=I1.list (.of hb')
   refine call_zip_2 p1.isList p2.isList fun h' z1 z2 z3 z4 z5 z6 hk=>wpAny_pyIter_zip z1 ?_
   refine ⟨s1.heap.objs.size+4,[s1.heap.objs.size+4,s1.heap.objs.size+2,s1.heap.objs.size+3,s1.heap.objs.size,s1.heap.objs.size+1],_,_,H1,rfl,I1.kept (t':=s1.toks) hk,zoi a b s1.heap.objs.size,⟨z1,z2,⟨_,_,z3⟩,z4,z5⟩,fun c hc=>?_,q⟩
   have le:s1.heap.objs.size≤c:=by
    simp only [yR,qK,or_false] at hc
    rcases hc with rfl | rfl | rfl | rfl | rfl
    ·exact kB _ _
    ·exact kB _ _
    ·exact kB _ _
    ·exact yN _
    ·exact kB _ _
   exact I1.fpOk le (I1.hok.fresh le)
theorem zqd {a b:Addr}{xs ys:List V}{g:TG}{tb:TS}{D:Ends}{σ :St}{H:Hp}(hlen:xs.length=ys.length)(Pv:Nat→St→Hp→Prop)(h0:Pv 0 σ H)
  (hl:∀ i σ H,i≤xs.length→Pv i σ H→H a=some (.lst xs)∧H b=some (.lst ys))
  (hs:∀ i x y σ H T,xs[i]? =some x→ys[i]? =some y→Pv i σ H→H T=none→g (.ref T) σ (upd H T (.tup [x,y])) fun σ2 H2=>tb {D with nx:=Pv (i+1),ct:=Pv (i+1),bk:=D.nx} σ2 H2)
  (hd:∀ σ H,Pv xs.length σ H→D.nx σ H):
  ∃ W:Nat→Nat→St→Hp→Prop,(∃ m,W 0 m σ H)∧∀ i m σ H,W i m σ H→
   ((Itz a b).stop i H ∧ D.nx σ H) ∨ ((Itz a b).go i H ∧ ∃ N : St → Hp → Prop, (∀ σ' H', N σ' H' → ∃ m', m' < m ∧ W (i + 1) m' σ' H') ∧
     ∀ x H',(Itz a b).yld i H x H'→g x σ H' fun σ2 H2=>tb {D with nx:=N,ct:=N,bk:=D.nx} σ2 H2):=by
 refine ⟨fun i m σ H=>m=xs.length - i∧i≤xs.length∧Pv i σ H,⟨xs.length,by simp,qL _,h0⟩,?_⟩
 rintro i m σ H ⟨rfl,hi,p⟩
 obtain ⟨qa,qb⟩:=hl i σ H hi p
 by_cases hlt:i < xs.length
 ·refine .inr ⟨⟨xs,ys,xs[i],ys[i],qa,qb,by simp [hlt],yC _⟩,Pv (i+1),fun σ' H' p'=>⟨xs.length - (i+1),by omega,rfl,hlt,p'⟩,fun x H' y=>?_⟩
  obtain ⟨T,u,v,hT,e1,e2,y⟩:=y
  subst e1 e2
  obtain ⟨y1,y2⟩:=y xs ys qa qb
  exact hs i u v σ H T y1 y2 p hT
 ·have e:i=xs.length:=by omega
  subst e
  exact .inl ⟨⟨xs,ys,qa,qb,.inl (yN _)⟩,hd σ H p⟩
theorem zmE {X:Cx}{e1 e2:Expr}{ta:TA}{p pos tp:Pos}{elts:List Expr}{k:Nat}(hg:Gl X "zip")(hm:X.mg "zip" =none)(ha:Bx (PA X [e1,e2] ta))
  (hs:starEach [e1,e2] X.env= [(false,eval e1 X.env),(false,eval e2 X.env)]:=by rfl) (hs2:starEach [e2] X.env= [(false,eval e2 X.env)]:=by rfl):Bx (PI X (.Tuple elts k tp) (.Call (.Name "zip" p) [e1,e2] [] pos) (iZip ta)):=⟨pi_zip hg hm ha.1 hs hs2⟩
theorem zmv {X:Cx}:MtR X "int.bit_length" (fun x xs H Q=>∃ i:Int,x= .int i∧xs= []∧Q (.int ((qS i:Nat):Int)) H):=by
 intro pins s σ H x xs v us Q I rx rs h
 obtain ⟨i,rfl,rfl,q⟩:=h
 obtain ⟨t,rfl⟩:=rx
 cases rs
 exact call_int_bit_length ⟨.int _,H,I.kept (t':=s.toks+1) fun _ _ e=>e,⟨_,rfl⟩,q⟩
theorem zqq (n:Nat):n < 2 ^ qS (n:Int):=by
 unfold qS
 by_cases h:n=0
 ·subst h
  decide
 ·have:((n:Int)==0)=false:=by simpa using h
  rw [this]
  show n < 2 ^ ((n:Int).natAbs.log2+1)
  rw [Int.natAbs_natCast]
  exact Nat.lt_log2_self
noncomputable def EntD (h:Heap) (d:Addr) (es:Array DictEntry) (ep:Nat):Prop:=∃ ob,h.get? d=some ob∧ob.ExactDict∧ob.data= .dict es ep
section
variable {prog:Program} {w:World} {A:Around} {E:Value→Shared→Prop} {s:Shared}
theorem zlM {d:Addr}{es:Array DictEntry}{ep:Nat}{Q:Value→Shared→Prop}(nd:(d==sysModules)=false)(hE:EntD s.heap d es ep)
  (q:Q (.ref s.heap.objs.size) {s with heap:=s.heap.push {cls:=.type "dict_items",data:=.fields #[.ref d]}}):wpAny (model prog w) A (call (.builtin "dict.items") [.ref d]) Q E s:=by
 obtain ⟨ob,e1,⟨e2,_,_⟩,e3⟩:=hE
 have ty:s.TypeIs (.ref d) "dict" :=⟨ob,e1,e2⟩
 refine wpAny_call_entry ybj ty PySem.F.entry_dict_items ?_ (PySem.F.args_dict_items_1 _)
 unfold Builtin.«dict.items» yaX
 refine yA (yA (wpAny_notOrdered_dict ty ?_))
 show wpAny _ _ (pure d) _ _ s
 refine yD (?_:wpAny _ _ (xV d >>=_) _ _ s)
 unfold xV
 rw [nd]
 exact yA (yD (yA (wpAny_newObj_type (yD ⟨_,rfl,q⟩))))
theorem zlJ {v d:Addr}{es:Array DictEntry}{ep:Nat}{Q:Value→Shared→Prop}(hv:s.heap.IsItemsView v d)(hE:EntD s.heap d es ep)
  (q:Q (.ref s.heap.objs.size) {s with heap:=s.heap.push {cls:=.type "dict_itemiterator",data:=.fields #[.none,.bool false,.ref d,.int 0 0,.int es.size 0,.int ep 0,.none,.none]}}):
  wpAny (model prog w) A (pyIter (.ref v)) Q E s:=by
 obtain ⟨vo,v1,v2,v3⟩:=id hv
 obtain ⟨ob,e1,_,e3⟩:=hE
 refine wpAny_pyIter_slot hv.typeIs yaN (wpAny_call_entry yaN hv.typeIs PySem.F.entry_dict_items_iter ?_ (PySem.F.args_dict_items_iter_1 _))
 unfold Builtin.«dict_items.__iter__»
 refine yA (yD (yA ?_))
 unfold ya5
 refine yA (wpAny_field v1 v3 (x:=.ref d) rfl (yD (yA ?_)))
 unfold yaF
 refine yA (wpAny_dictEntries e1 e3 (yA (wpAny_dictEpoch e1 e3 ?_)))
 simp only [show jR "dict_itemiterator" =true by decide,if_true]
 refine wpAny_newObj_type (yD ⟨_,rfl,"dict_itemiterator",_,⟨_,yT _ rfl,rfl⟩,xD.lookup,?_⟩)
  (by simp only [sizeOk,yad,yW,yJ,qY,vW,sizeLine_eq];omega)
 simpa [rawInt,yad] using q
theorem zl8 {it d:Addr}{i ep:Nat}{es:Array DictEntry}{en:DictEntry}{a b:Value}{Q:Option Value→Shared→Prop}(hJ:IsItemIter s.heap it d i es.size ep a b)(hE:EntD s.heap d es ep)(hx:es[i]? =some en)
  (q:∀ h',IsItemIterOut h' it d (i+1) es.size ep en.key en.val s.heap.objs.size→h'.get? s.heap.objs.size=some {cls:=.type "tuple",data:=.seq #[en.key,en.val]}→
   (∀ c o,c≠it→s.heap.get? c=some o→h'.get? c=some o)→Q (some (.ref s.heap.objs.size)) {s with heap:=h'}):wpAny (model prog w) A (pyNext (.ref it)) Q E s:=by
 obtain ⟨hp,gg,dr,tk,os⟩:=s
 obtain ⟨ob,e1,_,e3⟩:=hE
 have ty:yaq ⟨hp,gg,dr,tk,os⟩ (.ref it) "dict_itemiterator" :=⟨_,hJ,rfl⟩
 have li:i < es.size:=(ya1.mp hx).1
 have ei:es[i]=en:=(ya1.mp hx).2
 unfold pyNext
 refine yA (wpAny_attempt (wpAny_callSpecial?_slot (name:=kH "__next__") ty xD
  (wpAny_call_entry xD ty wW ?_ (wQ _))))
 refine yA (yD (yA (yA ?_)))
 first | refine yA (wpAny_typeNameOfWhole_itemiter ty (yD ?_)) | refine yA (wpAny_typeNameOf_itemiter ty (yD ?_))
 refine yA (wpAny_fieldsOf hJ rfl ?_)
 simp only [show jR "dict_itemiterator" =true by decide,if_true]
 show wpAny _ _ (if (Value.ref d==Value.none)=true then _ else _) _ _ _
 rw [show (Value.ref d==Value.none)=false from rfl,if_neg yS]
 refine yA (yD (yA (wpAny_dictEntries e1 e3 ?_)))
 rw [if_neg (by simp)]
 refine yA (yD (yA (wpAny_dictEpoch e1 e3 ?_)))
 rw [if_neg (by simp)]
 refine yD ?_
 simp only [show ¬(i:Int) < 0 from by omega,if_false,jN,hx]
 refine yA ?_
 first | refine yA (wpAny_typeNameOfWhole_itemiter ty (yD ?_)) | refine yA (wpAny_typeNameOf_itemiter ty (yD ?_))
 refine yA (wpAny_isOneOf_itemiter ty ?_)
 show wpAny _ _ (setField (.ref it) 3 (rawInt ((i:Int)+1)) >>=_) _ _ ⟨hp,gg,dr,tk,os⟩
 refine yA (wpAny_setField_rec hJ (by simp) fun k1 j1 t1=>?_)
 have t1':qH it hp k1:=t1
 have j1':IsItemIter k1 it d (i+1) es.size ep a b:=by
  unfold IsItemIter
  rw [show ((i+1:Nat):Int)=(i:Int)+1 by omega]
  simpa [rawInt] using j1
 have ty1:yaq ⟨k1,gg,dr,tk,os⟩ (.ref it) "dict_itemiterator" :=⟨_,j1',rfl⟩
 refine yA (wpAny_holding (yA (wpAny_isOneOf_itemiter ty1 (yA (wpAny_isOneOf_itemiter ty1 ?_)))))
 show wpAny _ _ (yau (.ref it) 6 en.key en.val) _ _ ⟨k1,gg,dr,tk,os⟩
 unfold yau
 refine yA (wpAny_newTuple ?_)
 have size1:k1.objs.size=hp.objs.size:=t1'.1
 have lit:it < hp.objs.size:=yV hJ
 obtain ⟨k2,ek2⟩:∃ k2,k1.push {cls:=.type "tuple",data:=.seq #[en.key,en.val]}=k2:=⟨_,rfl⟩
 have j2:IsItemIter k2 it d (i+1) es.size ep a b:=by rw [← ek2];exact yI _ j1'
 have p2:k2.get? hp.objs.size=some {cls:=.type "tuple",data:=.seq #[en.key,en.val]}:=by rw [← ek2,← size1];exact yT _ rfl
 have m2:∀ c o,c≠it→hp.get? c=some o→k2.get? c=some o:=fun c o hc e=>by rw [← ek2];exact yI _ (t1'.extBut c o hc e)
 show wpAny _ _ (yae (.ref it) >>=_) _ _ ⟨k1.push {cls:=.type "tuple",data:=.seq #[en.key,en.val]},gg,dr,tk,os⟩
 rw [ek2,size1]
 refine yA ?_
 unfold yae
 refine yA (wpAny_field j2 rfl (x:=.none) rfl (yD ?_))
 simp only [if_true]
 refine yA (wpAny_field j2 rfl (x:=a) rfl (yA (wpAny_field j2 rfl (x:=b) rfl ?_)))
 refine yA (wpAny_setField_rec j2 (by simp) fun k3 j3 t3=>?_)
 have j3':IsItemIter k3 it d (i+1) es.size ep en.key b:=j3
 refine yA (wpAny_setField_rec j3' (by simp) fun k4 j4 t4=>?_)
 have j4':IsItemIter k4 it d (i+1) es.size ep en.key en.val:=j4
 refine yA (wpAny_setField_rec j4' (by simp) fun k5 j5 t5=>?_)
 have j5':IsItemIterOut k5 it d (i+1) es.size ep en.key en.val hp.objs.size:=j5
 refine yA (wpAny_setField_rec j5' (by simp) fun k6 j6 t6=>?_)
 have j6':IsItemIterOut k6 it d (i+1) es.size ep en.key en.val hp.objs.size:=j6
 have all:∀ c o,c≠it→k2.get? c=some o→k6.get? c=some o:=fun c o hc e=>
  yaf (show qH it k5 k6 from t6) c o hc (yaf (show qH it k4 k5 from t5) c o hc (yaf (show qH it k3 k4 from t4) c o hc (yaf (show qH it k2 k3 from t3) c o hc e)))
 exact yA (wpAny_letGo (yD (yD ⟨_,rfl,yD (q k6 j6' (all _ _ (kE lit) p2) fun c o hc e=>all c o hc (m2 c o hc e))⟩)))
theorem zmG {it d:Addr}{i ep:Nat}{es:Array DictEntry}{a b:Value}{Q:Option Value→Shared→Prop}(hh:A.handled=none)(hJ:IsItemIter s.heap it d i es.size ep a b)(hE:EntD s.heap d es ep)(hx:es.size≤i)
  (q:∀ h',ybJ it s.heap h'→Q none {s with heap:=h'}):wpAny (model prog w) A (pyNext (.ref it)) Q E s:=by
 obtain ⟨ob,e1,_,e3⟩:=hE
 have ty:s.TypeIs (.ref it) "dict_itemiterator" :=⟨_,hJ,rfl⟩
 unfold pyNext
 refine yA (wpAny_attempt (wpAny_callSpecial?_slot (name:=kH "__next__") ty xD
  (wpAny_call_entry xD ty wW ?_ (wQ _))))
 refine yA (yD (yA (yA ?_)))
 first | refine yA (wpAny_typeNameOfWhole_itemiter ty (yD ?_)) | refine yA (wpAny_typeNameOf_itemiter ty (yD ?_))
 refine yA (wpAny_fieldsOf hJ rfl ?_)
 simp only [show jR "dict_itemiterator" =true by decide,if_true]
 show wpAny _ _ (if (Value.ref d==Value.none)=true then _ else _) _ _ s
 rw [show (Value.ref d==Value.none)=false from rfl,if_neg yS]
 refine yA (yD (yA (wpAny_dictEntries e1 e3 ?_)))
 rw [if_neg (by simp)]
 refine yA (yD (yA (wpAny_dictEpoch e1 e3 ?_)))
 rw [if_neg (by simp)]
 refine yD ?_
 simp only [show ¬(i:Int) < 0 from by omega,if_false,jN,xQ hx]
 refine yA ?_
 first | refine yA (wpAny_typeNameOfWhole_itemiter ty (yD ?_)) | refine yA (wpAny_typeNameOf_itemiter ty (yD ?_))
 show wpAny _ _ (setField (.ref it) 2 .none >>=_) _ _ s
 refine yA (wpAny_setField hJ rfl (by simp) ?_)
 show wpAny _ _ (newExc (.type "StopIteration") [] >>=_) _ _ _
 refine yA ?_
 simp only [newExc,newTuple]
 refine yA (wpAny_newObj_type ?_ (by size_fits))
 refine yA (m:=firstArgMember _ _) (wpAny_of_eq (a:=Value.none) (by first | rfl | (simp only [firstArgMember];rfl)) (wpAny_newObj_type ?_ (by size_fits)))
 simp only [raiseNew]
 refine yA (wpAny_handled ?_)
 rw [show A.in1.handled=none from hh]
 refine yA (yD (wpAny_throw (?_:wpAny _ _ _ _ _ _)))
 refine yA (wpAny_isInstance (b:=true) (T:="StopIteration") ⟨_,yT _ rfl,rfl⟩ isSubtype_stop ?_)
 exact yD (q _ (((jA ..).extBut.push _).push _))
end
theorem Inv.freeze {X:Cx}{pins:List (Addr×Obj)}{σ :St}{H:Hp}{s:Shared}{d:Addr}{kvs:List (List Key×V)}{ob:Obj}(I:Inv X pins σ H s)(hd:H d=some (.dT kvs))(ho:s.heap.get? d=some ob):
  Inv X pins σ (upd H d (.frz ob (.dT kvs))) s:=by
 have nT:∀ {b:Addr} {u:HO},H b=some u→u≠.dT kvs→b≠d:=fun e n z=>by
  rw [z,hd] at e
  exact n (qF e).symm
 refine I.step (h':=s.heap) (g':=s.gens) (d':=s.drawn) (t':=s.toks) (ch:=[]) (fun b hb=>(qK hb).elim) (fun b u _ _ _ e _=>e) (fun b u _ _ _ e _=>⟨u.slots,e⟩)
  (fun b u _ _ n=>by rw [zai (fun z=>by rw [z,hd] at n;cases n)];exact n) (fun b u _ e=>⟨u,e⟩)
  (fun b xs q=>by rw [zai (nT q (fun z=>by cases z))];exact q) (fun b u xs q=>by rw [zai (nT q (fun z=>by cases z))];exact q)
  (fun b ps q=>⟨#[],by rw [zai (nT q (fun z=>by cases z)),q];simp⟩) (fun m hm=>hm) (fun b u e=>?_) I.bare
 have go:∀ u',zbM X.prog X.w H s.heap b u'→zbM X.prog X.w (upd H d (.frz ob (.dT kvs))) s.heap b u':=fun u' h=>
  h.stay (fun c v _ q=>q) (fun c q=>by rw [zai (nT q (fun z=>by cases z))];exact q) fun c xs q=>q.keep fun u eu hu=>by rw [zai (nT eu (fun z=>by obtain ⟨ys,hu | ⟨_,hu⟩⟩:=hu <;> (rw [hu] at z;cases z)))];exact eu
 by_cases hb:b=d
 ·subst hb
  rw [zab] at e
  cases e
  exact ⟨ho,go _ (I.hok b _ hd)⟩
 ·rw [zai hb] at e
  exact go u (I.hok b u e)
noncomputable def Iti (d:Addr) (ob:Obj):It:=
 ⟨fun i H => ∃ kvs p, H d = some (.frz ob (.dT kvs)) ∧ kvs[i]? = some p,
  fun i H v H'=>∃ T b k x,H T=none∧v= .ref T∧H'=upd H T (.tup [.ref b,x])∧RdT H b (k.map kV)∧∀ kvs,H d=some (.frz ob (.dT kvs))→kvs[i]? =some (k,x),
  fun i H=>∃ kvs,H d=some (.frz ob (.dT kvs))∧kvs.length≤i⟩
theorem zaS {α β :Type}{r: α→β→Prop}:∀ {xs:List α} {ys:List β} {i:Nat} {x: α},Paired r xs ys→xs[i]? =some x→∃ y,ys[i]? =some y∧r x y
 | _,_,0,_,.cons h _,e=>by cases e;exact ⟨_,rfl,h⟩
 | _,_,i+1,_,.cons _ t,e=>zaS (i:=i) t e
theorem zmx {X:Cx}{pins:List (Addr×Obj)}{σ :St}{H:Hp}{s:Shared}{d:Addr}{ob:Obj}{kvs:List (List Key×V)}{es:Array DictEntry}{ep:Nat}(I:Inv X pins σ H s)(hd:H d=some (.frz ob (.dT kvs)))(hx:ob.ExactDict)(he:ob.data= .dict es ep):
  EntD s.heap d es ep∧es.size=kvs.length∧∀ (i:Nat) p,kvs[i]? =some p→∃ (en:DictEntry) (b:Addr),es[i]? =some en∧en.key= .ref b∧RdT H b (p.1.map kV)∧RelV p.2 en.val:=by
 obtain ⟨h1,_,_,xs,pr,o,es',ep',e1,_,e3,e4,_⟩:=(show zbM X.prog X.w H s.heap d (.frz ob (.dT kvs)) from I.hok d _ hd)
 rw [h1] at e1
 cases e1
 rw [he] at e3
 cases e3
 have ls:es.size=xs.length:=by
  have:=congrArg vI e4
  simpa using this
 refine ⟨⟨ob,h1,hx,he⟩,by rw [ls];exact (qI pr).symm,fun i p hp=>?_⟩
 obtain ⟨y,hy,r1,r2,r3⟩:=zaS pr hp
 have hz:es.toList[i]? =some (entryOfKey (tupleKind (zaw X.prog X.w)) y):=by rw [e4,yG,hy];rfl
 exact ⟨_,y.2.1,by simpa using hz,rfl,r2,r3⟩
theorem zlY {P:Program}{w:World}{K:PySem.W.Frag}{elts:List Expr}{k:Nat}{tp:Pos}{ob:Obj}{es:Array DictEntry}{ep:Nat}(d it:Addr)(hx:ob.ExactDict)(he:ob.data= .dict es ep):
  Turn P w K (.Tuple elts k tp) (Iti d ob) [it] it (fun i h=>∃ u v,IsItemIter h it d i es.size ep u v) where
 mem:=by simp
 obj:=fun i h st c hc=>by
  obtain ⟨u,v,hJ⟩:=st
  rw [yE.mp hc]
  exact ⟨_,hJ,fun v z=>nomatch z⟩
 keep:=fun i h h' st kp=>by
  obtain ⟨u,v,hJ⟩:=st
  exact ⟨u,v,kp it (by simp) _ hJ⟩
 item:=by
  intro X hP hw hK hc i pins s σ H E I hf st hg
  subst hP hw hK
  obtain ⟨u,v,hJ⟩:=st
  obtain ⟨kvs,p,hd,hp⟩:=hg
  obtain ⟨hE,hz,each⟩:=zmx I hd hx he
  obtain ⟨en,b,h1,h2,h3,h4⟩:=each i p hp
  have fi:=hf it (by simp)
  have iT:it≠s.heap.objs.size:=qC (yV hJ)
  refine zl8 hJ hE h1 fun h' z1 z2 hk=>?_
  have I1:Inv X pins σ (upd H s.heap.objs.size (.tup [.ref b,p.2])) {s with heap:=h'}:=
   I.laidC (t':=s.toks) (ch:=[it]) hf (fun c o hc q=>hk c o (fun z=>hc (by simp [z])) q) (yN _)
    ⟨(by show 2≤yM;decide),[en.key,en.val],.cons h2 (.cons h4 .nil),_,z2,rfl,_,rfl⟩
  refine ⟨_,rfl,wpAny_letOwnedTupleGo_items z1 fun h2' w1 sb=>?_⟩
  have I2:Inv X pins σ (upd H s.heap.objs.size (.tup [.ref b,p.2])) {s with heap:=h2'}:=
   I1.turned (t':=s.toks) (fun c o hc q=>(sb.2 c hc).trans q) (by rw [zai iT];exact fi.1) fi.2.1 fi.2.2.2.1 fi.2.2.2.2.1 fi.2.2.2.2.2
  refine ⟨.ref s.heap.objs.size,_,I2,rfl,⟨_,b,p.1,p.2,I.hok.fresh (yN _),rfl,rfl,h3,fun kvs' hd'=>?_⟩,⟨_,_,w1⟩,fun c hc=>?_⟩
  ·rw [hd] at hd'
   cases hd'
   exact hp
  ·rw [yE.mp hc,zai iT]
   exact fi.1
 done:=by
  intro X hP hw hK hc i pins s σ H E I hf st hg
  subst hP hw hK
  obtain ⟨u,v,hJ⟩:=st
  obtain ⟨kvs,hd,hp⟩:=hg
  obtain ⟨hE,hz,_⟩:=zmx I hd hx he
  have fi:=hf it (by simp)
  exact zmG (I.ok.hd hc) hJ hE (by omega) fun h' eb=>⟨rfl,I.turned (t':=s.toks) (fun c o hc q=>eb c o hc q) fi.1 fi.2.1 fi.2.2.2.1 fi.2.2.2.2.1 fi.2.2.2.2.2⟩
 self:=fun A i s Q E st h=>by
  obtain ⟨u,v,hJ⟩:=st
  exact PySem.W.kcp_self hJ h
noncomputable def zpn (td:TE):TI:=fun σ H R=>td σ H fun x H1=>∃ d kvs,x= .ref d∧H1 d=some (.dT kvs)∧∀ ob,R (Iti d ob) (upd H1 d (.frz ob (.dT kvs)))
theorem zoL {X:Cx}{o:Expr}{td:TE}{apos cpos tp:Pos}{elts:List Expr}{k:Nat}(ho:PE X o td)
  (hbase:attributeBase o "items" X.env (eval o X.env)=eval o X.env:=by rfl) (hline:(apos.endLine==cpos.line)=true:=by rfl):PI X (.Tuple elts k tp) (.Call (.Attribute o "items" apos) [] [] cpos) (zpn td):=by
 intro pins s σ H R I h
 refine wpAny_Call_method0_late hbase hline (thn (ho pins s σ H _ I h) fun v s1 ⟨x,H1,I1,r1,d,kvs,ex,hd,q⟩=>?_)
 subst ex
 cases r1
 obtain ⟨_,nsys,xs,pr,ob,es,ep,e1,e2,e3,e4,e5⟩:=(show zbM X.prog X.w H1 s1.heap d (.dT kvs) from I1.hok d _ hd)
 have I2:=I1.freeze hd e1
 refine ⟨"dict","dict.items",vQ,ybj,PySem.F.type_dict_items,⟨ob,e1,e2.1⟩,fun a z=>by cases z;exact ⟨ob,e1,e2.2.1⟩,vZ rfl (yaU ?_)⟩
 refine zlM (es:=es) (ep:=ep) nsys ⟨ob,e1,e2,e3⟩ ?_
 have hE:EntD (s1.heap.push {cls:=.type "dict_items",data:=.fields #[.ref d]}) d es ep:=⟨ob,yI _ e1,e2,e3⟩
 refine zlJ (es:=es) (ep:=ep) ⟨_,yT _ rfl,rfl,rfl⟩ hE ?_
 have I3:Inv X pins σ (upd H1 d (.frz ob (.dT kvs))) {s1 with heap:=(s1.heap.push {cls:=.type "dict_items",data:=.fields #[.ref d]})}:=I2.kept (t':=s1.toks) fun b u e=>yI _ e
 refine ⟨(s1.heap.push {cls:=.type "dict_items",data:=.fields #[.ref d]}).objs.size,[(s1.heap.push {cls:=.type "dict_items",data:=.fields #[.ref d]}).objs.size],_,_,_,rfl,I3.kept (t':=s1.toks) fun b u e=>yI _ e,
  zlY d _ e2 e3,⟨_,_,yT _ rfl⟩,fun b hb=>?_,q ob⟩
 rw [yE.mp hb]
 exact I3.fpOk (yN _) (I3.hok.fresh (yN _))
theorem zgH {X:Cx}{o:Expr}{td:TE}{apos cpos tp:Pos}{elts:List Expr}{k:Nat}(ho:Bx (PE X o td))
  (hbase:attributeBase o "items" X.env (eval o X.env)=eval o X.env:=by rfl) (hline:(apos.endLine==cpos.line)=true:=by rfl):Bx (PI X (.Tuple elts k tp) (.Call (.Attribute o "items" apos) [] [] cpos) (zpn td)):=⟨zoL ho.1 hbase hline⟩
section
variable {g:TG} {tt:TT} {te:TE} {n0:Nat} {cap:List Nat} {σ :St} {Q:VK} {D:Addr} {H1:Hp}
theorem zhO {d:Addr}{ob:Obj}{kvs:List (List Key×V)}(Pv:Nat→Hp→Prop)(h0:Pv 0 (upd H1 D (.lst [])))(hl:∀ i H,i≤kvs.length→Pv i H→H d=some (.frz ob (.dT kvs)))
  (hs:∀ i b p H T,kvs[i]? =some p→Pv i H→H T=none→RdT H b (p.1.map kV)→g (.ref T) (zbC n0 cap σ) (upd H T (.tup [.ref b,p.2])) fun σ2 H2=>tt σ2 H2 fun c H3=>if c=true then te σ2 H3 fun y H4=>∃ xs,H4 D=some (.lst xs)∧xs.length < yM∧Pv (i+1) (upd H4 D (.lst (xs++ [y]))) else Pv (i+1) H3)
  (hd:∀ H,Pv kvs.length H→Q (.ref D) H):zdf (Iti d ob) D n0 cap σ g tt te Q H1:=by
 refine ⟨fun i m H=>m=kvs.length - i∧i≤kvs.length∧Pv i H,⟨kvs.length,by simp,qL _,h0⟩,?_⟩
 rintro i m H ⟨rfl,hi,p⟩
 have q:=hl i H hi p
 by_cases hlt:i < kvs.length
 ·refine .inr ⟨⟨kvs,kvs[i],q,by simp [hlt]⟩,Pv (i+1),fun H' p'=>⟨kvs.length - (i+1),by omega,rfl,hlt,p'⟩,fun x H' y=>?_⟩
  obtain ⟨T,b,k,z,hT,e1,e2,hb,y⟩:=y
  subst e1 e2
  exact hs i b (k,z) H T (y kvs q) p hT hb
 ·have e:i=kvs.length:=by omega
  subst e
  exact .inl ⟨⟨kvs,q,yN _⟩,hd H p⟩
end
theorem HOk.thaw {P:Program}{w:World}{H:Hp}{h:Heap}{d:Addr}{ob:Obj}{kvs:List (List Key×V)}(k:HOk P w H h)(hd:H d=some (.frz ob (.dT kvs))):HOk P w (upd H d (.dT kvs)) h:=by
 have nT:∀ {b:Addr} {u:HO},H b=some u→u≠.frz ob (.dT kvs)→b≠d:=fun e n z=>by
  rw [z,hd] at e
  exact n (qF e).symm
 have go:∀ (b:Addr) u',zbM P w H h b u'→zbM P w (upd H d (.dT kvs)) h b u':=fun b u' x=>
  x.stay (fun c v _ q=>q) (fun c q=>by rw [zai (nT q (fun z=>by cases z))];exact q) fun c xs q=>q.keep fun u eu hu=>by rw [zai (nT eu (fun z=>by obtain ⟨ys,hu | ⟨_,hu⟩⟩:=hu <;> (rw [hu] at z;cases z)))];exact eu
 intro b u e
 by_cases hb:b=d
 ·subst hb
  rw [zab] at e
  cases e
  exact go b _ (k b _ hd).2
 ·rw [zai hb] at e
  exact go b u (k b u e)
theorem Un.thaw {fs ex:List Addr}{H H':Hp}{h h':Heap}{d:Addr}{o u:HO}(x:Un fs ex H H' h h')(hd:H d=some o)(n1:∀ xs,o≠.tup xs)(n2:∀ a b,o≠.frz a b)(n3:∀ ps,o≠.tbl ps):Un fs ex H (upd H' d u) h h' where
 keep:=x.keep
 slot:=x.slot
 free:=fun b ob q n hx=>by
  rw [zai (fun z=>by rw [z,hd] at n;cases n)]
  exact x.free b ob q n hx
 there:=x.there
 tups:=fun b xs q=>by
  rw [zai (fun z=>by rw [z,hd] at q;exact n1 _ (qF q))]
  exact x.tups b xs q
 frzs:=fun b a c q=>by
  rw [zai (fun z=>by rw [z,hd] at q;exact n2 _ _ (qF q))]
  exact x.frzs b a c q
 tbls:=fun b ps q=>by
  rw [zai (fun z=>by rw [z,hd] at q;exact n3 _ (qF q))]
  exact x.tbls b ps q
theorem FnOk.thaw {P:Program}{w:World}{K:PySem.W.Frag}{mg:Str→Option Value}{base:Heap}{CX:CXT}{k:Nat}{f:Addr}{fd:FuncData}{ps:List Str}{sp:Sp}(F:FnOk P w K mg base CX k f fd ps sp):
  FnOk P w K mg base CX k f fd ps (fun vs H Q E=>sp vs H (fun v H'=>∃ d ob k0 kvs,H d=some (.dT k0)∧H' d=some (.frz ob (.dT kvs))∧Q v (upd H' d (.dT kvs))) E):=by
 refine ⟨fun vs H Q E h=>F.len vs H _ E h,fun A outer s H args us vs Q E hr he hb hv hs=>?_⟩
 refine codeAny_mono (F.run A outer s H args us vs _ E hr he hb hv hs) fun r s' hq=>?_
 unfold CR at hq ⊢
 cases r with
 | error e=>exact hq
 | ok r=>
  cases r with
  | ret u=>
   obtain ⟨v,H',h1,h2,h3,h4,h5,d,ob,k0,kvs,hd,hd',q⟩:=hq
   exact ⟨v,_,h1,h2,h3.thaw hd (fun _ z=>by cases z) (fun _ _ z=>by cases z) (fun _ z=>by cases z),h4.thaw hd',h5,q⟩
  | _=>exact hq
theorem RdT.dw {H:Hp}{d c:Addr}{kvs:List (List Key×V)}{o:HO}{xs:List V}(q:RdT H c xs)(hd:H d=some (.dT kvs)):RdT (L2.upd H d o) c xs:=by
 rcases q with q | ⟨u,q⟩
 ·exact RdT.put (.inl q) (zmm q hd (fun z=>nomatch z))
 ·exact RdT.put (.inr ⟨u,q⟩) (zmm q hd (fun z=>nomatch z))
theorem RdT.tup {K:PySem.W.Frag}{H:Hp}{c:Addr}{xs:List V}(q:RdT H c xs):SqT K H c xs:=.inl q
theorem znF {d:Addr}{ob:Obj}{kvs:List (List Key×V)}{g:TG}{tb:TS}{D:Ends}{σ :St}{H:Hp}(Pv:Nat→St→Hp→Prop)(h0:Pv 0 σ H)
  (hl:∀ i σ H,i≤kvs.length→Pv i σ H→H d=some (.frz ob (.dT kvs)))
  (hs:∀ i b p σ H T,kvs[i]? =some p→Pv i σ H→H T=none→RdT H b (p.1.map kV)→g (.ref T) σ (upd H T (.tup [.ref b,p.2])) fun σ2 H2=>tb {D with nx:=Pv (i+1),ct:=Pv (i+1),bk:=D.nx} σ2 H2)
  (hd:∀ σ H,Pv kvs.length σ H→D.nx σ H):
  ∃ W:Nat→Nat→St→Hp→Prop,(∃ m,W 0 m σ H)∧∀ i m σ H,W i m σ H→
   ((Iti d ob).stop i H ∧ D.nx σ H) ∨ ((Iti d ob).go i H ∧ ∃ N : St → Hp → Prop, (∀ σ' H', N σ' H' → ∃ m', m' < m ∧ W (i + 1) m' σ' H') ∧
     ∀ x H',(Iti d ob).yld i H x H'→g x σ H' fun σ2 H2=>tb {D with nx:=N,ct:=N,bk:=D.nx} σ2 H2):=by
 refine ⟨fun i m σ H=>m=kvs.length - i∧i≤kvs.length∧Pv i σ H,⟨kvs.length,by simp,qL _,h0⟩,?_⟩
 rintro i m σ H ⟨rfl,hi,p⟩
 have q:=hl i σ H hi p
 by_cases hlt:i < kvs.length
 ·refine .inr ⟨⟨kvs,kvs[i],q,by simp [hlt]⟩,Pv (i+1),fun σ' H' p'=>⟨kvs.length - (i+1),by omega,rfl,hlt,p'⟩,fun x H' y=>?_⟩
  obtain ⟨T,b,k,z,hT,e1,e2,hb,y⟩:=y
  subst e1 e2
  exact hs i b (k,z) σ H T (y kvs q) p hT hb
 ·have e:i=kvs.length:=by omega
  subst e
  exact .inl ⟨⟨kvs,q,yN _⟩,hd σ H p⟩
noncomputable def zpe (tk tv:TE):TE:=fun σ H Q=>∀ p,H p=none→tk σ (upd H p (.dT [])) fun x H1=>tv σ H1 fun y H2=>H2 p=some (.dT [])∧∃ b ks,x= .ref b∧RdT H2 b (ks.map kV)∧Q (.ref p) (upd H2 p (.dT [(ks,y)]))
theorem zn5 {X:Cx}{pos:Pos}{k v:Expr}{tk tv:TE}(hu:X.A.units+1 < cLine)(hk:PE X k tk)(hv:PE X v tv):PE X (.Dict [some k] [v] pos) (zpe tk tv):=by
 intro pins s σ H Q I q
 have hn:=I.hok.fresh (yN s.heap.objs.size)
 have I1:=I.laid (a:=s.heap.objs.size) (o:=.dT []) (h':=s.heap.push {cls:=.type "dict",data:=.dict #[]}) (t':=s.toks) (fun _ _ q=>yI _ q) (yN _) (zld s.heap I.big)
 refine wpAny_Dict_any rfl rfl (by simp) (by show 1≤15;decide) ?_
 refine pairTrees_cons_walk (thn (hk pins _ σ _ _ I1 (q _ hn)) fun u s1 ⟨x,H1,I2,rx,q1⟩=>thn (hv pins s1 σ H1 _ I2 q1) fun w2 s2 ⟨y,H2,I3,ry,q2⟩=>pairTrees_nil_walk ?_)
 obtain ⟨e,b,ks,rfl,eb,q3⟩:=q2
 cases (show u=Value.ref b from rx)
 show wpAny _ _ (PySem.storeAll s.heap.objs.size [(Value.ref b,w2)]) _ _ s2
 unfold PySem.storeAll
 rw [ybA]
 obtain ⟨z,hd,xs0,r0,dd⟩:=zmD I3.hok e
 cases r0
 refine yA (yA (wpAny_dictSet_heap (knd:=tupleKind (zaw X.prog X.w)) (by show X.A.units < cLine;omega) (zfe I3.hok eb) dd (fun h' dd' hs=>?_) (qL _)))
 refine yD ?_
 show wpAny _ _ (forIn ([]:List (Value×Value)) PUnit.unit _) _ _ _
 rw [List.forIn_nil]
 refine yD ⟨.ref s.heap.objs.size,_,?_,rfl,q3⟩
 obtain ⟨qo,es,ep,hq,h2,h3,h4,_,h5⟩:=dd'
 refine zfY I3 (by rw [e];exact True.intro) hs ⟨qo,hq⟩ ⟨(by show 1≤yM;decide),hd,_,((show KT H2 [] [] from .nil).put ks eb ry).keeps fun c ys ec=>RdT.dw ec e,qo,es,ep,hq,h2,h3,h4,h5⟩
theorem zjl {X:Cx}{pos:Pos}{k v:Expr}{tk tv:TE}(hu:X.A.units+1 < cLine)(hk:Bx (PE X k tk))(hv:Bx (PE X v tv)):Bx (PE X (.Dict [some k] [v] pos) (zpe tk tv)):=⟨zn5 hu hk.1 hv.1⟩
section
variable {prog:Program} {w:World} {A:Around} {E:Value→Shared→Prop} {s:Shared} {Ky:Type} [DecidableEq Ky] {knd:HeapKind prog w Ky}
theorem zeR {d a:Addr}{xs:List (Ky×Addr×Value)}{k:Ky}{v:Value}{Q:Value→Shared→Prop}(room:knd.room A)(key:knd.is s.heap k a)(hm:s.heap.DictOfH knd d xs)(small:xs.length≤yM)
  (there:∀ p,atKey xs k=some p→Q p.2 {s with toks:=s.toks+knd.draws k})
  (new:atKey xs k=none→∀ h',h'.DictOfH knd d (storedH xs k a v)→qH d s.heap h'→Q v {s with heap:=h',toks:=s.toks+knd.draws k}):
  wpAny (model prog w) A (dictSetDefault d (.ref a) v) Q E s:=by
 obtain ⟨o,es,ep,e1,e2,e3,e4,e5,e6⟩:=hm
 unfold dictSetDefault
 try with_reducible refine wpAny_holding ?_
 refine yA (knd.pyHash room key (yA (wpAny_dictFind_heap (s:={s with toks:=s.toks+knd.draws k}) room key e1 e3 e4 e5 e6 (fun no=>?_) fun j p hj=>?_)))
 ·have nk:=atKey_none_of_get no
  have nm:k∉xs.map (·.1):=not_mem_keys_of_get no
  refine yA (wpAny_rule (yA (wpAny_updateDictKeys (hz:=by have e:=size_of_entries e4;omega) (s:={s with toks:=s.toks+knd.draws k}) e1 e3 (yD ?_))))
  refine new nk _ ⟨_,_,ep+1,qR _ e1 (yaY (wR e3 _)),e2.mapDictKeys _,wR e3 _,?_,fun x hx=>?_,?_⟩ (jA ..)
  ·rw [storedH_new nk]
   simp [e4,entryOfKey]
  ·rw [storedH_new nk] at hx
   refine knd.keeps ?_ e1 e3 (jA ..)
   rcases yU.mp hx with hx | hx
   ·exact e5 x hx
   ·cases yE.mp hx
    exact key
  ·rw [storedH_new nk,yK,jG]
   exact ⟨e6,by simp,fun x hx y hy z=>nm (by have e:y=k:=yE.mp hy;rw [← e,← z];exact hx)⟩
 ·have hk:=atKey_of_get e6 hj
  refine yA (wpAny_dictEntries (s:={s with toks:=s.toks+knd.draws k}) e1 e3 ?_)
  rw [entry_at e4 j,hj]
  exact yA (wpAny_rule (yD (there p hk)))
end
noncomputable def zpY:V→List V→Hp→VK→Prop:=fun x vs H Q=>∃ d kvs b ks y,x= .ref d∧vs= [.ref b,y]∧H d=some (.dT kvs)∧RdT H b (ks.map kV)∧kvs.length < yM∧
 (∀ v,valV kvs ks=some v→Q v H)∧(valV kvs ks=none→Q y (upd H d (.dT (putK kvs ks y))))
theorem znL {X:Cx}(hu:X.A.units+1 < cLine):MtM X "dict.setdefault" zpY:=by
 intro pins s σ H x vs v us Q I rx rv h
 obtain ⟨d,kvs,b,ks,y,rfl,rfl,hd,hb,hl,q1,q2⟩:=h
 cases rx
 obtain ⟨u1,u2,rfl,r1,r2⟩:=rv.two
 cases (show u1=Value.ref b from r1)
 obtain ⟨z,nsys,xs,rel,dd⟩:=zmD I.hok hd
 have hz:xs.length≤yM:=by rw [← qI rel];exact z
 have ty:=dd.typeIs (s:=s)
 refine wpAny_call_entry yaO ty PySem.F.entry_dict_setdefault ?_ (PySem.F.args_dict_setdefault_3 _ _ _)
 unfold Builtin.«dict.setdefault»
 refine yA ?_
 unfold Builtin.Dict.keyAndDefault
 refine yA (wpAny_notOrdered_dict ty (?_:wpAny _ _ (pure (d,Value.ref b,some u2)) _ _ s))
 refine yD (?_:wpAny _ _ (if (d==sysModules)=true then _ else (dictSetDefault d (Value.ref b) u2 >>=_)) _ _ s)
 rw [nsys,if_neg yS]
 have rk:=rel.val ks
 refine yA (zeR (knd:=tupleKind (zaw X.prog X.w)) (tupleKind_room_in1 hu) (zfe I.hok hb) dd hz (fun p hp=>?_) fun nk h' dd' hs=>?_)
 ·rw [hp] at rk
  obtain ⟨v,ev,rv⟩:∃ v,valV kvs ks=some v∧RelV v p.2:=by
   cases hv:valV kvs ks with
   | none=>rw [hv] at rk;cases rk
   | some v=>rw [hv] at rk;exact ⟨v,rfl,rk⟩
  exact yD ⟨_,rfl,v,H,I.tok _,rv,q1 v ev⟩
 ·rw [nk] at rk
  have ev:valV kvs ks=none:=by
   cases hv:valV kvs ks with
   | none=>rfl
   | some v=>rw [hv] at rk;cases rk
  refine yD ⟨_,rfl,y,_,?_,r2,q2 ev⟩
  obtain ⟨qo,es,ep,hq,h2,h3,h4,_,h5⟩:=dd'
  have hl':(putK kvs ks y).length≤yM:=by have:=zcL kvs ks y;omega
  refine zfY I (by rw [hd];exact True.intro) hs ⟨qo,hq⟩ ⟨hl',nsys,_,(rel.put ks hb r2).keeps fun c ys ec=>RdT.dw ec hd,qo,es,ep,hq,h2,h3,h4,h5⟩
section
variable {prog:Program} {w:World} {A:Around} {E:Value→Shared→Prop} {s:Shared}
theorem zks {d:Addr}{es:Array DictEntry}{ep:Nat}{Q:Value→Shared→Prop}(nd:(d==sysModules)=false)(hE:EntD s.heap d es ep)
  (q:Q (.ref s.heap.objs.size) {s with heap:=s.heap.push {cls:=.type "dict_values",data:=.fields #[.ref d]}}):wpAny (model prog w) A (call (.builtin "dict.values") [.ref d]) Q E s:=by
 obtain ⟨ob,e1,⟨e2,_,_⟩,e3⟩:=hE
 have ty:s.TypeIs (.ref d) "dict" :=⟨ob,e1,e2⟩
 refine wpAny_call_entry ybb ty PySem.F.entry_dict_values ?_ (PySem.F.args_dict_values_1 _)
 refine yA (?_:wpAny _ _ (yaX _ _) _ _ s)
 unfold yaX
 refine yA (wpAny_notOrdered_dict ty ?_)
 show wpAny _ _ (pure d) _ _ s
 refine yD (?_:wpAny _ _ (xV d >>=_) _ _ s)
 unfold xV
 rw [nd]
 exact yA (yD (yA (wpAny_newObj_type (yD ⟨_,rfl,q⟩))))
theorem zkR {v d:Addr}{es:Array DictEntry}{ep:Nat}{Q:Value→Shared→Prop}(hv:s.heap.IsValuesView v d)(hE:EntD s.heap d es ep)
  (q:Q (.ref s.heap.objs.size) {s with heap:=s.heap.push {cls:=.type "dict_valueiterator",data:=.fields #[.ref d,.int 0 0,.int es.size 0,.int ep 0]}}):
  wpAny (model prog w) A (pyIter (.ref v)) Q E s:=by
 obtain ⟨vo,v1,v2,v3⟩:=id hv
 obtain ⟨ob,e1,_,e3⟩:=hE
 refine wpAny_pyIter_slot hv.typeIs yaI (wpAny_call_entry yaI hv.typeIs PySem.F.entry_dict_values_iter ?_ (PySem.F.args_dict_values_iter_1 _))
 unfold Builtin.«dict_values.__iter__»
 refine yA (yD (yA ?_))
 unfold ya5
 refine yA (wpAny_field v1 v3 (x:=.ref d) rfl (yD (yA ?_)))
 unfold yaF
 refine yA (wpAny_dictEntries e1 e3 (yA (wpAny_dictEpoch e1 e3 ?_)))
 simp only [show jR "dict_valueiterator" =false by decide,qE,if_false]
 refine wpAny_newObj_type (yD ⟨_,rfl,"dict_valueiterator",_,⟨_,yT _ rfl,rfl⟩,jZ.lookup,?_⟩)
 simpa [rawInt] using q
theorem zkD {it d:Addr}{i ep:Nat}{es:Array DictEntry}{en:DictEntry}{Q:Option Value→Shared→Prop}(hJ:s.heap.IsValIter it d i es.size ep)(hE:EntD s.heap d es ep)(hx:es[i]? =some en)
  (q:∀ h',h'.IsValIter it d (i+1) es.size ep→qH it s.heap h'→Q (some en.val) {s with heap:=h'}):wpAny (model prog w) A (pyNext (.ref it)) Q E s:=by
 obtain ⟨o,j1,j2,j3⟩:=id hJ
 obtain ⟨ob,e1,_,e3⟩:=hE
 have ty:=hJ.typeIs (s:=s)
 unfold pyNext
 refine yA (wpAny_attempt (wpAny_callSpecial?_slot (name:=kH "__next__") ty jZ
  (wpAny_call_entry jZ ty wS ?_ (wO _))))
 refine yA (yD (yA (yA ?_)))
 first | refine yA (wpAny_typeNameOfWhole_valiter ty (yD ?_)) | refine yA (wpAny_typeNameOf_valiter ty (yD ?_))
 refine yA (wpAny_fieldsOf j1 j3 ?_)
 simp only [show jR "dict_valueiterator" =false by decide,qE,if_false]
 show wpAny _ _ (if (Value.ref d==Value.none)=true then _ else _) _ _ s
 rw [show (Value.ref d==Value.none)=false from rfl,if_neg yS]
 refine yA (yD (yA (wpAny_dictEntries e1 e3 ?_)))
 rw [if_neg (by simp)]
 refine yA (yD (yA (wpAny_dictEpoch e1 e3 ?_)))
 rw [if_neg (by simp)]
 refine yD ?_
 simp only [show ¬(i:Int) < 0 from by omega,if_false,jN,hx]
 refine yA ?_
 first | refine yA (wpAny_typeNameOfWhole_valiter ty (yD ?_)) | refine yA (wpAny_typeNameOf_valiter ty (yD ?_))
 refine yA (wpAny_isOneOf_valiter ty ?_)
 show wpAny _ _ (setField (.ref it) 1 (rawInt ((i:Int)+1)) >>=_) _ _ s
 refine yA (wpAny_setField j1 j3 (by simp) ?_)
 have hJ':(s.heap.update it (vK (·.setIfInBounds 1 (rawInt ((i:Int)+1))))).IsValIter it d (i+1) es.size ep:=
  ⟨_,qR _ j1 (wJ (vB j3 _)),(yaA ..).trans j2,by rw [vB j3];simp [rawInt]⟩
 have ty':=hJ'.typeIs (s:={s with heap:=s.heap.update it (vK (·.setIfInBounds 1 (rawInt ((i:Int)+1))))})
 refine yA (wpAny_holding (yA (wpAny_isOneOf_valiter (s:={s with heap:=s.heap.update it (vK (·.setIfInBounds 1 (rawInt ((i:Int)+1))))}) ty' (yA (wpAny_isOneOf_valiter (s:={s with heap:=s.heap.update it (vK (·.setIfInBounds 1 (rawInt ((i:Int)+1))))}) ty' ?_)))))
 show wpAny _ _ (pure en.val) _ _ _
 exact yD (yD ⟨_,rfl,yD (q _ hJ' (jA ..))⟩)
theorem zlT {it d:Addr}{i ep:Nat}{es:Array DictEntry}{Q:Option Value→Shared→Prop}(hh:A.handled=none)(hJ:s.heap.IsValIter it d i es.size ep)(hE:EntD s.heap d es ep)(hx:es.size≤i)
  (q:∀ h',ybJ it s.heap h'→Q none {s with heap:=h'}):wpAny (model prog w) A (pyNext (.ref it)) Q E s:=by
 obtain ⟨o,j1,j2,j3⟩:=id hJ
 obtain ⟨ob,e1,_,e3⟩:=hE
 have ty:=hJ.typeIs (s:=s)
 unfold pyNext
 refine yA (wpAny_attempt (wpAny_callSpecial?_slot (name:=kH "__next__") ty jZ
  (wpAny_call_entry jZ ty wS ?_ (wO _))))
 refine yA (yD (yA (yA ?_)))
 first | refine yA (wpAny_typeNameOfWhole_valiter ty (yD ?_)) | refine yA (wpAny_typeNameOf_valiter ty (yD ?_))
 refine yA (wpAny_fieldsOf j1 j3 ?_)
 simp only [show jR "dict_valueiterator" =false by decide,qE,if_false]
 show wpAny _ _ (if (Value.ref d==Value.none)=true then _ else _) _ _ s
 rw [show (Value.ref d==Value.none)=false from rfl,if_neg yS]
 refine yA (yD (yA (wpAny_dictEntries e1 e3 ?_)))
 rw [if_neg (by simp)]
 refine yA (yD (yA (wpAny_dictEpoch e1 e3 ?_)))
 rw [if_neg (by simp)]
 refine yD ?_
 simp only [show ¬(i:Int) < 0 from by omega,if_false,jN,xQ hx]
 refine yA ?_
 first | refine yA (wpAny_typeNameOfWhole_valiter ty (yD ?_)) | refine yA (wpAny_typeNameOf_valiter ty (yD ?_))
 show wpAny _ _ (setField (.ref it) 0 .none >>=_) _ _ s
 refine yA (wpAny_setField j1 j3 (by simp) ?_)
 show wpAny _ _ (newExc (.type "StopIteration") [] >>=_) _ _ _
 refine yA ?_
 simp only [newExc,newTuple]
 refine yA (wpAny_newObj_type ?_ (by size_fits))
 refine yA (m:=firstArgMember _ _) (wpAny_of_eq (a:=Value.none) (by first | rfl | (simp only [firstArgMember];rfl)) (wpAny_newObj_type ?_ (by size_fits)))
 simp only [raiseNew]
 refine yA (wpAny_handled ?_)
 rw [show A.in1.handled=none from hh]
 refine yA (yD (wpAny_throw (?_:wpAny _ _ _ _ _ _)))
 refine yA (wpAny_isInstance (b:=true) (T:="StopIteration") ⟨_,yT _ rfl,rfl⟩ isSubtype_stop ?_)
 exact yD (q _ (((jA ..).extBut.push _).push _))
theorem EntD.at {h h':Heap}{d:Addr}{es:Array DictEntry}{ep:Nat}(x:EntD h d es ep)(k:∀ o,h.get? d=some o→h'.get? d=some o):EntD h' d es ep:=let ⟨o,e,r⟩:=x;⟨o,k o e,r⟩
theorem zjk (hh:A.handled=none)(I d:Addr)(hne:d≠I)(es:Array DictEntry)(ep:Nat):
  Walks prog w A I [I,d] [I] es.size (fun i v=>∃ en,es[i]? =some en∧v=en.val) (fun i h=>h.IsValIter I d i es.size ep∧EntD h d es ep) where
 sub:=fun b hb=>by cases yE.mp hb;exact .head _
 frame:=fun _ _ _ st hk=>⟨st.1.at (hk I (by simp)),st.2.at (hk d (by simp))⟩
 item:=fun i s Q E hi st hQ=>zkD st.1 st.2 (jI hi) fun h' it' sb=>
  hQ _ h' s.toks ⟨_,jI hi,rfl⟩ ⟨it',st.2.at fun o e=>sb.extBut d o hne e⟩ fun b o hb e=>sb.extBut b o (fun z=>hb (by simp [z])) e
 done:=fun s Q E st hQ=>zlT hh st.1 st.2 (yN _) fun h' eb=>hQ h' s.toks fun b o hb e=>eb b o (fun z=>hb (by simp [z])) e
 self:=fun _ _ _ _ st hQ=>wpAny_pyIter_valiter st.1 hQ
theorem ziS:typeLookup (.type "dict_values") "__len__" =pure (some (.builtin "dict_values.__len__")):=by rw [typeLookup_type,builtinLookup_eq_fast];kernel_rfl
end
section
variable {prog:Program} {w:World} {A:Around} {E:Value→Shared→Prop} {s:Shared}
theorem zgI:isSubtype (.type "dict_values") (.type "dict_values")=pure true:=by rw [isSubtype_type];kernel_rfl
theorem zgh {v d:Addr}{es:Array DictEntry}{ep:Nat}{Q:Value→Shared→Prop}(hh:A.handled=none)(hv:s.heap.IsValuesView v d)(hE:EntD s.heap d es ep)(small:es.size≤yM)
  (q:∀ h' tk acc c,(∀ b o,s.heap.get? b=some o→h'.get? b=some o)→h'.get? s.heap.objs.size=some {cls:=.type "list",dict:=none,data:=.seq acc c,slots:=#[]}→
   acc.toList=es.toList.map (·.val)→Q (.ref s.heap.objs.size) {s with heap:=h',toks:=tk}):wpAny (model prog w) A (call (.type "list") [.ref v]) Q E s:=by
 obtain ⟨vo,v1,v2,v3⟩:=id hv
 obtain ⟨ob,e1,e2,e3⟩:=id hE
 refine callType_codes (Q₁ :=fun obj s₁ =>obj= .ref s.heap.objs.size∧s₁ = {s with heap:=s.heap.push {cls:=.type "list",data:=.seq #[]}}) ybK (ybk _) ybl
  (code_list_new _ ⟨rfl,rfl⟩) fun obj s₁ h₁ =>?_
 obtain ⟨rfl,rfl⟩:=h₁
 generalize eL:s.heap.objs.size=L at q ⊢
 have lv:v < L:=by rw [← eL];exact yV v1
 have ld:d < L:=by rw [← eL];exact yV e1
 have hL:(s.heap.push {cls:=.type "list",data:=.seq #[]}).get? L=some {cls:=.type "list",data:=.seq #[]}:=by rw [← eL];exact yT _ rfl
 refine ⟨⟨_,hL,rfl⟩,ybc _ _,?_⟩
 show wpAny _ A.in1.in1 (do let old ← wF (.ref L);ybm (.ref L) (fun _=>#[]);letGo old.toList.reverse;jS (.ref L) (.ref v) .none) _ _ _
 refine yA ?_
 unfold wF
 refine yA (wpAny_seqItems hL rfl (yD ?_))
 show wpAny _ A.in1.in1 (updateSeq L (fun _=>#[]) >>=fun _=>letGo (#[]:Array Value).toList.reverse >>=fun _=>jS (.ref L) (.ref v) .none) _ _ _
 refine yA (wpAny_updateSeq hL rfl ?_)
 have hL2:=qR (jE (fun _=>(#[]:Array Value))) hL rfl
 have keep2:∀ b o,s.heap.get? b=some o→((s.heap.push {cls:=.type "list",data:=.seq #[]}).update L (jE (fun _=>(#[]:Array Value)))).get? b=some o:=fun b o e=>
  (jO _ _ (fun z=>vJ L (by have k:=yV e;rw [eL] at k;exact z ▸ k))).trans (yI _ e)
 generalize hH2:(s.heap.push {cls:=.type "list",data:=.seq #[]}).update L (jE (fun _=>(#[]:Array Value)))=H2 at hL2 keep2 ⊢
 refine yA (wpAny_letGo ?_)
 unfold jS
 have hv2:H2.IsValuesView v d:=⟨vo,keep2 _ _ v1,v2,v3⟩
 have tv:∀ (h':Heap),h'.get? v=some vo→yaq {s with heap:=h'} (.ref v) "dict_values" :=fun h' e=>⟨vo,e,v2⟩
 refine yA (wpAny_typeOf (tv _ (keep2 _ _ v1)) ?_)
 have h1:xW (.ref L) (.ref v)=false:=by simp [xW];exact kE lv
 simp only [h1,show (Value.type "dict_values" ==Value.type "list")=false by decide,show (Value.type "dict_values" ==Value.type "tuple")=false by decide,ybi,qE,if_false]
 refine yA (zkR (s:={s with heap:=H2}) hv2 (hE.at (keep2 d)) ?_)
 have keep3:∀ b o,H2.get? b=some o→(H2.push {cls:=.type "dict_valueiterator",data:=.fields #[.ref d,.int 0 0,.int es.size 0,.int ep 0]}).get? b=some o:=fun b o e=>yI _ e
 have hI:(H2.push {cls:=.type "dict_valueiterator",data:=.fields #[.ref d,.int 0 0,.int es.size 0,.int ep 0]}).IsValIter H2.objs.size d 0 es.size ep:=⟨_,yT _ rfl,rfl,rfl⟩
 have lI:L < H2.objs.size:=yV hL2
 generalize H2.objs.size=It at hI lI ⊢
 generalize (H2.push {cls:=.type "dict_valueiterator",data:=.fields #[.ref d,.int 0 0,.int es.size 0,.int ep 0]})=H3 at hI keep3 ⊢
 refine yA (wpAny_holding ?_)
 unfold wK
 have v13:=keep3 _ _ (keep2 _ _ v1)
 refine yA (wpAny_specialOf (tv _ v13) ziS ?_)
 generalize hid:("dict_values.__len__" :String)=id0
 wp_delta
 rw [show splitId id0=some ("dict_values","__len__") from by subst hid;decide+kernel]
 subst hid
 refine yA (wpAny_isInstance (b:=true) (tv _ v13) zgI ?_)
 rw [if_neg (show ¬((!true)=true) from yS)]
 rw [if_pos (by decide+kernel)]
 refine yA (wpAny_typeOf (tv _ v13) (yD ?_))
 rw [if_pos (by decide+kernel)]
 refine yA (wpAny_rule (yA ?_))
 show wpAny _ _ (updateSeq L (·.push .none) >>=fun _=>updateSeq L (·.pop)) _ _ _
 have hL3:=keep3 _ _ hL2
 refine yA (wpAny_updateSeq hL3 rfl ?_)
 have hL4:=qR (jE (·.push Value.none)) hL3 rfl
 refine wpAny_updateSeq (hz:=by seq_fits) hL4 rfl ?_
 have hL5:=qR (jE (·.pop)) hL4 rfl
 have oth:∀ b o,b≠L→H3.get? b=some o→((H3.update L (jE (·.push Value.none))).update L (jE (·.pop))).get? b=some o:=
  fun b o hb e=>(jO _ _ (jL hb)).trans ((jO _ _ (jL hb)).trans e)
 have nd:d≠It:=qC (yaC ld lI)
 have W:=(zjk (prog:=prog) (w:=w) (A:=A.in1.in1) (by simp [hh]) It d nd es ep).toS
 have nL:L∉[It,d]:=by
  simp only [yR,qK,or_false,not_or]
  exact ⟨qC lI,kE ld⟩
 have dE3:EntD H3 d es ep:=hE.at fun o e=>keep3 _ _ (keep2 _ _ e)
 refine yD ⟨plainId_quiet wX _,codeAny_extend_loopS W small L nL _ es.size 0 _ _ _ rfl (qL _) ⟨hI.at fun o e=>oth It o (kE lI) e,dE3.at fun o e=>oth d o (qC ld) e⟩ hL5 (ycj _) fun s' acc' c' hm hS' hacc=>?_⟩
 have es':s'= {s with heap:=s'.heap,toks:=s'.toks}:=by
  have g1:=hm.gens
  have g2:=hm.drawn
  have g3:=hm.os
  obtain ⟨a1,a2,a3,a4,a5⟩:=s'
  dsimp only at g1 g2 g3
  rw [g1,g2,g3]
 have eacc:acc'.toList=es.toList.map (·.val):=by
  refine jM fun j=>?_
  rw [yG,vN,vN]
  by_cases hj:j < es.size
  ·obtain ⟨en,e4,e5⟩:=hacc.2 j _ (jI (by rw [hacc.1];exact hj))
   rw [jI (by rw [hacc.1];exact hj),e4,e5]
   rfl
  ·rw [xQ (by rw [hacc.1];omega),xQ (by omega)]
   rfl
 refine ⟨rfl,?_⟩
 rw [es']
 refine q s'.heap s'.toks acc' c' (fun b o e=>?_) hS' eacc
 have bl:b < L:=by rw [← eL];exact yV e
 refine hm.heap b o ?_ (oth b o (qC bl) (keep3 _ _ (keep2 _ _ e)))
 simp only [yR,qK,or_false,not_or]
 exact ⟨qC bl,qC (yaC bl lI)⟩
end
noncomputable def zjx (td:TE):TE:=fun σ H Q=>td σ H fun x H1=>∃ d kvs,x= .ref d∧H1 d=some (.dT kvs)∧∀ L,H1 L=none→Q (.ref L) (upd H1 L (.lst (kvs.map (·.2))))
theorem zf1 {P:Program}{w:World}{H:Hp}:∀ {kvs:List (List Key×V)} {xs:List (List Key×Addr×Value)},KT H kvs xs→Vals (kvs.map (·.2)) ((xs.map (entryOfKey (tupleKind (zaw P w)))).map (·.val))
 | _,_,.nil=>.nil
 | _,_,.cons h r=>.cons h.2.2 (zf1 r)
section
variable {X:Cx} {o:Expr} {td:TE} {p ap cp pos:Pos}
theorem zku (hg:Gl X "list")(hm:X.mg "list" =none)(ho:PE X o td)(hc:X.calm=true:=by rfl)
  (hbase:attributeBase o "values" X.env (eval o X.env)=eval o X.env:=by rfl) (hline:(ap.endLine==cp.line)=true:=by rfl)
  (he:starEach [Expr.Call (.Attribute o "values" ap) [] [] cp] X.env= [(false,eval (Expr.Call (.Attribute o "values" ap) [] [] cp) X.env)]:=by rfl):
  PE X (.Call (.Name "list" p) [.Call (.Attribute o "values" ap) [] [] cp] [] pos) (zjx td):=by
 intro pins s σ H Q I h
 refine wpAny_Call_Name_kw (zf3 I hg hm boot_list ?_ (by decide) (by decide))
 refine xI (T:="list") ?_ he rfl
 rw [he]
 show wpAny _ _ (spliced ((false,eval (Expr.Call (.Attribute o "values" ap) [] [] cp) X.env)::backTo pos [])) _ _ s
 refine kF (wpAny_Call_method0_late hbase hline (thn (ho pins s σ H _ I h) fun v s1 ⟨x,H1,I1,r1,d,kvs,ex,hd,q⟩=>?_))
 subst ex
 cases r1
 obtain ⟨lk,nsys,xs,pr,ob,es,ep,e1,e2,e3,e4,e5⟩:=(show zbM X.prog X.w H1 s1.heap d (.dT kvs) from I1.hok d _ hd)
 refine ⟨"dict","dict.values",vQ,ybb,PySem.F.type_dict_values,⟨ob,e1,e2.1⟩,fun a z=>by cases z;exact ⟨ob,e1,e2.2.1⟩,vZ rfl (yaU ?_)⟩
 refine zks (es:=es) (ep:=ep) nsys ⟨ob,e1,e2,e3⟩ (wN ?_)
 have hE:EntD (s1.heap.push {cls:=.type "dict_values",data:=.fields #[.ref d]}) d es ep:=⟨ob,yI _ e1,e2,e3⟩
 have I2:Inv X pins σ H1 {s1 with heap:=(s1.heap.push {cls:=.type "dict_values",data:=.fields #[.ref d]})}:=I1.kept (t':=s1.toks) fun b u e=>yI _ e
 have ls:es.size=kvs.length:=by
  have:=congrArg vI e4
  rw [yB,xT] at this
  rw [this]
  exact (qI pr).symm
 refine zgh (I2.ok.hd hc) ⟨_,yT _ rfl,rfl,rfl⟩ hE (by omega) fun h' tk acc c hk hL ea=>?_
 refine ⟨.ref _,_,I2.laid (o:=.lst (kvs.map (·.2))) (t':=tk) hk (yN _) ⟨by rw [yB];exact lk,acc.toList,c,?_,hL⟩,rfl,q _ (I2.hok.fresh (yN _))⟩
 rw [ea,e4]
 exact zf1 pr
theorem zj2 (hg:Gl X "list")(hm:X.mg "list" =none)(ho:Bx (PE X o td))(hc:X.calm=true:=by rfl)
  (hbase:attributeBase o "values" X.env (eval o X.env)=eval o X.env:=by rfl) (hline:(ap.endLine==cp.line)=true:=by rfl)
  (he:starEach [Expr.Call (.Attribute o "values" ap) [] [] cp] X.env= [(false,eval (Expr.Call (.Attribute o "values" ap) [] [] cp) X.env)]:=by rfl):
  Bx (PE X (.Call (.Name "list" p) [.Call (.Attribute o "values" ap) [] [] cp] [] pos) (zjx td)):=⟨zku hg hm ho.1 hc hbase hline he⟩
end
section
variable {g:TG} {tt:TT} {te:TE} {n0:Nat} {cap:List Nat} {σ :St} {Q:VK} {D:Addr} {H1:Hp}
end
open PySem.W (Dat kqdP kqdPs kqdOk)
noncomputable def zp8 (K:PySem.W.Frag):V→List V→Hp→VK→Prop:=fun x vs H Q=>∃ (y:V) (d:Dat) (ds:List Dat) (j:Nat),vs= [y]∧Rep K H y d∧Rep K H x (.list ds)∧kqdOk 8 d=true∧(∀ e∈ds,kqdOk 8 e=true)∧ds[j]? =some d∧(∀ i,i < j→ds[i]?≠some d)∧Q (.int (j:Int)) H
section
variable {X:Cx}
open Classical in
theorem znv (hu:X.A.units+64 < cLine):MtR X "list.index" (zp8 X.K):=by
 intro pins s σ H x vs v us Q I rx rv h
 obtain ⟨y,d,ds,j,rfl,hy,hx,kd,ks,hj,hno,q⟩:=h
 obtain ⟨u,rfl,ru⟩:=rv.one
 cases hx with
 | lst hq rq=>
  cases (show _=_ from rx)
  obtain ⟨its,r,pl,hz⟩:=I.list hq
  obtain ⟨as,ra⟩:=Rep.reads I 8 hy ru kd
  have room:∀ di,kqdOk 8 di=true→X.A.in1.units+min (kqdP di).depth (kqdP d).depth < cLine:=fun di k=>by
   have l:=(PySem.W.kqd_lay 8 di k).2
   rw [yb6]
   omega
  have at_:∀ (i:Nat) z,its[i]? =some z→∃ di,ds[i]? =some di∧∃ bs,Reads s.heap z (kqdP di) bs:=by
   intro i z hi
   have hlt:i < ds.length:=by rw [← rq.length,r.length];exact (yF.mp hi).1
   obtain ⟨w1,hw,rw'⟩:=rq.getD (yC hlt)
   obtain ⟨z2,hz2,rz⟩:=r.get hw
   rw [hi] at hz2
   cases hz2
   exact ⟨_,yC hlt,Rep.reads I 8 rw' rz (ks _ (jC hlt))⟩
  have same:∀ di,di∈ds→kqdP di=kqdP d→di=d:=fun di hd e=>by
   have z:=(PySem.W.kqd_eqv 8 d d 8 kd kd).mpr rfl
   exact (PySem.W.kqd_eqv 8 di d 8 (ks di hd) kd).mp (by rw [e];exact z)
  have yes:∀ (i:Nat) z,its[i]? =some z→(decide (∃ bs,Reads s.heap z (kqdP d) bs)=true↔ds[i]? =some d):=by
   intro i z hi
   obtain ⟨di,hd,bs,rb⟩:=at_ i z hi
   have hm:=yH hd
   rw [hd,kU,decide_eq_true_eq]
   constructor
   ·rintro ⟨cs,rc⟩
    exact same di hm (ya3 _ _ z bs cs (xP (zbG (ks di hm))) rb rc)
   ·rintro rfl
    exact ⟨bs,rb⟩
  have lj:j < its.length:=by rw [← r.length,rq.length];exact (yF.mp hj).1
  have small:its.length≤yM:=by rw [← r.length];exact hz
  obtain ⟨o,n,e1,e2,e3,e4⟩:=pl
  obtain ⟨oc,od,oda,osl⟩:=o
  dsimp only at e2 e3 e4
  subst e2 e3 e4
  refine call_meets ybn ⟨_,e1,rfl⟩ PySem.F.entry_list_index (PySem.F.args_list_index_2 _ _)
   (SeqAt.list_indexAt _ its.toArray n _ _ u (fun z=>decide (∃ bs,Reads s.heap z (kqdP d) bs)) j (by simpa using lj) ?_ ?_ ?_) ⟨e1,fun z hz=>?_,⟨.int _,H,I.tok _,⟨_,rfl⟩,q⟩⟩
  ·rw [sizeLine_eq] at small
   have:(j:Int) < 4294967296:=by omega
   omega
  ·exact (yes j _ (by simp [lj])).mpr hj
  ·intro m hm hmj
   have hm':m < its.length:=by simpa using hm
   cases c:decide (∃ bs,Reads s.heap its.toArray[m] (kqdP d) bs) with
   | false=>rfl
   | true=>exact absurd ((yes m _ (by simp [hm'])).mp c) (hno m hmj)
  ·obtain ⟨i,hi⟩:=jQ (show z∈its by simpa using hz)
   obtain ⟨di,hd,bs,rb⟩:=at_ i z hi
   have hm:=yH hd
   have qe:=yb7 _ _ X.A.in1 s z u bs as rb ra (xP (zbG (ks di hm))) (xP (zbG kd)) (room di (ks di hm))
   have e:yaS (kqdP di) (kqdP d)=decide (∃ bs,Reads s.heap z (kqdP d) bs):=by
    cases c:decide (∃ bs,Reads s.heap z (kqdP d) bs) with
    | true=>
     have:=(yes i z hi).mp c
     rw [hd] at this
     cases this
     exact (PySem.W.kqd_eqv 8 d d 8 kd kd).mpr rfl
    | false=>
     cases c2:yaS (kqdP di) (kqdP d) with
     | false=>rfl
     | true=>
      have:=(PySem.W.kqd_eqv 8 di d 8 (ks di hm) kd).mp c2
      subst this
      rw [(yes i z hi).mpr hd] at c
      cases c
   show xB X.A.in1 s z u (decide (∃ bs,Reads s.heap z (kqdP d) bs))
   rw [← e]
   exact qe
end
end L2
namespace L2
open PySem PySem.Spec PyProof.Rows
section
variable {prog:Program} {w:World} {A:Around} {E:Value→Shared→Prop} {s:Shared}
theorem zm8 {d:Addr}{es:Array DictEntry}{ep:Nat}{Q:Value→Shared→Prop}(nd:(d==sysModules)=false)(hE:EntD s.heap d es ep)
  (q:Q (.ref s.heap.objs.size) {s with heap:=s.heap.push {cls:=.type "dict_keyiterator",data:=.fields #[.ref d,.int 0 0,.int es.size 0,.int ep 0]}}):
  wpAny (model prog w) A (pyIter (.ref d)) Q E s:=by
 obtain ⟨ob,e1,⟨e2,_,_⟩,e3⟩:=hE
 have ty:s.TypeIs (.ref d) "dict" :=⟨ob,e1,e2⟩
 refine wpAny_pyIter_slot ty yaw (wpAny_call_entry yaw ty PySem.F.entry_dict_iter ?_ (PySem.F.args_dict_iter_1 _))
 unfold Builtin.«dict.__iter__» Builtin.Dict.dictSlotNone
 refine yA (yA (wpAny_notOrdered_dict ty ?_))
 show wpAny _ _ (pure (Value.ref d)) _ _ s
 refine yD (?_:wpAny _ _ (xV d >>=_) _ _ s)
 unfold xV
 rw [nd]
 refine yA (yD (yA (wpAny_dictEntries e1 e3 (yA (wpAny_dictEpoch e1 e3 ?_)))))
 refine yA (wpAny_newObj_type (yD ⟨_,rfl,"dict_keyiterator",_,⟨_,yT _ rfl,rfl⟩,xE.lookup,?_⟩))
 simpa [rawInt] using q
theorem zna {it d:Addr}{i ep:Nat}{es:Array DictEntry}{en:DictEntry}{Q:Option Value→Shared→Prop}(hJ:s.heap.IsKeyIter it d i es.size ep)(hE:EntD s.heap d es ep)(hx:es[i]? =some en)
  (q:∀ h',h'.IsKeyIter it d (i+1) es.size ep→qH it s.heap h'→Q (some en.key) {s with heap:=h'}):wpAny (model prog w) A (pyNext (.ref it)) Q E s:=by
 obtain ⟨o,j1,j2,j3⟩:=id hJ
 obtain ⟨ob,e1,_,e3⟩:=hE
 have ty:=hJ.typeIs (s:=s)
 unfold pyNext
 refine yA (wpAny_attempt (wpAny_callSpecial?_slot (name:=kH "__next__") ty xE
  (wpAny_call_entry xE ty yag ?_ (wY _))))
 refine yA (yD (yA (yA ?_)))
 first | refine yA (wpAny_typeNameOfWhole_keyiter ty (yD ?_)) | refine yA (wpAny_typeNameOf_keyiter ty (yD ?_))
 refine yA (wpAny_fieldsOf j1 j3 ?_)
 simp only [show jR "dict_keyiterator" =false by decide,qE,if_false]
 show wpAny _ _ (if (Value.ref d==Value.none)=true then _ else _) _ _ s
 rw [show (Value.ref d==Value.none)=false from rfl,if_neg yS]
 refine yA (yD (yA (wpAny_dictEntries e1 e3 ?_)))
 rw [if_neg (by simp)]
 refine yA (yD (yA (wpAny_dictEpoch e1 e3 ?_)))
 rw [if_neg (by simp)]
 refine yD ?_
 simp only [show ¬(i:Int) < 0 from by omega,if_false,jN,hx]
 refine yA ?_
 first | refine yA (wpAny_typeNameOfWhole_keyiter ty (yD ?_)) | refine yA (wpAny_typeNameOf_keyiter ty (yD ?_))
 refine yA (wpAny_isOneOf_keyiter ty ?_)
 show wpAny _ _ (setField (.ref it) 1 (rawInt ((i:Int)+1)) >>=_) _ _ s
 refine yA (wpAny_setField j1 j3 (by simp) ?_)
 have hJ':(s.heap.update it (vK (·.setIfInBounds 1 (rawInt ((i:Int)+1))))).IsKeyIter it d (i+1) es.size ep:=
  ⟨_,qR _ j1 (wJ (vB j3 _)),(yaA ..).trans j2,by rw [vB j3];simp [rawInt]⟩
 have ty':=hJ'.typeIs (s:={s with heap:=s.heap.update it (vK (·.setIfInBounds 1 (rawInt ((i:Int)+1))))})
 refine yA (wpAny_holding (yA (wpAny_isOneOf_keyiter (s:={s with heap:=s.heap.update it (vK (·.setIfInBounds 1 (rawInt ((i:Int)+1))))}) ty' ?_)))
 show wpAny _ _ (pure en.key) _ _ _
 exact yD (yD ⟨_,rfl,yD (q _ hJ' (jA ..))⟩)
theorem zoe {it d:Addr}{i ep:Nat}{es:Array DictEntry}{Q:Option Value→Shared→Prop}(hh:A.handled=none)(hJ:s.heap.IsKeyIter it d i es.size ep)(hE:EntD s.heap d es ep)(hx:es.size≤i)
  (q:∀ h',ybJ it s.heap h'→Q none {s with heap:=h'}):wpAny (model prog w) A (pyNext (.ref it)) Q E s:=by
 obtain ⟨o,j1,j2,j3⟩:=id hJ
 obtain ⟨ob,e1,_,e3⟩:=hE
 have ty:=hJ.typeIs (s:=s)
 unfold pyNext
 refine yA (wpAny_attempt (wpAny_callSpecial?_slot (name:=kH "__next__") ty xE
  (wpAny_call_entry xE ty yag ?_ (wY _))))
 refine yA (yD (yA (yA ?_)))
 first | refine yA (wpAny_typeNameOfWhole_keyiter ty (yD ?_)) | refine yA (wpAny_typeNameOf_keyiter ty (yD ?_))
 refine yA (wpAny_fieldsOf j1 j3 ?_)
 simp only [show jR "dict_keyiterator" =false by decide,qE,if_false]
 show wpAny _ _ (if (Value.ref d==Value.none)=true then _ else _) _ _ s
 rw [show (Value.ref d==Value.none)=false from rfl,if_neg yS]
 refine yA (yD (yA (wpAny_dictEntries e1 e3 ?_)))
 rw [if_neg (by simp)]
 refine yA (yD (yA (wpAny_dictEpoch e1 e3 ?_)))
 rw [if_neg (by simp)]
 refine yD ?_
 simp only [show ¬(i:Int) < 0 from by omega,if_false,jN,xQ hx]
 refine yA ?_
 first | refine yA (wpAny_typeNameOfWhole_keyiter ty (yD ?_)) | refine yA (wpAny_typeNameOf_keyiter ty (yD ?_))
 show wpAny _ _ (setField (.ref it) 0 .none >>=_) _ _ s
 refine yA (wpAny_setField j1 j3 (by simp) ?_)
 show wpAny _ _ (newExc (.type "StopIteration") [] >>=_) _ _ _
 refine yA ?_
 simp only [newExc,newTuple]
 refine yA (wpAny_newObj_type ?_ (by size_fits))
 refine yA (m:=firstArgMember _ _) (wpAny_of_eq (a:=Value.none) (by first | rfl | (simp only [firstArgMember];rfl)) (wpAny_newObj_type ?_ (by size_fits)))
 simp only [raiseNew]
 refine yA (wpAny_handled ?_)
 rw [show A.in1.handled=none from hh]
 refine yA (yD (wpAny_throw (?_:wpAny _ _ _ _ _ _)))
 refine yA (wpAny_isInstance (b:=true) (T:="StopIteration") ⟨_,yT _ rfl,rfl⟩ isSubtype_stop ?_)
 exact yD (q _ (((jA ..).extBut.push _).push _))
end
section
variable {X:Cx}
end
end L2
namespace L2
open PySem
end L2
namespace L2
open PySem PySem.Spec PyProof.Rows
section
variable {X:Cx}
end
section
variable {prog:Program} {w:World} {A:Around} {E:Value→Shared→Prop} {s:Shared}
theorem zlQ {d b:Addr}{acc:List (List Key×Addr×Value)}{ks:List Key}{u:Value}{Q:Unit→Shared→Prop}(rm:(tupleKind (zaw prog w)).room A)(ik:(tupleKind (zaw prog w)).is s.heap ks b)
  (dd:s.heap.DictOfH (tupleKind (zaw prog w)) d acc) (q:∀ g,g.DictOfH (tupleKind (zaw prog w)) d (storedH acc ks b u)→qH d s.heap g→Q () {s with heap:=g}) (few:acc.length≤yM):
  wpAny (model prog w) A (dictSetHashed d (.ref b) ((tupleKind (zaw prog w)).hash ks) u) Q E s:=by
 obtain ⟨ob,es,ep,g1,g2,g3,g4,g5,g6⟩:=dd
 unfold dictSetHashed
 try with_reducible refine wpAny_holding ?_
 refine yA (wpAny_dictFind_heap rm ik g1 g3 g4 g5 g6 (fun no=>?_) (fun j p hj=>?_))
 ·have out:ks∉acc.map (·.1):=not_mem_keys_of_get no
  have st:=storedH_new (a:=b) (v:=u) (atKey_none_of_get no)
  have sz:=size_of_entries g4
  refine yA (wpAny_rule (wpAny_updateDictKeys (hz:=by omega) g1 g3 (q _ ⟨_,_,ep+1,qR _ g1 (yaY (wR g3 _)),g2.mapDictKeys _,wR g3 _,?_,?_,?_⟩ (jA ..))))
  ·rw [st];simp [g4,entryOfKey]
  ·rw [st]
   intro y hy
   rcases yU.mp hy with hy | hy
   ·exact (tupleKind (zaw prog w)).keeps (g5 y hy) g1 g3 (jA ..)
   ·rw [yE.mp hy]
    exact (tupleKind (zaw prog w)).keeps ik g1 g3 (jA ..)
  ·rw [st,yK]
   refine jG.mpr ⟨g6,by simp,fun y hy z hz e=>out ?_⟩
   have ez:z=ks:=yE.mp hz
   rw [← ez,← e]
   exact hy
 ·have st:=storedH_old (v:=u) (a:=b) (atKey_of_get g6 hj)
  refine yA (wpAny_rule (yA (wpAny_updateDict g1 g3 (wpAny_point (q _ ⟨_,_,ep,qR _ g1 (yaY (yb9 g3 _)),g2.mapDict _,yb9 g3 _,?_,?_,?_⟩ (jA ..))))))
  ·rw [st]
   have md:=modify_map_putAt (entryOfKey (tupleKind (zaw prog w))) (fun e:DictEntry=>{e with val:=u}) ks u (fun _ _=>rfl) g6 hj
   rw [← g4] at md
   obtain ⟨l⟩:=es
   simpa using md
  ·rw [st]
   intro y hy
   obtain ⟨z,hz,rfl⟩:=yY.mp hy
   unfold putAt
   split <;> exact (tupleKind (zaw prog w)).keeps (g5 z hz) g1 g3 (jA ..)
  ·rw [st,keys_map_putAt];exact g6
theorem ziw (acc:List (List Key×Addr×Value))(xs:List (List Key×Addr×Value)){i:Nat}{x:List Key×Addr×Value}(h:xs[i]? =some x):storeAll acc (xs.take (i+1))=storedH (storeAll acc (xs.take i)) x.1 x.2.1 x.2.2:=by
 unfold storeAll
 rw [yO,h,xU]
 rfl
theorem zoa {nm:String}{d o:Addr}{acc more:List (List Key×Addr×Value)}{Q:Unit→Shared→Prop}(rm:(tupleKind (zaw prog w)).room A)(ne:d≠o)(nsys:(o==sysModules)=false)
  (dd:s.heap.DictOfH (tupleKind (zaw prog w)) d acc) (od:s.heap.DictOfH (tupleKind (zaw prog w)) o more) (some1:acc≠[]) (few:acc.length+more.length≤yM)
  (q:∀ g,g.DictOfH (tupleKind (zaw prog w)) d (storeAll acc more)→qH d s.heap g→Q () {s with heap:=g}):
  wpAny (model prog w) A (ybt nm d o) Q E s:=by
 obtain ⟨ob,es,ep,g1,g2,g3,g4,g5,g6⟩:=id dd
 obtain ⟨oo,fs,fp,f1,f2,f3,f4,f5,f6⟩:=id od
 have sz:=size_of_entries f4
 have sd:=size_of_entries g4
 unfold ybt
 rw [if_neg (by simpa using ne)]
 unfold xV
 rw [nsys,if_neg yS]
 refine yA (yD (yA (wpAny_dictEntries f1 f3 ?_)))
 dsimp only
 split
 all_goals try (refine yA (wpAny_dictEntries g1 g3 ?_);split)
 ·rename_i em
  have:es= #[]:=Array.isEmpty_iff.mp em
  rw [this] at sd
  exact absurd (vA.mp sd.symm) some1
 all_goals
  refine yA (wpAny_dictEpoch f1 f3 (yA (wpAny_dictEntries f1 f3 (yA ?_))))
  rw [yca.forIn_eq_forIn_range'];simp only [yca.size,yb1,ybR,Nat.div_one]
  refine wpAny_forIn_list _ (fun rest _ t=>∃ g i,t= {s with heap:=g}∧rest=List.range' i (fs.size - i)∧i≤fs.size∧g.DictOfH (tupleKind (zaw prog w)) d (storeAll acc (more.take i))∧g.get? o=some oo∧qH d s.heap g) _ ?_ ?_ _ _
   ⟨s.heap,0,rfl,by simp,qL _,by simpa [storeAll] using dd,f1,qH.refl _ _⟩
  ·rintro x rest b t ⟨g,i,rfl,hr,hi,hd,ho,hs⟩
   have lt:i < fs.size:=Nat.lt_of_not_le fun z=>by rw [Nat.sub_eq_zero_of_le z] at hr;simp at hr
   rw [show fs.size - i=(fs.size - (i+1))+1 by omega,ycb] at hr
   obtain ⟨rfl,hr⟩:=yaP hr
   obtain ⟨y,hy⟩:∃ y,more[x]? =some y:=⟨_,yC (by omega)⟩
   have ey:fs[x]? =some (entryOfKey (tupleKind (zaw prog w)) y):=by rw [entry_at f4 x,hy];rfl
   have len:=zeK (more.take x) acc
   rw [yP] at len
   have ky:(tupleKind (zaw prog w)).is g y.1 y.2.1:=(tupleKind (zaw prog w)).keeps (f5 y (yH hy)) g1 g3 hs
   refine yA (wpAny_dictEntries ho f3 ?_)
   rw [ey]
   refine yA (wpAny_holding (zlQ (s:={s with heap:=g}) rm ky hd (fun g' hd' hs'=>?_) (by omega)))
   have ho':g'.get? o=some oo:=(hs'.2 o (jL ne)).trans ho
   refine yA (wpAny_dictEpoch (s:={s with heap:=g'}) ho' f3 ?_)
   rw [if_neg (by simp)]
   exact yD ⟨g',x+1,rfl,hr,lt,by rw [ziw acc more hy];exact hd',ho',hs.trans hs'⟩
  ·rintro b t ⟨g,i,rfl,hr,hi,hd,ho,hs⟩
   have e:i=fs.size:=by
    rcases yb2 i fs.size with z | z
    ·rw [show fs.size - i=(fs.size - (i+1))+1 by omega,ycb] at hr;cases hr
    ·omega
   rw [e,sz,yQ] at hd
   exact yD (q g hd hs)
end
noncomputable def zqo:V→List V→Hp→VK→Prop:=fun x vs H Q=>∃ d o kvs more,x= .ref d∧vs= [.ref o]∧H d=some (.dT kvs)∧H o=some (.dT more)∧d≠o∧kvs≠[]∧kvs.length+more.length≤yM∧Q .non (upd H d (.dT (zef kvs more)))
theorem znK {X:Cx}(hu:X.A.units+1 < cLine):MtM X "dict.update" zqo:=by
 intro pins s σ H x vs v us Q I rx rv h
 obtain ⟨d,o,kvs,more,rfl,rfl,hd,ho,ne,some1,hz,q⟩:=h
 cases rx
 obtain ⟨u,rfl,ru⟩:=rv.one
 cases (show u=Value.ref o from ru)
 obtain ⟨z,nsys,xs,rel,dd⟩:=zmD I.hok hd
 obtain ⟨z',nsys',ys,rel',dd'⟩:=zmD I.hok ho
 have lx:=qI rel
 have ly:=qI rel'
 have ty:=dd.typeIs (s:=s)
 have ty':=dd'.typeIs (s:=s)
 refine wpAny_call_entry ybd ty PySem.F.entry_dict_update ?_ (PySem.F.args_dict_update_2 _ _)
 unfold Builtin.«dict.update»;refine yA ?_;unfold yba
 refine yA (wpAny_notOrdered_dict ty (?_:wpAny _ _ (pure (d,[Value.ref o])) _ _ s))
 refine yD (?_:wpAny _ _ (wA "dict.update" d (.ref o) [] .none) _ _ s)
 unfold wA;refine yA (wpAny_typeOf ty' ?_);rw [if_neg (by decide)]
 refine yA ?_;unfold Builtin.Dict.merge;refine yA ?_;unfold Builtin.Dict.readDirectly
 refine yA (wpAny_isInstance ty' isSubtype_dict_dict ?_);simp only [yaQ,qE,if_false]
 refine yA (wpAny_specialOf ty' yaw.lookup (yD ?_));simp only [beq_self_eq_true,if_true]
 refine yA (yD (zoa (tupleKind_room_in1 hu) ne nsys' dd dd' (fun e=>?_) (by omega) fun g hg hs=>?_))
 ·rw [e] at lx
  exact some1 (vA.mp lx)
 ·show wpAny _ _ (ya9 d [] >>=fun _=>_) _ _ _
  refine yA (yD (yD ⟨_,rfl,.non,_,?_,rfl,q⟩))
  obtain ⟨qo,es,ep,hq,h2,h3,h4,_,h5⟩:=hg
  have lm:=zdZ more kvs
  refine zfY I (by rw [hd];exact True.intro) hs ⟨qo,hq⟩ ⟨by omega,nsys,_,(KT.merge rel' rel).keeps fun c zs ec=>RdT.dw ec hd,qo,es,ep,hq,h2,h3,h4,h5⟩
section
variable {prog:Program} {w:World} {A:Around} {E:Value→Shared→Prop} {s:Shared}
theorem zkf:typeLookup (.type "dict") "__len__" =pure (some (.builtin "dict.__len__")):=by rw [typeLookup_type,builtinLookup_eq_fast];kernel_rfl
theorem zlI (hh:A.handled=none)(I d:Addr)(hne:d≠I)(es:Array DictEntry)(ep:Nat):
  Walks prog w A I [I,d] [I] es.size (fun i v=>∃ en,es[i]? =some en∧v=en.key) (fun i h=>h.IsKeyIter I d i es.size ep∧EntD h d es ep) where
 sub:=fun b hb=>by cases yE.mp hb;exact .head _
 frame:=fun _ _ _ st hk=>⟨st.1.at (hk I (by simp)),st.2.at (hk d (by simp))⟩
 item:=fun i s Q E hi st hQ=>zna st.1 st.2 (jI hi) fun h' it' sb=>
  hQ _ h' s.toks ⟨_,jI hi,rfl⟩ ⟨it',st.2.at fun o e=>sb.extBut d o hne e⟩ fun b o hb e=>sb.extBut b o (fun z=>hb (by simp [z])) e
 done:=fun s Q E st hQ=>zoe hh st.1 st.2 (yN _) fun h' eb=>hQ h' s.toks fun b o hb e=>eb b o (fun z=>hb (by simp [z])) e
 self:=fun _ _ _ _ st hQ=>wpAny_pyIter_keyiter st.1 hQ
theorem zhC {d:Addr}{es:Array DictEntry}{ep:Nat}{Q:Value→Shared→Prop}(hh:A.handled=none)(ns:(d==sysModules)=false)(hE:EntD s.heap d es ep)(small:es.size≤yM)
  (q:∀ h' tk acc c,(∀ b o,s.heap.get? b=some o→h'.get? b=some o)→h'.get? s.heap.objs.size=some {cls:=.type "list",dict:=none,data:=.seq acc c,slots:=#[]}→
   acc.toList=es.toList.map (·.key)→Q (.ref s.heap.objs.size) {s with heap:=h',toks:=tk}):wpAny (model prog w) A (call (.type "list") [.ref d]) Q E s:=by
 obtain ⟨ob,e1,e2,e3⟩:=id hE
 refine callType_codes (Q₁ :=fun obj s₁ =>obj= .ref s.heap.objs.size∧s₁ = {s with heap:=s.heap.push {cls:=.type "list",data:=.seq #[]}}) ybK (ybk _) ybl
  (code_list_new _ ⟨rfl,rfl⟩) fun obj s₁ h₁ =>?_
 obtain ⟨rfl,rfl⟩:=h₁
 generalize eL:s.heap.objs.size=L at q ⊢
 have ld:d < L:=by rw [← eL];exact yV e1
 have hL:(s.heap.push {cls:=.type "list",data:=.seq #[]}).get? L=some {cls:=.type "list",data:=.seq #[]}:=by rw [← eL];exact yT _ rfl
 refine ⟨⟨_,hL,rfl⟩,ybc _ _,?_⟩
 show wpAny _ A.in1.in1 (do let old ← wF (.ref L);ybm (.ref L) (fun _=>#[]);letGo old.toList.reverse;jS (.ref L) (.ref d) .none) _ _ _
 refine yA ?_
 unfold wF
 refine yA (wpAny_seqItems hL rfl (yD ?_))
 show wpAny _ A.in1.in1 (updateSeq L (fun _=>#[]) >>=fun _=>letGo (#[]:Array Value).toList.reverse >>=fun _=>jS (.ref L) (.ref d) .none) _ _ _
 refine yA (wpAny_updateSeq hL rfl ?_)
 have hL2:=qR (jE (fun _=>(#[]:Array Value))) hL rfl
 have keep2:∀ b o,s.heap.get? b=some o→((s.heap.push {cls:=.type "list",data:=.seq #[]}).update L (jE (fun _=>(#[]:Array Value)))).get? b=some o:=fun b o e=>
  (jO _ _ (fun z=>vJ L (by have k:=yV e;rw [eL] at k;exact z ▸ k))).trans (yI _ e)
 generalize hH2:(s.heap.push {cls:=.type "list",data:=.seq #[]}).update L (jE (fun _=>(#[]:Array Value)))=H2 at hL2 keep2 ⊢
 refine yA (wpAny_letGo ?_)
 unfold jS
 have tv:∀ (h':Heap),h'.get? d=some ob→yaq {s with heap:=h'} (.ref d) "dict" :=fun h' e=>⟨ob,e,e2.1⟩
 refine yA (wpAny_typeOf (tv _ (keep2 _ _ e1)) ?_)
 have h1:xW (.ref L) (.ref d)=false:=by simp [xW];exact kE ld
 simp only [h1,show (Value.type "dict" ==Value.type "list")=false by decide,show (Value.type "dict" ==Value.type "tuple")=false by decide,ybi,qE,if_false]
 refine yA (zm8 (s:={s with heap:=H2}) ns (hE.at (keep2 d)) ?_)
 have keep3:∀ b o,H2.get? b=some o→(H2.push {cls:=.type "dict_keyiterator",data:=.fields #[.ref d,.int 0 0,.int es.size 0,.int ep 0]}).get? b=some o:=fun b o e=>yI _ e
 have hI:(H2.push {cls:=.type "dict_keyiterator",data:=.fields #[.ref d,.int 0 0,.int es.size 0,.int ep 0]}).IsKeyIter H2.objs.size d 0 es.size ep:=⟨_,yT _ rfl,rfl,rfl⟩
 have lI:L < H2.objs.size:=yV hL2
 generalize H2.objs.size=It at hI lI ⊢
 generalize (H2.push {cls:=.type "dict_keyiterator",data:=.fields #[.ref d,.int 0 0,.int es.size 0,.int ep 0]})=H3 at hI keep3 ⊢
 refine yA (wpAny_holding ?_)
 unfold wK
 have v13:=keep3 _ _ (keep2 _ _ e1)
 refine yA (wpAny_specialOf (tv _ v13) zkf ?_)
 generalize hid:("dict.__len__" :String)=id0
 wp_delta
 rw [show splitId id0=some ("dict","__len__") from by subst hid;decide+kernel]
 subst hid
 refine yA (wpAny_isInstance (b:=true) (tv _ v13) isSubtype_dict_dict ?_)
 rw [if_neg (show ¬((!true)=true) from yS)]
 rw [if_pos (by decide+kernel)]
 refine yA (wpAny_typeOf (tv _ v13) (yD ?_))
 rw [if_pos (by decide+kernel)]
 refine yA (wpAny_rule (yA ?_))
 show wpAny _ _ (updateSeq L (·.push .none) >>=fun _=>updateSeq L (·.pop)) _ _ _
 have hL3:=keep3 _ _ hL2
 refine yA (wpAny_updateSeq hL3 rfl ?_)
 have hL4:=qR (jE (·.push Value.none)) hL3 rfl
 refine wpAny_updateSeq (hz:=by seq_fits) hL4 rfl ?_
 have hL5:=qR (jE (·.pop)) hL4 rfl
 have oth:∀ b o,b≠L→H3.get? b=some o→((H3.update L (jE (·.push Value.none))).update L (jE (·.pop))).get? b=some o:=
  fun b o hb e=>(jO _ _ (jL hb)).trans ((jO _ _ (jL hb)).trans e)
 have nd:d≠It:=qC (yaC ld lI)
 have W:=(zlI (prog:=prog) (w:=w) (A:=A.in1.in1) (by simp [hh]) It d nd es ep).toS
 have nL:L∉[It,d]:=by
  simp only [yR,qK,or_false,not_or]
  exact ⟨qC lI,kE ld⟩
 have dE3:EntD H3 d es ep:=hE.at fun o e=>keep3 _ _ (keep2 _ _ e)
 refine yD ⟨plainId_quiet wX _,codeAny_extend_loopS W small L nL _ es.size 0 _ _ _ rfl (qL _) ⟨hI.at fun o e=>oth It o (kE lI) e,dE3.at fun o e=>oth d o (qC ld) e⟩ hL5 (ycj _) fun s' acc' c' hm hS' hacc=>?_⟩
 have es':s'= {s with heap:=s'.heap,toks:=s'.toks}:=by
  have g1:=hm.gens
  have g2:=hm.drawn
  have g3:=hm.os
  obtain ⟨a1,a2,a3,a4,a5⟩:=s'
  dsimp only at g1 g2 g3
  rw [g1,g2,g3]
 have eacc:acc'.toList=es.toList.map (·.key):=by
  refine jM fun j=>?_
  rw [yG,vN,vN]
  by_cases hj:j < es.size
  ·obtain ⟨en,e4,e5⟩:=hacc.2 j _ (jI (by rw [hacc.1];exact hj))
   rw [jI (by rw [hacc.1];exact hj),e4,e5]
   rfl
  ·rw [xQ (by rw [hacc.1];omega),xQ (by omega)]
   rfl
 refine ⟨rfl,?_⟩
 rw [es']
 refine q s'.heap s'.toks acc' c' (fun b o e=>?_) hS' eacc
 have bl:b < L:=by rw [← eL];exact yV e
 refine hm.heap b o ?_ (oth b o (qC bl) (keep3 _ _ (keep2 _ _ e)))
 simp only [yR,qK,or_false,not_or]
 exact ⟨qC bl,qC (yaC bl lI)⟩
end
theorem zge {P:Program}{w:World}{H:Hp}:∀ {kvs:List (List Key×V)} {xs:List (List Key×Addr×Value)},KT H kvs xs→
  ∃ bs:List Addr,Paired (fun b (kv:List Key×V)=>RdT H b (kv.1.map kV)) bs kvs∧Vals (bs.map V.ref) ((xs.map (entryOfKey (tupleKind (zaw P w)))).map (·.key))
 | _,_,.nil=>⟨[],.nil,.nil⟩
 | _,_,.cons (b:=x) h r=>by
  obtain ⟨bs,h1,h2⟩:=zge (P:=P) (w:=w) r
  exact ⟨x.2.1::bs,.cons h.2.1 h1,.cons rfl h2⟩
theorem zmc {X:Cx}(hc:X.calm=true):zfD X (.type "list") (fun xs H Q=>∃ (d:Addr) (kvs:List (List Key×V)),xs= [.ref d]∧H d=some (.dT kvs)∧∀ (L:Addr) (bs:List Addr),H L=none→Paired (fun b (kv:List Key×V)=>RdT H b (kv.1.map kV)) bs kvs→Q (.ref L) (upd H L (.lst (bs.map V.ref)))):=by
 intro pins s σ H xs us Q I r ⟨d,kvs,e,hd,q⟩
 subst e
 obtain ⟨u,rfl,rx⟩:=ziF r
 cases rx
 obtain ⟨lk,nsys,ws,pr,ob,es,ep,e1,e2,e3,e4,e5⟩:=(show zbM X.prog X.w H s.heap d (.dT kvs) from I.hok d _ hd)
 obtain ⟨bs,pb,vb⟩:=zge (P:=X.prog) (w:=X.w) pr
 have ls:es.size=kvs.length:=by
  have:=congrArg vI e4
  rw [yB,xT] at this
  rw [this]
  exact (qI pr).symm
 refine zhC (I.ok.hd hc) nsys ⟨ob,e1,e2,e3⟩ (by omega) fun h' tk acc c hk hL ea=>?_
 refine ⟨.ref _,_,I.laid (o:=.lst (bs.map V.ref)) (t':=tk) hk (yN _) ⟨by rw [yB,qI pb];exact lk,acc.toList,c,?_,hL⟩,rfl,q _ bs (I.hok.fresh (yN _)) pb⟩
 rw [ea,e4]
 exact vb
section
variable {prog:Program} {w:World} {A:Around} {E:Value→Shared→Prop} {s:Shared}
end
section
variable {prog:Program} {w:World} {A:Around} {E:Value→Shared→Prop} {s:Shared}
end
end L2
namespace L2
open PySem
theorem zmb {n:Nat}{g:TG}{tb:TS}{D:Ends}{σ :St}{H:Hp}(Pv:Nat→St→Hp→Prop)(h0:Pv 0 σ H)
  (hs:∀ (i:Nat) σ H,i < n→Pv i σ H→g (.int (i:Int)) σ H fun σ2 H2=>tb {D with nx:=Pv (i+1),ct:=Pv (i+1),bk:=D.nx} σ2 H2) (hd:∀ σ H,Pv n σ H→D.nx σ H):
  ∃ W:Nat→Nat→St→Hp→Prop,(∃ m,W 0 m σ H)∧∀ i m σ H,W i m σ H→
   ((Itr 0 n).stop i H∧D.nx σ H)∨((Itr 0 n).go i H∧∃ N:St→Hp→Prop,(∀ σ' H',N σ' H'→∃ m',m' < m∧W (i+1) m' σ' H')∧∀ x H',(Itr 0 n).yld i H x H'→g x σ H' fun σ2 H2=>tb {D with nx:=N,ct:=N,bk:=D.nx} σ2 H2):=
 zeg Pv h0 (fun i σ H hi p=>by rw [yal];exact hs i σ H hi p) hd
theorem zca {n:Nat}{g:TG}{tb:TS}{D:Ends}{σ :St}{H:Hp}(Pv:Nat→St→Hp→Prop)(h0:Pv 0 σ H)
  (hs:∀ (i:Nat) σ H (E:Ends),i < n→(∀ σ' H',Pv (i+1) σ' H'→E.nx σ' H')→Pv i σ H→g (.int (i:Int)) σ H fun σ2 H2=>tb E σ2 H2) (hd:∀ σ H,Pv n σ H→D.nx σ H):
  ∃ W:Nat→Nat→St→Hp→Prop,(∃ m,W 0 m σ H)∧∀ i m σ H,W i m σ H→
   ((Itr 0 n).stop i H∧D.nx σ H)∨((Itr 0 n).go i H∧∃ N:St→Hp→Prop,(∀ σ' H',N σ' H'→∃ m',m' < m∧W (i+1) m' σ' H')∧∀ x H',(Itr 0 n).yld i H x H'→g x σ H' fun σ2 H2=>tb {D with nx:=N,ct:=N,bk:=D.nx} σ2 H2):=
 zmb Pv h0 (fun i σ H hi p=>hs i σ H _ hi (fun _ _ z=>z) p) hd
theorem zkC {n:Nat}{D:Addr}{n0:Nat}{cap:List Nat}{σ :St}{g:TG}{tt:TT}{te:TE}{Q:VK}{H1:Hp}(Pv:Nat→Hp→Prop)(h0:Pv 0 (upd H1 D (.lst [])))
  (hs:∀ (i:Nat) H,i < n→Pv i H→g (.int (i:Int)) (zbC n0 cap σ) H fun σ2 H2=>tt σ2 H2 fun b H3=>if b=true then te σ2 H3 fun y H4=>∃ xs,H4 D=some (.lst xs)∧xs.length < yM∧Pv (i+1) (upd H4 D (.lst (xs++ [y]))) else Pv (i+1) H3)
  (hd:∀ H,Pv n H→Q (.ref D) H):zdf (Itr 0 n) D n0 cap σ g tt te Q H1:=
 zfP Pv h0 (fun i H hi p=>by rw [yal];exact hs i H hi p) hd
end L2
namespace L2
open PySem PySem.Spec PyProof.Rows
section
variable {X:Cx}
end
section
variable {X:Cx} {tg:Expr}
end
section
end
section
variable {prog:Program} {w:World} {A:Around} {E:Value→Shared→Prop} {s:Shared}
end
section
variable {X:Cx} {pins:List (Addr×Obj)} {σ :St} {H1:Hp} {s1 s':Shared} {C S:Addr} {nid nid2:String} {bB bB2:List Value} {sx n:Str} {np hpos:Pos} {b₀ :Stmt} {suite:List Stmt} {j:Nat} {ts:TS} {D:Ends} {E':XK} {e:Value}
end
section
variable {X:Cx} {C S f:Addr} {k:Nat} {fd:FuncData} {ps:List Str} {sp:Sp} {dvs:List V} {ds:List Value} {nid nid2:String} {bB bB2:List Value} {fx sx n:Str} {p np hpos cpos epos pos:Pos} {b₀ :Stmt} {suite:List Stmt} {j:Nat} {t:TA} {ts:TS} {e:Expr} {es:List Expr}
end
section
variable {X:Cx}
end
noncomputable def zbV (K:PySem.W.Frag) (c:Addr):PySem.W.Frag:=K.filter fun p=>p.1 !=c
theorem zfS {c b:Addr}(h:b≠c):∀ K:PySem.W.Frag,(zbV K c).lookup b=K.lookup b
 | []=>rfl
 | (a,o)::K=>by
  have ih:=zfS h K
  unfold zbV at ih ⊢
  by_cases e:a=c
  ·have f:(b==a)=false:=beq_eq_false_iff_ne.mpr fun z=>h (z.trans e)
   rw [vC (by simp [e]),xM,f]
   exact ih
  ·rw [vD (by simp [e]),xM,xM,ih]
theorem zj6 {c:Addr}:∀ K:PySem.W.Frag,(zbV K c).lookup c=none
 | []=>rfl
 | (a,o)::K=>by
  have ih:=zj6 (c:=c) K
  unfold zbV at ih ⊢
  by_cases e:a=c
  ·rw [vC (by simp [e])]
   exact ih
  ·rw [vD (by simp [e]),xM,show (c==a)=false from beq_eq_false_iff_ne.mpr (jL e)]
   exact ih
theorem zmF {K:PySem.W.Frag}{c b:Addr}{o:Obj}(h:(zbV K c).lookup b=some o):b≠c∧K.lookup b=some o:=by
 by_cases e:b=c
 ·rw [e,zj6] at h;cases h
 ·rw [zfS e] at h;exact ⟨e,h⟩
theorem TupK.at {K:PySem.W.Frag}{c:Addr}{xs:List Str}(h:TupK K c xs):∃ o vs n,K.lookup c=some o∧o.cls= .type "tuple"∧o.data= .seq vs n∧Vals (xs.map V.str) vs.toList:=by
 unfold TupK at h
 cases e:K.lookup c with
 | none=>rw [e] at h;cases h
 | some o=>
  rw [e] at h
  have h':((o.cls== .type "tuple" && o.dict.isNone) && (match o.data with | .seq vs _=>zc9 xs vs.toList | _=>false))=true:=h
  rw [qM,qM] at h'
  obtain ⟨⟨h1,_⟩,h2⟩:=h'
  cases d:o.data with
  | seq vs n=>
   rw [d] at h2
   exact ⟨o,vs,n,rfl,eq_of_beq h1,d,zgU h2⟩
  | _=>rw [d] at h2;cases h2
section
variable {K:PySem.W.Frag} {c:Addr} {xs:List Str}
theorem zdT (h:TupK K c xs){f:Addr}{oc:Value}{od:Option Addr}{fd:FuncData}{sl:Array (Option Value)}(l:K.lookup f=some ⟨oc,od,.func fd,sl⟩):(zbV K c).lookup f=some ⟨oc,od,.func fd,sl⟩:=by
 obtain ⟨o,vs,n,e1,_,e3,_⟩:=h.at
 rw [zfS fun z=>?_]
 ·exact l
 ·rw [z,e1] at l
  cases l
  cases e3
theorem zdm (h:TupK K c xs){cd:Value}{q:Str}(e:PySem.W.codeIn K cd q=true):PySem.W.codeIn (zbV K c) cd q=true:=by
 obtain ⟨o,vs,n,e1,_,e3,_⟩:=h.at
 unfold PySem.W.codeIn at e ⊢
 cases cd with
 | ref a=>
  have ne:a≠c:=fun z=>by
   rw [z] at e
   have e':(match K.lookup c with | some ⟨_,_,.fields vs,_⟩=>(match vs.toList with | _:: .str n _::_=>n==q | _=>false) | _=>false)=true:=e
   rw [e1] at e'
   obtain ⟨q1,q2,q3,q4⟩:=o
   cases e3
   cases e'
  show (match (zbV K c).lookup a with | some ⟨_,_,.fields vs,_⟩=>(match vs.toList with | _:: .str n _::_=>n==q | _=>false) | _=>false)=true
  rw [zfS ne]
  exact e
 | _=>exact e
theorem zdx (h:TupK K c xs){f:Addr}{oc:Value}{od:Option Addr}{fd:FuncData}{sl:Array (Option Value)}(l:K.lookup f=some ⟨oc,od,.func fd,sl⟩):PySem.W.keepIn (zbV K c) (.ref f)=true:=by
 have l':=zdT h l
 unfold PySem.W.keepIn
 show (match (zbV K c).lookup f with | some ⟨_,_,.func _,_⟩=>true | some ⟨_,_,.cls _,_⟩=>_ | _=>false)=true
 rw [l']
theorem ziP {ts:List Str}(h:TupK K c ("well" ::ts)){T:Addr}{cT:Value}{dT:Option Addr}{kT:Tok}{nT:Nat}{sT:Array (Option Value)}(v:K.lookup T=some ⟨cT,dT,.seq #[.int 1 kT] nT,sT⟩):(zbV K c).lookup T=some ⟨cT,dT,.seq #[.int 1 kT] nT,sT⟩:=by
 obtain ⟨o,vs,n,e1,_,e3,e4⟩:=h.at
 rw [zfS fun z=>?_]
 ·exact v
 ·rw [z,e1] at v
  cases v
  cases e3
  cases e4 with
  | cons r _=>
   obtain ⟨_,r⟩:=r
   cases r
end
theorem zmw {P:Program}{w:World}{K:PySem.W.Frag}{mg mb:Str→Option Value}{CX:CXT}{k:Nat}{fa a c:Addr}{ts:List Str}{fd:FuncData}{x:Str}{sp:Sp}{s₁ :Shared}{vs:List Value}{ns:List Int}
  (KX:K.In s₁.heap) (hc:TupK K c ts) (hts:ts.length≤1000) (hns:s₁.heap.Ns jD mg) (hb:s₁.heap.Ns builtinsNs mb) (hbb:∀ x:Str,x≠"__name__"→mb x=bootBuiltins x) (hlim:s₁.heap.NoLimit) (hg:s₁.gens= #[])
  (ha:s₁.heap.get? a=some {cls:=.type "list",data:=.seq vs.toArray}) (hi:IntsAre vs ns) (hl:ns.length≤yM) (hr:Room k callerA)
  (F:∀ base:Heap,(zbV K c).In base→base.Ns jD mg→FnOk P w (zbV K c) mg base CX k fa fd [x] sp) (hbind:∀ (s:Shared) (u:Value),BindsTo s fd ⟨[u],[]⟩ [(x,u)])
  (hsp:∀ H:Hp,SqL (zbV K c) H a (ns.map V.int)→RdT H c (ts.map V.str)→sp [.ref a] H (fun v _=>v= .bl true) fun _ _ _=>False)
  (hCX:∀ H e s',CX [] H s₁ (fun _ _ _=>False) e s'→False):
  codeAny (model P w) callerA (.call (.ref fa) ⟨[.ref a],[]⟩) (fun r s'=>r= .ok (.ret (.bool true))∧OldK s₁.heap s'.heap∧s'.os=s₁.os∧AllBare s'.gens) s₁ :=by
 have rv:=zjc hi
 have lenV:=hi.length
 obtain ⟨oc,wv,wn,ec,cc,dc,rc⟩:=hc.at
 have hC:=KX c oc ec
 have ac:a≠c:=fun z=>by
  rw [z,hC] at ha
  have e:=qF ha
  rw [e] at cc
  exact absurd (show Value.type "list" =Value.type "tuple" from cc) (by decide)
 have hsz:(ts.map V.str).length≤yM:=by rw [yB];exact jB hts (by decide)
 have okC:∀ H:Hp,zbM P w H s₁.heap c (.frz oc (.tup (ts.map V.str))):=fun H=>⟨hC,hsz,wv.toList,rc,oc,hC,cc,wn,by rw [dc]⟩
 have core:∀ H:Hp,(∀ b u,H b=some u→∃ o v,u= .frz o v)→SqL (zbV K c) H a (ns.map V.int)→H c=some (.frz oc (.tup (ts.map V.str)))→HOk P w H s₁.heap→(∀ b,H b≠none→b=a∨b=c)→(H a≠none→K.lookup a=none)→
   codeAny (model P w) callerA (.call (.ref fa) ⟨[.ref a],[]⟩) (fun r s'=>r= .ok (.ret (.bool true))∧OldK s₁.heap s'.heap∧s'.os=s₁.os∧AllBare s'.gens) s₁ :=by
  intro H hO hS hW hok hA hK
  have base_of:∀ {b:Addr} {o:Obj},s₁.heap.get? b=some o→H b=none→(hidT s₁.heap H).get? b=some o:=fun e n=>zom e n
  have noA:∀ {b:Addr} {o:Obj} {es:Array DictEntry} {ep:Nat},s₁.heap.get? b=some o→o.data= .dict es ep→H b=none:=fun {b o es ep} e d=>by
   cases q:H b with
   | none=>rfl
   | some u=>
    rcases hA b (by rw [q];simp) with e' | e'
    ·subst e'
     rw [ha] at e;cases e
     have d':Data.seq vs.toArray _=Data.dict es ep:=d
     cases d'
    ·subst e'
     rw [hC] at e;cases e
     rw [dc] at d;cases d
  have nsK:∀ {b:Addr} {m:Str→Option Value},s₁.heap.Ns b m→(hidT s₁.heap H).Ns b m:=fun {b m} ⟨o,es,ep,e,d,r⟩=>⟨o,es,ep,base_of e (noA e d),d,r⟩
  have hKb:(zbV K c).In (hidT s₁.heap H):=fun b o e=>by
   obtain ⟨bc,e2⟩:=zmF e
   refine base_of (KX b o e2) ?_
   cases q:H b with
   | none=>rfl
   | some u=>
    rcases hA b (by rw [q];simp) with e' | e'
    ·subst e'
     rw [hK (by rw [q];simp)] at e2;cases e2
    ·exact absurd e' bc
  have hM:Mod (zbV K c) mg (hidT s₁.heap H):=⟨hKb,nsK hns,⟨mb,nsK hb,hbb⟩,let ⟨mc,h1,h2⟩:=hlim;⟨mc,nsK h1,h2⟩⟩
  have e0:Env0 P w (zbV K c) mg (hidT s₁.heap H) callerA [] s₁ H:=⟨rfl,hM,fun b o e=>zpM e,Nat.le_of_eq (znT _ _),trivial,fun b hb=>absurd (show b∈([]:List Addr) from hb) (by simp),hok,.of_eq hg⟩
  refine codeAny_mono ((F _ hKb (nsK hns)).run callerA [] s₁ H ⟨[.ref a],[]⟩ [.ref a] [.ref a] _ _ hr e0 (hbind s₁ (.ref a)) (.cons rfl .nil) (hsp H hS (.inr ⟨_,hW⟩))) fun r s' h=>?_
  cases r with
  | error e=>exact (hCX H e s' h).elim
  | ok fl=>
   cases fl with
   | next=>exact wM h
   | brk=>exact wM h
   | cont=>exact wM h
   | ret u=>
    obtain ⟨v,H',os,bare,un,hok',r',q⟩:=h
    have q':v= .bl true:=q
    subst q'
    obtain rfl:u=Value.bool true:=r'
    refine ⟨rfl,OldK.of_keep fun b o e=>?_,os,bare⟩
    cases q:H b with
    | none=>exact un.keep b o e q (by intro z;exact absurd (show b∈([]:List Addr) from z) (by simp)) (by simp)
    | some u=>
     obtain ⟨ob,xs,z⟩:=hO b u q
     subst z
     have z2:=un.frzs b ob _ q
     obtain ⟨e1,_⟩:=hok b _ q
     obtain ⟨e2,_⟩:=hok' b _ z2
     rw [e] at e1;cases e1
     exact e2
 cases hk:K.lookup a with
 | some o=>
  have e:=KX a o hk
  rw [ha] at e
  cases e
  have hk':(zbV K c).lookup a=some _:=(zfS ac K).trans hk
  refine core (fun b=>if b=c then some (.frz oc (.tup (ts.map V.str))) else none) (fun b u z=>?_) (.inr ⟨_,vs.toArray,_,hk',rfl,rfl,rfl,by rw [yW,lenV];exact hl,by simpa using rv⟩) (if_pos rfl) (fun b u z=>?_) (fun b z=>?_) fun z=>absurd (if_neg ac) z
  ·by_cases hb:b=c
   ·exact ⟨_,_,(qF ((if_pos hb).symm.trans z)).symm⟩
   ·have z':=(if_neg hb).symm.trans z
    cases z'
  ·by_cases hb:b=c
   ·have z':=(if_pos hb).symm.trans z
    cases z'
    subst hb
    exact okC _
   ·have z':=(if_neg hb).symm.trans z
    cases z'
  ·by_cases hb:b=c
   ·exact .inr hb
   ·exact absurd (if_neg hb) z
 | none=>
  refine core (fun b=>if b=c then some (.frz oc (.tup (ts.map V.str))) else if b=a then some (.frz {cls:=.type "list",data:=.seq vs.toArray} (.lst (ns.map V.int))) else none) (fun b u z=>?_)
   (.inl (.inr ⟨{cls:=.type "list",data:=.seq vs.toArray},(if_neg ac).trans (if_pos rfl)⟩)) (if_pos rfl) (fun b u z=>?_) (fun b z=>?_) fun _=>hk
  ·by_cases hb:b=c
   ·exact ⟨_,_,(qF ((if_pos hb).symm.trans z)).symm⟩
   ·by_cases hb2:b=a
    ·exact ⟨_,_,(qF (((if_neg hb).trans (if_pos hb2)).symm.trans z)).symm⟩
    ·have z':=((if_neg hb).trans (if_neg hb2)).symm.trans z
     cases z'
  ·by_cases hb:b=c
   ·have z':=(if_pos hb).symm.trans z
    cases z'
    subst hb
    exact okC _
   ·by_cases hb2:b=a
    ·have z':=((if_neg hb).trans (if_pos hb2)).symm.trans z
     cases z'
     subst hb2
     exact ⟨ha,by rw [yB];exact hl,vs,_,rv,ha⟩
    ·have z':=((if_neg hb).trans (if_neg hb2)).symm.trans z
     cases z'
  ·by_cases hb:b=c
   ·exact .inr hb
   ·by_cases hb2:b=a
    ·exact .inl hb2
    ·exact absurd ((if_neg hb).trans (if_neg hb2)) z
theorem zn3 {l:ybC}{n k:Nat}{q:Program}{loose:List Str}{XP:(Str→Option Value)→Heap→Prop}{YP:World→Heap→Prop}{d:DefRec}{K:Params→PySem.W.Frag}{CX:CXT}{ts:List Str}{sp:PySem.W.Frag→Addr→Sp}{x:Str}
  (hn:l.most=some n) (hn2:n≤yM) (hdf:d.params.defaults= []) (hr:Room k callerA) (hts:ts.length≤1000)
  (hY:∀ (w:World) (h:Heap),YP w h→(K w.params).In h)
  (F:∀ (w:World) (mg:Str→Option Value) (fa:Addr) (h:Heap),(K w.params).In h→h.Ns jD mg→mg d.name=some (.ref fa)→
   ∃ (c:Addr) (fd:FuncData),TupK (K w.params) c ts∧(∀ (s:Shared) (u:Value),BindsTo s fd ⟨[u],[]⟩ [(x,u)])∧
    ∀ base:Heap,(zbV (K w.params) c).In base→base.Ns jD mg→FnOk l.prog w (zbV (K w.params) c) mg base CX k fa fd [x] (sp (zbV (K w.params) c) c))
  (hsp:∀ (K:PySem.W.Frag) (c:Addr) (H:Hp) (a:Addr) (ns:List Int),ns.length≤n→SqL K H a (ns.map V.int)→RdT H c (ts.map V.str)→sp K c [.ref a] H (fun v _=>v= .bl true) fun _ _ _=>False)
  (hCX:∀ (H:Hp) (s:Shared) (e:Value) (s':Shared),CX [] H s (fun _ _ _=>False) e s'→False):
  PySem.W.WalkO q loose XP YP l.row.toRowW d [] (fun f vs=>ycm f vs):=by
 refine Att.attach_call hn hdf fun w s₀ s₁ mg mb fa o pm cd doc a vs ns G Y ho hd hcd hmg hobj hints hlen hg=>?_
 have KX:=hY w _ Y
 obtain ⟨c,fd,hc,hb,hF⟩:=F w mg fa _ KX G.T.g hmg
 exact zmw KX hc hts G.T.g G.T.b G.T.builtins G.T.nolimit hg hobj hints (jB hlen hn2) hr hF hb (fun H hS hW=>hsp _ _ H a ns hlen hS hW) fun H e s'=>hCX H s₁ e s'
end L2
namespace My
open PySem L2
open PySem.Builtin.Str (occurrences partsBetween strSub subAt)
end My
namespace L2
open PySem PySem.Spec PyProof.Rows
section
variable {X:Cx} {elt tg iter:Expr} {ifs:List Expr} {scope:Scope} {pos:Pos} {N:List Str} {n:Nat} {cap:List Nat} {wi:TI} {g:TG} {tt:TT} {te:TE}
end
section
variable {P:Program} {w:World} {K:PySem.W.Frag} {mg:Str→Option Value} {base:Heap} {N:List Str} {qual:Str} {scope:Scope} {f C:Addr} {cd:Value} {A:Around} {outer:List Env} {s:Shared} {H:Hp} {E:XK}
end
section
variable {X:Cx}
end
section
variable {X:Cx}
variable {D:Addr} {n0:Nat} {cap:List Nat} {σ :St} {g:TG} {tt:TT} {te:TE} {Q:VK} {H1:Hp}
end
section
variable {X:Cx} {pins:List (Addr×Obj)} {σ :St} {H:Hp} {s:Shared}
open PySem.Builtin PySem.Builtin.Str in
open PySem.Builtin PySem.Builtin.Str in
end
section
variable {X:Cx}
end
section
variable {X:Cx} {C S f:Addr} {k:Nat} {fd:FuncData} {ps:List Str} {sp:Sp} {dvs:List V} {ds:List Value} {nid nid2:String} {bB bB2:List Value} {fx sx n y:Str} {p np hpos cpos epos pos pos':Pos} {b₀ :Stmt} {suite:List Stmt} {i j:Nat} {t:TA} {ts:TS} {e:Expr} {es:List Expr}
end
noncomputable def zdb (c:Nat):List Int:=[((c / 2:Nat):Int),((c % 2:Nat):Int)]
noncomputable def zd5 (c:Nat):Int:=reduceHash (Builtin.Tuple.tupleHashOf [hashInt ((c / 2:Nat):Int),hashInt ((c % 2:Nat):Int)])
noncomputable def zhW (te:SetTable×List Nat) (c:Nat):Option SetTable.Met:=te.1.probe (fun i=>((te.2[i]?).map zd5).getD 0) (zd5 c) (te.1.probeStart (zd5 c))
noncomputable def zk7 (te:SetTable×List Nat) (c j:Nat):SetTable×List Nat:=((te.1.put j).1,te.2.take (te.1.put j).2++c::te.2.drop (te.1.put j).2)
noncomputable def zqp (te:SetTable×List Nat) (c:Nat):SetTable×List Nat:=
 match zhW te c with
 | some (.empty j none)=>zk7 te c j
 | _=>te
noncomputable def zej (led:Bool):List (SetTable×List Nat):=
 let s0:=[((SetTable.fresh 0 0 led,[]):SetTable×List Nat)]
 let nx:=fun (l:List (SetTable×List Nat))=>l.flatMap fun te=>([0,1,2,3].filter fun c=>!te.2.contains c).map fun c=>zqp te c
 s0++nx s0++nx (nx s0)++nx (nx (nx s0))++nx (nx (nx (nx s0)))
noncomputable def zdd (led:Bool) (te:SetTable×List Nat) (c:Nat):Bool:=
 te.1.fits te.2.length && !te.1.gaveWay && te.1.plain && (te.1.led==led) && decide (te.2.length≤4) &&
 (if te.2.contains c then
   (match zhW te c with
    | some (.candidate _ i _)=>te.2[i]? ==some c
    | _=>false)
  else
   (match zhW te c with
    | some (.empty j none)=>(zej led).contains (zk7 te c j) && !(te.1.put j).1.tooFull && (te.1.put j).1.plain
    | _=>false))
theorem zoQ:([true,false].all fun led=>(zej led).all fun te=>[0,1,2,3].all fun c=>zdd led te c)=true:=by decide+kernel
theorem zga {led:Bool}{te:SetTable×List Nat}{c:Nat}(h:te∈zej led)(hc:c < 4):zdd led te c=true:=by
 have h1:=yZ.mp zoQ led (by cases led <;> simp)
 have h2:=yZ.mp h1 te h
 refine yZ.mp h2 c ?_
 have:c=0∨c=1∨c=2∨c=3:=by omega
 rcases this with rfl | rfl | rfl | rfl <;> simp
noncomputable def entP (p:Nat×Addr):Int×Value:=(zd5 p.1,.ref p.2)
noncomputable def esP (L:List (Nat×Addr)):Array (Int×Value):=(L.map entP).toArray
noncomputable def zeU (prog:Program) (w:World) (h:Heap) (S:Addr) (led:Bool) (t:SetTable) (L:List (Nat×Addr)):Prop:=
 ∃ o ep,h.get? S=some o∧o.ExactSet∧o.data= .set (esP L) ep t∧(t,L.map qB)∈zej led∧∀ p∈L,p.1 < 4∧IsTupleKey (intKind prog w) h (zdb p.1) p.2
theorem zoN (L:List (Nat×Addr))(i:Nat):((esP L)[i]?.map (·.1)).getD 0=(((L.map qB)[i]?).map zd5).getD 0:=by
 simp only [esP,wL,yG]
 cases L[i]? <;> rfl
theorem zcg (L:List (Nat×Addr)):(esP L).size=L.length:=by simp [esP]
theorem zl9 (L:List (Nat×Addr))(p:Nat)(x:Nat×Addr):ybY (esP L) p (entP x)=esP (L.take p++x::L.drop p):=by
 refine ycc.mp ?_
 rw [SetTable.toList_insertAt]
 simp [esP,ybS,ybT]
section
variable {prog:Program} {w:World} {A:Around} {E:Value→Shared→Prop} {s:Shared}
theorem zf2 {ks:List Int}{a:Addr}{Q:Bool→Shared→Prop}(hk:IsTupleKey (intKind prog w) s.heap ks a)(h:Q false s):wpAny (model prog w) A (ofAClassStatement 8 (.ref a)) Q E s:=by
 have hT:=hk.typeIs
 obtain ⟨o,items,n,ho,_,hd,hi⟩:=hk
 unfold ofAClassStatement
 refine yA (wpAny_typeOf hT ?_)
 show wpAny _ _ (do
   let underTuple ← if ("tuple" :String)=="tuple" then pure true else isSubtype (.type "tuple") (.type "tuple")
   _) _ _ _
 refine yA ?_
 refine yD ?_
 simp only [yaQ,qE,if_false]
 refine yA (wpAny_seqItems ho hd ?_)
 refine yA ?_
 show wpAny _ _ (forIn items _ _) _ _ s
 rw [← ybU]
 refine wpAny_forIn_list _ (fun rest r s'=>r.1=none∧s'=s∧∀ v∈rest,carriedByValue v=true) _ ?_ ?_ _ _ ⟨rfl,rfl,hi.byValue⟩
 ·rintro v rest r s' ⟨hr,rfl,hall⟩
  have hv:=hall v xN
  have e:ofAClassStatement 7 v=pure false:=by
   cases v with
   | ref a=>simp [carriedByValue] at hv
   | _=>first | rfl | (unfold ofAClassStatement;rfl)
  rw [e]
  refine yA (yD ?_)
  simp only [qE,if_false]
  exact yD ⟨rfl,rfl,fun u hu'=>hall u (jU _ hu')⟩
 ·rintro ⟨r1,r2⟩ s' ⟨hr,rfl,_⟩
  simp only at hr
  subst hr
  exact yD h
theorem zmj {c:Nat}{a:Addr}{Q:Bool→Shared→Prop}(hu:A.units < cLine)(hk:IsTupleKey (intKind prog w) s.heap (zdb c) a)(ys:List Value)
  (hy:∀ y∈ys,∃ b d,y=Value.ref b∧IsTupleKey (intKind prog w) s.heap (zdb d) b) (h:Q false s):wpAny (model prog w) A (searchCouldBeSeen (.ref a) ys) Q E s:=by
 unfold searchCouldBeSeen
 refine yA ?_
 refine wpAny_forIn_list _ (fun rest r s'=>r.1=none∧s'=s∧∀ y∈rest,∃ b d,y=Value.ref b∧IsTupleKey (intKind prog w) s.heap (zdb d) b) _ ?_ ?_ _ _ ⟨rfl,rfl,hy⟩
 ·rintro v rest r s' ⟨hr,rfl,hall⟩
  obtain ⟨b,d,rfl,hb⟩:=hall v xN
  have hrest:∀ y∈rest,∃ b d,y=Value.ref b∧IsTupleKey (intKind prog w) s'.heap (zdb d) b:=fun u hu'=>hall u (jU _ hu')
  dsimp only
  split
  ·exact yD ⟨rfl,rfl,hrest⟩
  ·refine yA ((tupleKind (intKind prog w)).quiet hk ?_)
   simp only [yaQ,qE,if_false]
   refine yA ((tupleKind (intKind prog w)).quiet hb ?_)
   simp only [yaQ,qE,if_false]
   refine yA (zf2 hk ?_)
   simp only [qE,if_false]
   refine yA (zf2 hb ?_)
   simp only [qE,if_false]
   exact yD ⟨rfl,rfl,hrest⟩
 ·rintro ⟨r1,r2⟩ s' ⟨hr,rfl,_⟩
  simp only at hr
  subst hr
  exact yD h
theorem zjG {ks:List Int}{a:Addr}{Q:Bool→Shared→Prop}(hk:IsTupleKey (intKind prog w) s.heap ks a)(h:Q true s):wpAny (model prog w) A (hashByValue 8 (.ref a)) Q E s:=by
 have hT:=hk.typeIs
 obtain ⟨o,items,n,ho,_,hd,hi⟩:=hk
 unfold hashByValue
 refine yA (wpAny_specialOf hT PySem.F.slot_tuple_hash.lookup ?_)
 dsimp only
 refine yA (wpAny_seqItems ho hd ?_)
 refine yA ?_
 show wpAny _ _ (forIn items _ _) _ _ s
 rw [← ybU]
 refine wpAny_forIn_list _ (fun rest r s'=>r.1=none∧s'=s∧∃ kl,PySem.ItemsAre (intKind prog w) kl rest) _ ?_ ?_ _ _ ⟨rfl,rfl,ks,hi⟩
 ·rintro v rest r s' ⟨hr,rfl,kl,hall⟩
  cases hall with
  | @cons k _ kl' _ h1 h2=>
   obtain ⟨t,rfl⟩:=yaz h1
   have e:hashByValue 7 (Value.int k t)=pure true:=by unfold hashByValue;rfl
   rw [e]
   refine yA (yD ?_)
   simp only [yaQ,qE,if_false]
   exact yD ⟨rfl,rfl,kl',h2⟩
 ·rintro ⟨r1,r2⟩ s' ⟨hr,rfl,_⟩
  simp only at hr
  subst hr
  exact yD h
theorem zhq {S a:Addr}{led:Bool}{t:SetTable}{L:List (Nat×Addr)}{c n:Nat}{Q:SetFound→Shared→Prop}(hu:A.units < cLine)(hS:zeU prog w s.heap S led t L)(hc:c < 4)
  (hk:IsTupleKey (intKind prog w) s.heap (zdb c) a) (h1:c∈L.map qB→Q (.there none) s)
  (h2:∀ j,c∉L.map qB→zhW (t,L.map qB) c=some (.empty j none)→Q (.free j false) s):wpAny (model prog w) A (setSearchFrom S (.ref a) (zd5 c) true (n+1) none) Q E s:=by
 obtain ⟨o,ep,ho,hex,hd,htab,hall⟩:=hS
 have good:=zga htab hc
 simp only [zdd,qM,xH,beq_iff_eq,yB,decide_eq_true_eq] at good
 obtain ⟨⟨⟨⟨⟨hfit,hgw⟩,hpl⟩,hled⟩,hlen⟩,hask⟩:=good
 have hf:t.fits (esP L).size=true:=by rw [zcg];exact hfit
 unfold setSearchFrom
 refine yA (wpAny_setState_of ho hd hf ?_)
 dsimp only
 rw [hgw]
 simp only [qE,if_false]
 have hfun:(fun i=>((esP L)[i]?.map (fun x:Int×Value=>x.1)).getD 0)=fun i:Nat=>(((L.map qB)[i]?).map zd5).getD 0:=funext (zoN L)
 split
 rotate_left
 ·rename_i hno
  exfalso
  have e:zhW (t,L.map qB) c=none:=by
   show t.probe (fun i=>(((L.map qB)[i]?).map zd5).getD 0) (zd5 c) (t.probeStart (zd5 c))=none
   rw [← hfun]
   generalize hz:t.probe (fun i=>((esP L)[i]?.map (fun x:Int×Value=>x.1)).getD 0) (zd5 c) (t.probeStart (zd5 c))=z
   cases z with
   | none=>rfl
   | some m=>exact absurd hz (hno m)
  rw [e] at hask
  split at hask <;> exact kC hask
 rename_i met heq
 have e:zhW (t,L.map qB) c=some met:=by
  show t.probe (fun i=>(((L.map qB)[i]?).map zd5).getD 0) (zd5 c) (t.probeStart (zd5 c))=some met
  rw [← hfun]
  exact heq
 rw [e] at hask
 by_cases hm:c∈L.map qB
 ·rw [if_pos (jK.mpr hm)] at hask
  cases met with
  | empty j d=>exact kC hask
  | candidate j i nx=>
   simp only [beq_iff_eq] at hask
   rw [yG] at hask
   obtain ⟨p,hp,hpc⟩:=kA.mp hask
   have hes:(esP L)[i]? =some (zd5 p.1,Value.ref p.2):=by
    show ((L.map entP).toArray)[i]? =_
    rw [wL,yG,hp]
    rfl
   have hpm:p∈L:=yH hp
   have hpk:=(hall p hpm).2
   have rest:wpAny (model prog w) A (holding [Value.ref p.2] (eqBool (.ref p.2) (.ref a))) (fun equal s'=>equal=true∧s'=s) E s:=by
    refine wpAny_holding ((tupleKind (intKind prog w)).eqBool hu hpk hk ?_)
    exact ⟨by rw [hpc];exact decide_eq_true rfl,rfl⟩
   dsimp only
   rw [hes]
   dsimp only
   split
   ·refine yA (zmj hu hk _ (fun y hy=>?_) ?_)
    ·obtain ⟨q,hq,rfl⟩:=yY.mp hy
     rw [Array.toList_filter] at hq
     have hq2:=(vU.mp hq).1
     obtain ⟨p',hp',rfl⟩:=yY.mp (show q∈L.map entP from hq2)
     exact ⟨p'.2,p'.1,rfl,(hall p' hp').2⟩
    ·simp only [qE,if_false]
     refine yA (wpAny_mono rest ?_ fun _ _ z=>z)
     rintro eq s' ⟨rfl,rfl⟩
     refine yA (wpAny_setState_of ho hd hf ?_)
     exact yD (h1 hm)
   ·refine yA (wpAny_mono rest ?_ fun _ _ z=>z)
    rintro eq s' ⟨rfl,rfl⟩
    refine yA (wpAny_setState_of ho hd hf ?_)
    exact yD (h1 hm)
 ·rw [if_neg (fun z=>hm (jK.mp z))] at hask
  cases met with
  | candidate j i nx=>exact kC hask
  | empty j d=>
   cases d with
   | some d=>exact kC hask
   | none=>
    exact yD (h2 j hm e)
theorem zj1 {h h':Heap}{ks:List Int}{a d:Addr}{o:Obj}(x:IsTupleKey (intKind prog w) h ks a)(ho:h.get? d=some o)(hd:o.ExactSet)(hs:qH d h h'):IsTupleKey (intKind prog w) h' ks a:=by
 obtain ⟨o',items,n,ho',hc,hd',hi⟩:=x
 have hne:a≠d:=by
  rintro rfl
  obtain rfl:o'=o:=qF (ho'.symm.trans ho)
  rw [hd.1] at hc
  exact absurd (wU hc) (by decide)
 exact ⟨o',items,n,(hs.2 a hne).trans ho',hc,hd',hi⟩
theorem zkb {S a:Addr}{led:Bool}{t:SetTable}{L:List (Nat×Addr)}{c:Nat}{Q:Bool→Shared→Prop}(hu:A.units < cLine)(hS:zeU prog w s.heap S led t L)(hc:c < 4)
  (hk:IsTupleKey (intKind prog w) s.heap (zdb c) a)
  (h1:∀ tk,c∈L.map qB→Q false {s with toks:=tk})
  (h2:∀ h' tk t' L',c∉L.map qB→qH S s.heap h'→zeU prog w h' S led t' L'→vP L' ((c,a)::L)→Q true {s with heap:=h',toks:=tk}):
  wpAny (model prog w) A (setAdd S (.ref a)) Q E s:=by
 unfold setAdd
 refine wpAny_holding ?_
 refine yA ((tupleKind (intKind prog w)).pyHash (k:=zdb c) hu hk ?_)
 generalize htk:s.toks+(tupleKind (intKind prog w)).draws (zdb c)=tk
 show wpAny _ _ (setAddHashed S (.ref a) (zd5 c)) _ _ _
 have hS0:=hS
 obtain ⟨o,ep,ho,hex,hd,htab,hall⟩:=hS0
 have good:=zga htab hc
 simp only [zdd,qM,xH,beq_iff_eq,yB,decide_eq_true_eq] at good
 obtain ⟨⟨⟨⟨⟨hfit,hgw⟩,hpl⟩,hled⟩,hlen⟩,hask⟩:=good
 have hf:t.fits (esP L).size=true:=by rw [zcg];exact hfit
 unfold setAddHashed setAddHashedIn
 refine wpAny_holding (yA (wpAny_setState_of (s:={s with toks:=tk}) ho hd hf ?_))
 dsimp only
 rw [show byScan (Value.ref a) (esP L)=false from rfl]
 simp only [qE,if_false]
 unfold setSearch
 refine yA (zhq (s:={s with toks:=tk}) hu hS hc hk (fun hm=>?_) fun j hm e=>?_)
 ·exact yD (h1 tk hm)
 ·rw [if_neg (fun z=>hm (jK.mp z)),e] at hask
  simp only [qM,xH] at hask
  obtain ⟨⟨hin,hnf⟩,hpl2⟩:=hask
  dsimp only
  refine yA (wpAny_setState_of (s:={s with toks:=tk}) ho hd hf ?_)
  dsimp only
  rw [hpl2]
  simp only [if_true]
  refine yA (zjG (s:={s with toks:=tk}) hk ?_)
  simp only [if_true]
  have hins:=zl9 L (t.put j).2 (c,a)
  have hL5:(esP (L.take (t.put j).2++(c,a)::L.drop (t.put j).2)).size≤5:=by
   rw [zcg,yJ,qY,yP,wB]
   omega
  show wpAny _ _ (storeSet S (ybY (esP L) (t.put j).2 (entP (c,a))) _ >>=_) _ _ _
  rw [hins]
  refine yA (wpAny_storeSet_of (s:={s with toks:=tk}) ho hd ?_ (jB hL5 (by rw [sizeLine_eq];omega)))
  rw [hnf]
  simp only [Bool.and_false,qE,if_false]
  refine yD ?_
  have hsb:=jA s.heap S (Obj.putSet (esP (L.take (t.put j).2++(c,a)::L.drop (t.put j).2)) (t.put j).1)
  have hperm:vP (L.take (t.put j).2++(c,a)::L.drop (t.put j).2) ((c,a)::L):=by
   refine yaJ.trans (vP.cons _ ?_)
   rw [kI]
  refine h2 _ tk (t.put j).1 (L.take (t.put j).2++(c,a)::L.drop (t.put j).2) hm hsb ⟨{o with data:=.set (esP (L.take (t.put j).2++(c,a)::L.drop (t.put j).2)) (ep+1) (t.put j).1},ep+1,?_,hex,rfl,?_,?_⟩ hperm
  ·have:=qR (Obj.putSet (esP (L.take (t.put j).2++(c,a)::L.drop (t.put j).2)) (t.put j).1) ho (by rw [putSet_of _ _ hd];rfl)
   rw [putSet_of _ _ hd] at this
   exact this
  ·have e2:zk7 (t,L.map qB) c j=((t.put j).1,(L.take (t.put j).2++(c,a)::L.drop (t.put j).2).map qB):=by
    simp [zk7,ybS,ybT]
   rw [← e2]
   exact jK.mp hin
  ·intro p hp
   rcases yR.mp (hperm.mem_iff.mp hp) with rfl | hp'
   ·exact ⟨hc,zj1 hk ho hex hsb⟩
   ·exact ⟨(hall p hp').1,zj1 (hall p hp').2 ho hex hsb⟩
end
noncomputable def GotP (L xs:List (Nat×Addr)):Prop:=(∀ p∈L,p∈xs)∧(∀ x∈xs,x.1∈L.map qB)∧(L.map qB).Nodup
theorem GotP.nil:GotP [] []:=⟨fun _ h=>h,fun _ h=>(qK h).elim,xL⟩
theorem GotP.old {L xs:List (Nat×Addr)}{x:Nat×Addr}(h:GotP L xs)(hm:x.1∈L.map qB):GotP L (xs++ [x]):=by
 refine ⟨fun p hp=>jV _ (h.1 p hp),fun y hy=>?_,h.2.2⟩
 rcases yU.mp hy with hy | hy
 ·exact h.2.1 y hy
 ·rw [yE.mp hy];exact hm
theorem GotP.new {L L' xs:List (Nat×Addr)}{x:Nat×Addr}(h:GotP L xs)(hm:x.1∉L.map qB)(p:vP L' (x::L)):GotP L' (xs++ [x]):=by
 refine ⟨fun q hq=>?_,fun y hy=>?_,?_⟩
 ·rcases yR.mp (p.mem_iff.mp hq) with rfl | hq
  ·exact jJ _ (yE.mpr rfl)
  ·exact jV _ (h.1 q hq)
 ·refine (p.map qB).mem_iff.mpr ?_
  rcases yU.mp hy with hy | hy
  ·exact jU _ (h.2.1 y hy)
  ·rw [yE.mp hy];exact xN
 ·exact (p.map qB).nodup_iff.mpr (xR.mpr ⟨hm,h.2.2⟩)
section
variable {prog:Program} {w:World}
theorem zeU.keep {h h':Heap}{I S:Addr}{led:Bool}{t:SetTable}{L:List (Nat×Addr)}(hm:zeU prog w h S led t L)(hS:S≠I)(hI:∃ oi,h.get? I=some oi∧oi.cls≠.type "tuple")
  (hk:∀ b o,b≠I→h.get? b=some o→h'.get? b=some o):zeU prog w h' S led t L:=by
 obtain ⟨o,ep,ho,hex,hd,htab,hall⟩:=hm
 obtain ⟨oi,e1,e2⟩:=hI
 refine ⟨o,ep,hk _ _ hS ho,hex,hd,htab,fun p hp=>⟨(hall p hp).1,?_⟩⟩
 obtain ⟨o',it,n,e,c,r⟩:=(hall p hp).2
 refine ⟨o',it,n,hk _ _ (fun z=>?_) e,c,r⟩
 rw [z,e1] at e
 cases e
 exact e2 c
end
section
variable {prog:Program} {w:World} {A:Around} {R:Result→Shared→Prop}
theorem zgk {S I l:Addr}{items:Array Value}{h0:Heap}{xs:List (Nat×Addr)}{led:Bool}(hA:A.in1.handled=none)(hu:A.in1.units < cLine)(hlI:l≠I)(hSI:S≠I)(hSl:S≠l)
  (hS0:h0.get? S=none) (hI0:h0.get? I=none)
  (good:∀ (i:Nat) (x:Nat×Addr),xs[i]? =some x→items[i]? =some (Value.ref x.2)∧x.1 < 4∧IsTupleKey (intKind prog w) h0 (zdb x.1) x.2) (hn:items.size=xs.length):
  ∀ (k i:Nat) (s:Shared) (t:SetTable) (L:List (Nat×Addr)),xs.length - i=k→i≤xs.length→s.heap.IsListIter I l i→s.heap.IsList l items→zeU prog w s.heap S led t L→GotP L (xs.take i)→
   (∀ b o,h0.get? b=some o→s.heap.get? b=some o)→
   (∀ h' tk t' L',zeU prog w h' S led t' L'→GotP L' xs→(∀ b o,h0.get? b=some o→h'.get? b=some o)→R (.ok (.ret .none)) {s with heap:=h',toks:=tk})→
   codeAny (model prog w) A (.builtin "set.update.loop" ⟨[.ref S,.ref I],[]⟩) R s:=by
 have W:=ycn (prog:=prog) (w:=w) hA I l hlI items
 intro k
 induction k with
 | zero=>
  intro i s t L hk hi hit hl hm hg hkeep hR
  have hin:i=items.size:=by omega
  refine codeAny_builtin wZ ?_
  rw [vH xS _]
  show wpAny _ A.in1 (pyNext (.ref I) >>=_) _ _ s
  refine yA (W.done s _ _ (by rw [← hin];exact ⟨hit,hl⟩) fun h' tk hk'=>?_)
  have hk2:∀ b o,b≠I→s.heap.get? b=some o→h'.get? b=some o:=fun b o hb e=>hk' b o (by simpa using hb) e
  have et:xs.take i=xs:=jP (by omega)
  rw [et] at hg
  obtain ⟨oi,ei,ec⟩:=zgt hit
  show wpAny _ A.in1 (ret Value.none) _ _ _
  exact yD (hR h' tk t L (hm.keep hSI ⟨oi,ei,by rw [ec];intro z;exact absurd (wU z) (by decide)⟩ hk2) hg fun b o e=>hk2 b o (fun z=>by rw [z,hI0] at e;cases e) (hkeep b o e))
 | succ k ih=>
  intro i s t L hk hi hit hl hm hg hkeep hR
  have hlt:i < xs.length:=by omega
  obtain ⟨hp,hc4,hkey⟩:=good i xs[i] (yC hlt)
  have htk:xs.take (i+1)=xs.take i++ [xs[i]]:=by rw [yO,yC hlt];rfl
  refine codeAny_builtin wZ ?_
  rw [vH xS _]
  show wpAny _ A.in1 (pyNext (.ref I) >>=_) _ _ s
  refine yA (W.item i s _ _ (by omega) ⟨hit,hl⟩ fun v h' tk hP hst' hk'=>?_)
  rw [hp] at hP
  cases hP
  have hk2:∀ b o,b≠I→s.heap.get? b=some o→h'.get? b=some o:=fun b o hb e=>hk' b o (by simpa using hb) e
  have hkeep':∀ b o,h0.get? b=some o→h'.get? b=some o:=fun b o e=>hk2 b o (fun z=>by rw [z,hI0] at e;cases e) (hkeep b o e)
  obtain ⟨oi,ei,ec⟩:=zgt hit
  have hm':=hm.keep hSI ⟨oi,ei,by rw [ec];intro z;exact absurd (wU z) (by decide)⟩ hk2
  have hkey':IsTupleKey (intKind prog w) h' (zdb xs[i].1) xs[i].2:=by
   obtain ⟨o,it,n,e,r⟩:=hkey
   exact ⟨o,it,n,hkeep' _ _ e,r⟩
  show wpAny _ A.in1 (holding [Value.ref xs[i].2] (setAdd S (.ref xs[i].2)) >>=_) _ _ _
  refine yA (wpAny_holding (zkb (s:={s with heap:=h',toks:=tk}) hu hm' hc4 hkey' (fun tk' hmem=>?_) fun h2 tk' t' L' hmem hsb hm2 hperm=>?_))
  ·refine yD ⟨plainId_quiet xS _,ih (i+1) _ t L (by omega) (by omega) hst'.1 hst'.2 hm' ?_ hkeep' fun h3 tk3 t3 L3 a b c=>hR h3 tk3 t3 L3 a b c⟩
   rw [htk]
   exact hg.old hmem
  ·have hk3:∀ b o,b≠S→h'.get? b=some o→h2.get? b=some o:=fun b o hb e=>(hsb.2 b hb).trans e
   refine yD ⟨plainId_quiet xS _,ih (i+1) _ t' L' (by omega) (by omega) (hst'.1.at fun o e=>hk3 _ _ (jL hSI) e) (hst'.2.at fun o e=>hk3 _ _ (jL hSl) e) hm2 ?_ (fun b o e=>hk3 b o (fun z=>by rw [z,hS0] at e;cases e) (hkeep' b o e)) fun h3 tk3 t3 L3 a b c=>hR h3 tk3 t3 L3 a b c⟩
   rw [htk]
   exact hg.new hmem hperm
end
section
variable {prog:Program} {w:World} {A:Around} {E:Value→Shared→Prop} {s:Shared}
noncomputable def zfG (w:World):Bool:=!w.params.followText "set-order"
theorem ziI (a:Value){Q₁ :Value→Shared→Prop}
  (h:Q₁ (.ref s.heap.objs.size) {s with heap:=s.heap.push {cls:=.type "set",dict:=none,data:=.set #[] 0 (.fresh 0 0 (zfG w))}}):
  codeAny (model prog w) A (.call (.builtin "set.__new__") ⟨[.type "set",a],[]⟩) (wants Q₁ E) s:=by
 refine codeAny_of_tree ?_
 show wpAny _ A.in1 (do checkBuiltinCall "set.__new__" ⟨[.type "set",a],[]⟩;again (.builtin "set.__new__" ⟨[.type "set",a],[]⟩)) _ _ s
 refine yA (wpAny_of_eq (PySem.F.newCall_set_1 a) (yD ⟨plainId_quiet ybD _,codeAny_builtin PySem.F.entry_set_new ?_⟩))
 rw [vH ybD _]
 unfold Builtin.«set.__new__» Builtin.Frozenset.newClass
 have hsub:=sub_set_self
 obtain ⟨hp,g,d,tk,os⟩:=s
 dsimp only
 wp_walk
 refine wpAny_askSetting (yD ?_)
 dsimp only
 simp only [newObj]
 refine yA (wpAny_alloc (yD ?_))
 exact yD h
set_option maxRecDepth 100000 in
set_option maxHeartbeats 3200000 in
theorem zhD {l:Addr}{items:Array Value}{xs:List (Nat×Addr)}{Q:Value→Shared→Prop}
  (hh:A.handled=none) (hu:A.units+64 < cLine) (hl:s.heap.IsList l items)
  (good:∀ (i:Nat) (x:Nat×Addr),xs[i]? =some x→items[i]? =some (Value.ref x.2)∧x.1 < 4∧IsTupleKey (intKind prog w) s.heap (zdb x.1) x.2) (hn:items.size=xs.length)
  (h:∀ h' tk t' L',zeU prog w h' s.heap.objs.size (zfG w) t' L'→GotP L' xs→(∀ b o,s.heap.get? b=some o→h'.get? b=some o)→Q (.ref s.heap.objs.size) {s with heap:=h',toks:=tk}):
  wpAny (model prog w) A (call (.type "set") [.ref l]) Q E s:=by
 obtain ⟨c,tl,hmro⟩:=vE.mro
 have hmade:=vE.made
 have hsub:=vE.sub
 refine wpAny_call (codeAny_of_tree ?_)
 show wpAny _ _ (callAny (.type "set") _) _ _ _
 refine yD ⟨Code.quiet_builtin _ (by decide+kernel),codeAny_builtin PySem.F.entry_type_call ?_⟩
 rw [Around.under_plain (weight_type_call_type "set" [.ref l] []) rfl]
 have h1:=vE.notType
 have h2:=vE.canCreate
 have hct:=PySem.F.typeCall_set_1 (.ref l)
 repeat (any_goals (first | assumption | wp_step))
 refine codeAny_mono (ziI (.ref l) (E:=E) (Q₁ :=fun obj s₁ =>obj= .ref s.heap.objs.size∧s₁ = {s with heap:=s.heap.push {cls:=.type "set",dict:=none,data:=.set #[] 0 (.fresh 0 0 (zfG w))}}) ⟨rfl,rfl⟩) fun r s₁ hr=>?_
 cases r with
 | error e=>exact hr
 | ok fl=>
  cases fl with
  | ret obj=>
   obtain ⟨rfl,rfl⟩:=hr
   generalize hled:zfG w=led at h ⊢
   have hS:(s.heap.push {cls:=.type "set",dict:=none,data:=.set #[] 0 (.fresh 0 0 led)}).get? s.heap.objs.size=some {cls:=.type "set",dict:=none,data:=.set #[] 0 (.fresh 0 0 led)}:=yT _ rfl
   have hT:yaq {s with heap:=s.heap.push {cls:=.type "set",dict:=none,data:=.set #[] 0 (.fresh 0 0 led)}} (.ref s.heap.objs.size) "set" :=⟨_,hS,rfl⟩
   have hli:=vE.init.lookup
   have hbi:=vE.init.bind (.ref s.heap.objs.size)
   repeat (any_goals (first | assumption | wp_step))
   refine codeAny_mono (codeAny_call_builtin (R:=wants (fun r s₂ =>r= .none∧∃ h' tk t' L',s₂ = {s with heap:=h',toks:=tk}∧
     zeU prog w h' s.heap.objs.size led t' L'∧GotP L' xs∧
     (∀ b o,s.heap.get? b=some o→h'.get? b=some o)) E) vE.init.plain PySem.F.entry_set_init (check_set_init_1 hT ?_)) fun r₂ s₂ hr₂ =>?_
   ·obtain ⟨ol,hol,hcl,nl,hdl⟩:=hl
    obtain ⟨ocls,odict,odata,oslots⟩:=ol
    simp only at hcl hdl
    subst hcl;subst hdl
    have hol':(s.heap.push {cls:=.type "set",dict:=none,data:=.set #[] 0 (.fresh 0 0 led)}).get? l=some {cls:=.type "list",dict:=odict,data:=.seq items nl,slots:=oslots}:=yI _ hol
    have hsls:=PySem.F.sub_list_set
    have hslf:=PySem.F.sub_list_frozenset
    have hne:(Value.type "list" ==Value.type "dict")=false:=by decide
    have hl1:(s.heap.push {cls:=.type "set",dict:=none,data:=.set #[] 0 (.fresh 0 0 led)}).IsList l items:=⟨_,hol',rfl,nl,rfl⟩
    unfold Builtin.«set.__init__» noKeywords Builtin.Frozenset.updateFrom
    generalize hPI:pyIter=PI
    wp_walk
    subst hPI
    refine wpAny_pyIter_list hl1 ?_
    refine yA (wpAny_runValue ?_)
    have hlS:l < s.heap.objs.size:=yV hol
    have hh3:A.in1.in1.in1.handled=none:=by simp [hh]
    have hneI:l≠(s.heap.push {cls:=.type "set",dict:=none,data:=.set #[] 0 (.fresh 0 0 led)}).objs.size:=by
     rw [yaa];exact qC (ybe hlS)
    refine zgk (h0:=s.heap) (xs:=xs) (led:=led) hh3 ?hu3 hneI ?hSI (kE hlS) ?hS0 ?hI0 good hn (xs.length - 0) 0 _ (.fresh 0 0 led) [] (by omega) (qL _)
     ⟨_,yT _ rfl,rfl,rfl⟩ (hl1.push _) ?hP ?hG ?hK ?hR
    case hu3=>exact (show A.units+1+1+1 < cLine by omega)
    case hSI=>rw [yaa];exact qC (ycd _)
    case hS0=>
     cases hq:s.heap.get? s.heap.objs.size with
     | none=>rfl
     | some o'=>exact absurd (yV hq) (vJ _)
    case hI0=>
     cases hq:s.heap.get? (s.heap.push {cls:=.type "set",dict:=none,data:=.set #[] 0 (.fresh 0 0 led)}).objs.size with
     | none=>rfl
     | some o'=>
      have:=yV hq
      rw [yaa] at this
      exact absurd (Nat.lt_of_succ_lt this) (vJ _)
    case hP=>
     refine ⟨_,0,yI _ hS,⟨rfl,rfl,rfl⟩,rfl,?_,fun p hp=>(qK hp).elim⟩
     show _∈zej led
     exact jV _ (jV _ (jV _ (jV _ (yE.mpr rfl))))
    case hG=>exact GotP.nil
    case hK=>exact fun b o e=>yI _ (yI _ e)
    case hR=>
     intro h' tk' t' L' hP hG hK
     show wpAny _ _ _ _ _ _
     refine yD ?_
     show wpAny _ _ (ret Value.none) _ _ _
     exact yD ⟨rfl,h',tk',t',L',rfl,hP,hG,hK⟩
   ·cases r₂ with
    | error e=>exact hr₂
    | ok fl₂ =>
     cases fl₂ with
     | ret r=>
      obtain ⟨rfl,h',tk,t',L',rfl,hP,hG,hK⟩:=hr₂
      repeat (any_goals (first | assumption | wp_step))
      exact h _ _ _ _ hP hG hK
     | _=>exact hr₂.elim
  | _=>exact hr.elim
end
theorem za4:Slot "set_iterator" "__next__" "set_iterator.__next__" :=
 .of (owner:="set_iterator") (n:="__next__") (by rw [typeLookup_type,builtinLookup_eq_fast];kernel_rfl) (by decide+kernel) (by decide+kernel) (by decide+kernel)
  (by first | exact .inl (by decide+kernel) | exact .inr (by decide+kernel)) (by rw [isSubtype_type];kernel_rfl)
theorem zdv:Slot "set_iterator" "__iter__" "set_iterator.__iter__" :=
 .of (owner:="set_iterator") (n:="__iter__") (by rw [typeLookup_type,builtinLookup_eq_fast];kernel_rfl) (by decide+kernel) (by decide+kernel) (by decide+kernel)
  (by first | exact .inl (by decide+kernel) | exact .inr (by decide+kernel)) (by rw [isSubtype_type];kernel_rfl)
theorem zc0:entryFor table "set_iterator.__next__" =some Builtin.«set_iterator.__next__» :=entryFor_of_fast (by kernel_rfl)
theorem zfz:entryFor table "set_iterator.__iter__" =some Builtin.«dict_keyiterator.__iter__» :=
 entryFor_alias (id':="dict_keyiterator.__iter__") (by kernel_rfl) rfl (by decide+kernel) (by kernel_rfl)
theorem zdt (a:Value):argsOk "set_iterator.__next__" ⟨[a],[]⟩:=by unfold argsOk;kernel_rfl
theorem zfX (a:Value):argsOk "set_iterator.__iter__" ⟨[a],[]⟩:=by unfold argsOk;kernel_rfl
theorem zhA:entryFor table "set.__iter__" =some Builtin.«frozenset.__iter__» :=
 entryFor_alias (id':="frozenset.__iter__") (by kernel_rfl) rfl (by decide+kernel) (by kernel_rfl)
noncomputable def ziB (te:SetTable×List Nat):Bool:=
 (yab te.1.place 0==0) && (xO te.2.length).all fun i=>match te.1.place[i]? with
  | some j=>yab te.1.place (j+1)==i+1
  | none=>false
theorem zmV:([true,false].all fun led=>(zej led).all ziB)=true:=by decide+kernel
theorem zlC {led:Bool}{te:SetTable×List Nat}(h:te∈zej led):ziB te=true:=
 yZ.mp (yZ.mp zmV led (by cases led <;> simp)) te h
theorem zmz {α :Type}(next:Nat→Nat):∀ (n k:Nat) (left:List α) (out:Array α),left.length=n→vP (pickOrder.go next n k left out).toList (out.toList++left)
 | 0,k,left,out,h=>by
  have:left= []:=vA.mp h
  subst this
  show vP out.toList _
  rw [jW]
 | n+1,k,left,out,h=>by
  have hlt:next k % left.length < left.length:=Nat.mod_lt _ (by omega)
  show vP (match left[next k % left.length]? with
   | some x=>pickOrder.go next n (k+1) (left.eraseIdx (next k % left.length)) (out.push x)
   | none=>out).toList _
  rw [yC hlt]
  refine (zmz next n (k+1) _ _ (by rw [List.length_eraseIdx_of_lt hlt];omega)).trans ?_
  rw [Array.toList_push,xF]
  refine vP.append_left _ ?_
  rw [List.eraseIdx_eq_take_drop_succ]
  have e:left=left.take (next k % left.length)++left[next k % left.length]::left.drop (next k % left.length+1):=by
   rw [← List.drop_eq_getElem_cons hlt,kI]
  exact (yaJ (l₁ :=left.take (next k % left.length))).symm.trans (vP.of_eq e.symm)
theorem zmJ {α :Type}(next:Nat→Nat)(xs:Array α):vP (pickOrder next xs).toList xs.toList:=by
 have:=zmz next xs.size 0 xs.toList #[] (by simp)
 simpa [pickOrder] using this
noncomputable def zd4 (w:World) (S:Addr) (ep:Nat) (L:List (Nat×Addr)):List Value:=
 if w.params.followText "set-order" =true then (pickOrder (w.params.setOrder S ep) (esP L)).toList.map (·.2) else L.map fun p=>Value.ref p.2
theorem zh1 (w:World)(S:Addr)(ep:Nat)(L:List (Nat×Addr)):vP (zd4 w S ep L) (L.map fun p=>Value.ref p.2):=by
 unfold zd4
 split
 ·refine ((zmJ _ (esP L)).map _).trans ?_
  simp [esP,entP,Function.comp_def]
 ·exact .rfl
noncomputable def zhm (w:World) (h:Heap) (I S:Addr) (ep:Nat) (t:SetTable) (L:List (Nat×Addr)) (i:Nat):Prop:=
 ∃ (o oS:Obj) (slot:Nat),h.get? I=some o∧o.cls= .type "set_iterator"∧o.data= .fields #[.int slot 0,.int i 0,.ref S,.int (L.length:Nat) 0,.int ep 0]∧(w.params.followText "set-order" =false→yab t.place slot=i)∧
  h.get? S=some oS∧oS.data= .set (esP L) ep t
section
variable {prog:Program} {w:World} {A:Around} {E:Value→Shared→Prop} {s:Shared}
theorem zin {Q:Bool→Shared→Prop}(h:Q (w.params.followText "set-order") s):wpAny (model prog w) A setsByText Q E s:=by
 unfold setsByText
 exact yA (wpAny_askSetting (yD h))
theorem zpl {S:Addr}{ep slot i:Nat}{t:SetTable}{L:List (Nat×Addr)}{led:Bool}{o:Obj}{Q:Option (Value×Nat)→Shared→Prop}(ho:s.heap.get? S=some o)(hd:o.data= .set (esP L) ep t)(htab:(t,L.map qB)∈zej led)
  (hled:led=zfG w) (hb:w.params.followText "set-order" =false→yab t.place slot=i)
  (h1:∀ v nx,(zd4 w S ep L)[i]? =some v→yab t.place nx=i+1→w.params.followText "set-order" =false→Q (some (v,nx)) s)
  (h2:∀ v,(zd4 w S ep L)[i]? =some v→w.params.followText "set-order" =true→Q (some (v,slot)) s)
  (h3:(zd4 w S ep L)[i]? =none→Q none s):
  wpAny (model prog w) A (setNext S slot i ep) Q E s:=by
 have good:=zga htab (c:=0) (by omega)
 simp only [zdd,qM,xH,beq_iff_eq,yB,decide_eq_true_eq] at good
 obtain ⟨⟨⟨⟨⟨hfit,hgw⟩,hpl⟩,hl⟩,hlen⟩,_⟩:=good
 have hf:t.fits (esP L).size=true:=by rw [zcg];exact hfit
 have hwk:=zlC htab
 simp only [ziB,qM,yB] at hwk
 unfold setNext
 refine yA (wpAny_setState_of ho hd hf ?_)
 dsimp only
 refine yA (zin ?_)
 by_cases hx:w.params.followText "set-order" =true
 ·rw [hx]
  simp only [if_true]
  rw [if_neg (by simp)]
  refine yA ?_
  unfold setWalk
  refine yA (wpAny_setState_of ho hd hf ?_)
  dsimp only
  refine yA (zin ?_)
  rw [hx]
  simp only [if_true]
  refine yA (wpAny_askSetting (yD ?_))
  have hv:(zd4 w S ep L)[i]? =((pickOrder (w.params.setOrder S ep) (esP L))[i]?).map (·.2):=by
   unfold zd4
   rw [if_pos hx,yG,vN]
  show wpAny _ _ (pure (((pickOrder (w.params.setOrder S ep) (esP L))[i]?).map fun e=>(e.2,slot))) _ _ _
  cases hq:(pickOrder (w.params.setOrder S ep) (esP L))[i]? with
  | none=>
   rw [hq] at hv
   exact yD (h3 hv)
  | some e=>
   rw [hq] at hv
   exact yD (h2 e.2 hv hx)
 ·have hx':w.params.followText "set-order" =false:=by simpa using hx
  rw [hx']
  simp only [qE,if_false]
  have hled':t.led=true:=by rw [hl,hled];unfold zfG;rw [hx'];rfl
  have hv:(zd4 w S ep L)[i]? =(L[i]?).map fun p=>Value.ref p.2:=by
   unfold zd4
   rw [if_neg hx,yG]
  split
  ·rename_i hdr
   have hdr':(!t.plain && decide ((esP L).size > 1))=true:=hdr
   rw [hpl] at hdr'
   exact kC hdr'
  ·refine yA ?_
   show wpAny _ _ (if (!t.led && !(esP L).isEmpty)=true then unsupported "set:maker-not-led" else pure ()) _ _ _
   rw [hled']
   refine yD ?_
   rw [hb hx']
   cases hq:L[i]? with
   | none=>
    have e1:(esP L)[i]? =none:=by
     show ((L.map entP).toArray)[i]? =_
     rw [wL,yG,hq]
     rfl
    rw [hq] at hv
    rw [e1]
    exact yD (h3 hv)
   | some p=>
    have e1:(esP L)[i]? =some (zd5 p.1,Value.ref p.2):=by
     show ((L.map entP).toArray)[i]? =_
     rw [wL,yG,hq]
     rfl
    have hi:i < L.length:=(yF.mp hq).1
    have hw2:=yZ.mp hwk.2 i (jY.mpr hi)
    rw [hq] at hv
    rw [e1]
    cases hj:t.place[i]? with
    | none=>rw [hj] at hw2;exact kC hw2
    | some j=>
     rw [hj] at hw2
     exact yD (h1 _ (j+1) hv (eq_of_beq hw2) hx')
theorem zdl {I S:Addr}{ep:Nat}{t:SetTable}{L:List (Nat×Addr)}{i:Nat}(h:zhm w s.heap I S ep t L i):s.TypeIs (.ref I) "set_iterator" :=by
 obtain ⟨o,oS,slot,ho,hc,_⟩:=h
 exact ⟨o,ho,hc⟩
theorem znj (w:World)(S:Addr)(ep:Nat)(L:List (Nat×Addr)):(zd4 w S ep L).length=L.length:=by
 rw [(zh1 w S ep L).length_eq,yB]
theorem ziM {I S:Addr}{ep:Nat}{t:SetTable}{L:List (Nat×Addr)}{i:Nat}{v:Value}{Q:Option Value→Shared→Prop}(htab:(t,L.map qB)∈zej (zfG w))(hIS:S≠I)(hit:zhm w s.heap I S ep t L i)
  (hv:(zd4 w S ep L)[i]? =some v) (hQ:∀ h',zhm w h' I S ep t L (i+1)→qH I s.heap h'→Q (some v) {s with heap:=h'}):wpAny (model prog w) A (pyNext (.ref I)) Q E s:=by
 have hT:=zdl hit
 obtain ⟨o,oS,slot,ho,hc,hd,hb,hoS,hdS⟩:=hit
 have good:=zga htab (c:=0) (by omega)
 simp only [zdd,qM,xH,beq_iff_eq,yB,decide_eq_true_eq] at good
 have hf:t.fits (esP L).size=true:=by rw [zcg];exact good.1.1.1.1.1
 unfold pyNext
 refine yA (wpAny_attempt (wpAny_callSpecial?_slot (name:=kH "__next__") hT za4
  (wpAny_call_entry za4 hT zc0 ?_ (zdt _))))
 unfold Builtin.«set_iterator.__next__»
 refine yA (yD ?_)
 refine yA (wpAny_fieldsOf ho hd ?_)
 dsimp only
 refine yA (wpAny_setEntries_of hoS hdS hf ?_)
 rw [if_neg (by rw [zcg];simp)]
 simp only [jN]
 have fin:∀ nx:Nat,(w.params.followText "set-order" =false→yab t.place nx=i+1)→wpAny (model prog w) A.in1 (do
    setField (Value.ref I) 0 (rawInt ↑nx)
    setField (Value.ref I) 1 (rawInt (↑i+1))
    ret v) (fun fin s'=>∃ v,fin=Fin.done (Flow.ret v)∧wpAny (model prog w) A (pure (some v)) Q E s') (fun e s'=>wpAny (model prog w) A (do
     let __do_lift ← isInstance e (Value.type "StopIteration")
     if __do_lift=true then pure none else throw e) Q E s') s:=by
  intro nx hnx
  refine yA (wpAny_setField ho hd (by simp) ?_)
  have ho2:=qR (vK (·.setIfInBounds 0 (rawInt (nx:Int)))) ho (wJ (vB hd _))
  have hd2:=vB hd (·.setIfInBounds 0 (rawInt (nx:Int)))
  refine yA (wpAny_setField ho2 hd2 (by simp) ?_)
  have ho3:=qR (vK (·.setIfInBounds 1 (rawInt ((i:Int)+1)))) ho2 (wJ (vB hd2 _))
  have hd3:=vB hd2 (·.setIfInBounds 1 (rawInt ((i:Int)+1)))
  have hsb:=(jA s.heap I (vK (·.setIfInBounds 0 (rawInt (nx:Int))))).trans (jA _ I (vK (·.setIfInBounds 1 (rawInt ((i:Int)+1)))))
  refine yD ⟨v,rfl,yD (hQ _ ⟨_,oS,nx,ho3,?_,?_,hnx,(hsb.2 S hIS).trans hoS,hdS⟩ hsb)⟩
  ·exact ((yaA ..).trans (yaA ..)).trans hc
  ·rw [hd3];simp [rawInt]
 refine yA (zpl hoS hdS htab rfl hb (fun v' nx hv' hnx _=>?_) (fun v' hv' hx=>?_) fun hv'=>?_)
 ·rw [hv] at hv'
  cases hv'
  exact fin nx fun _=>hnx
 ·rw [hv] at hv'
  cases hv'
  exact fin slot fun z=>by rw [hx] at z;cases z
 ·rw [hv] at hv'
  cases hv'
theorem zjd {I S:Addr}{ep:Nat}{t:SetTable}{L:List (Nat×Addr)}{i:Nat}{Q:Option Value→Shared→Prop}(hh:A.handled=none)(htab:(t,L.map qB)∈zej (zfG w))(hit:zhm w s.heap I S ep t L i)
  (hv:(zd4 w S ep L)[i]? =none) (hQ:∀ h',ybJ I s.heap h'→Q none {s with heap:=h'}):wpAny (model prog w) A (pyNext (.ref I)) Q E s:=by
 have hT:=zdl hit
 obtain ⟨o,oS,slot,ho,hc,hd,hb,hoS,hdS⟩:=hit
 have good:=zga htab (c:=0) (by omega)
 simp only [zdd,qM,xH,beq_iff_eq,yB,decide_eq_true_eq] at good
 have hf:t.fits (esP L).size=true:=by rw [zcg];exact good.1.1.1.1.1
 unfold pyNext
 refine yA (wpAny_attempt (wpAny_callSpecial?_slot (name:=kH "__next__") hT za4
  (wpAny_call_entry za4 hT zc0 ?_ (zdt _))))
 unfold Builtin.«set_iterator.__next__»
 refine yA (yD ?_)
 refine yA (wpAny_fieldsOf ho hd ?_)
 dsimp only
 refine yA (wpAny_setEntries_of hoS hdS hf ?_)
 rw [if_neg (by rw [zcg];simp)]
 simp only [jN]
 refine yA (zpl hoS hdS htab rfl hb (fun v' nx hv' hnx _=>?_) (fun v' hv' hx=>?_) fun hv'=>?_)
 ·rw [hv] at hv'
  cases hv'
 ·rw [hv] at hv'
  cases hv'
 ·refine yA (wpAny_setField ho hd (by simp) ?_)
  show wpAny _ _ (newExc (.type "StopIteration") [] >>=_) _ _ _
  refine yA ?_
  simp only [newExc,newTuple]
  refine yA (wpAny_newObj_type ?_ (by size_fits))
  refine yA (m:=firstArgMember _ _) (wpAny_of_eq (a:=Value.none) (by first | rfl | (simp only [firstArgMember];rfl)) ?_)
  refine wpAny_newObj_type ?_ (by size_fits)
  simp only [raiseNew]
  refine yA (wpAny_handled ?_)
  rw [show A.in1.handled=none from hh]
  refine yA (yD (wpAny_throw ?_))
  refine yA (wpAny_isInstance (T:="StopIteration") (b:=true) ⟨_,yT _ rfl,rfl⟩ isSubtype_stop ?_)
  exact yD (hQ _ (((jA ..).extBut.push _).push _))
theorem zjD {I S:Addr}{ep:Nat}{t:SetTable}{L:List (Nat×Addr)}{i:Nat}{Q:Value→Shared→Prop}(hit:zhm w s.heap I S ep t L i)(h:Q (.ref I) s):
  wpAny (model prog w) A (pyIter (.ref I)) Q E s:=by
 refine wpAny_pyIter_slot (zdl hit) zdv (wpAny_call_entry zdv (zdl hit) zfz ?_ (zfX _))
 show wpAny _ _ (ret (.ref I)) _ _ s
 exact yD ⟨_,rfl,"set_iterator",_,zdl hit,za4.lookup,h⟩
theorem zhm.at {h h':Heap}{I S:Addr}{ep:Nat}{t:SetTable}{L:List (Nat×Addr)}{i:Nat}(x:zhm w h I S ep t L i)(hI:∀ o,h.get? I=some o→h'.get? I=some o)(hS:∀ o,h.get? S=some o→h'.get? S=some o):zhm w h' I S ep t L i:=by
 obtain ⟨o,oS,slot,ho,hc,hd,hb,hoS,hdS⟩:=x
 exact ⟨o,oS,slot,hI _ ho,hc,hd,hb,hS _ hoS,hdS⟩
theorem zmy (hh:A.handled=none)(I S:Addr)(hne:S≠I)(ep:Nat)(t:SetTable)(L:List (Nat×Addr))(htab:(t,L.map qB)∈zej (zfG w)):
  Walks prog w A I [I,S] [I] (zd4 w S ep L).length (fun i v=>(zd4 w S ep L)[i]? =some v) (fun i h=>zhm w h I S ep t L i) where
 sub:=fun b hb=>by simp at hb;simp [hb]
 frame:=fun _ _ _ st hk=>st.at (fun o e=>hk I (by simp) o e) (fun o e=>hk S (by simp) o e)
 item:=fun i s Q E hi st hQ=>by
  refine ziM htab hne st (yC hi) fun h' hit' hs'=>?_
  exact hQ _ h' s.toks (yC hi) hit' fun b o hb e=>hs'.extBut b o (fun h=>hb (by simp [h])) e
 done:=fun s Q E st hQ=>zjd hh htab st (xX (yN _)) fun h' he'=>hQ h' s.toks fun b o hb e=>he' b o (fun h=>hb (by simp [h])) e
 self:=fun _ _ _ _ st hQ=>zjD st hQ
end
theorem zlP:typeLookup (.type "set") "__len__" =pure (some (.builtin "set.__len__")):=by rw [typeLookup_type,builtinLookup_eq_fast];kernel_rfl
section
variable {prog:Program} {w:World} {A:Around} {E:Value→Shared→Prop} {s:Shared}
theorem zov {S:Addr}{t:SetTable}{L:List (Nat×Addr)}{Q:Value→Shared→Prop}(hS:zeU prog w s.heap S (zfG w) t L)
  (h:∀ ep:Nat,zhm w (s.heap.push {cls:=.type "set_iterator",data:=.fields #[.int 0 0,.int 0 0,.ref S,.int (L.length:Nat) 0,.int ep 0]}) s.heap.objs.size S ep t L 0→
   Q (.ref s.heap.objs.size) {s with heap:=s.heap.push {cls:=.type "set_iterator",data:=.fields #[.int 0 0,.int 0 0,.ref S,.int (L.length:Nat) 0,.int ep 0]}}):
  wpAny (model prog w) A (pyIter (.ref S)) Q E s:=by
 obtain ⟨o,ep,ho,hex,hd,htab,hall⟩:=hS
 have good:=zga htab (c:=0) (by omega)
 simp only [zdd,qM,xH,beq_iff_eq,yB,decide_eq_true_eq] at good
 have hf:t.fits (esP L).size=true:=by rw [zcg];exact good.1.1.1.1.1
 have hpl:=good.1.1.1.2
 have hwk:=zlC htab
 simp only [ziB,qM,beq_iff_eq] at hwk
 have hT:s.TypeIs (.ref S) "set" :=⟨o,ho,hex.1⟩
 refine wpAny_pyIter_slot hT ybE (wpAny_call_entry ybE hT zhA ?_ (PySem.F.args_set_iter_1 _))
 unfold Builtin.«frozenset.__iter__»
 refine yA (m:=Builtin.Frozenset.slot0 _ _) (yD ?_)
 refine yA ?_
 unfold Builtin.Frozenset.sizeOf
 refine yA (wpAny_setEntries_of ho hd hf (yD ?_))
 refine yA ?_
 unfold setDrawn
 refine yA (wpAny_setState_of ho hd hf ?_)
 refine yA (zin (yD ?_))
 dsimp only
 split
 ·rename_i hdr
  exfalso
  have hdr':(!w.params.followText "set-order" && (!t.plain && decide ((esP L).size > 1)))=true:=hdr
  rw [hpl] at hdr'
  simp at hdr'
 ·refine yA (yD ?_)
  refine yA (wpAny_setEpoch_of ho hd hf ?_)
  rw [zcg]
  refine yA (wpAny_newObj_type (yD ⟨_,rfl,"set_iterator",_,⟨_,yT _ rfl,rfl⟩,za4.lookup,?_⟩))
  exact h ep ⟨_,o,0,yT _ rfl,rfl,rfl,fun _=>hwk.1,yI _ ho,hd⟩
theorem zkt {S:Addr}{t:SetTable}{L:List (Nat×Addr)}{Q:List Value→Shared→Prop}(hh:A.handled=none)(hS:zeU prog w s.heap S (zfG w) t L)
  (hQ:∀ s' vs,vP vs (L.map fun p=>Value.ref p.2)→Moved [] (fun a b=>b=a) s s'→Q vs s'):wpAny (model prog w) A (collect (.ref S)) Q E s:=by
 have hS0:=hS
 obtain ⟨o,ep0,ho,hex,hd,htab,hall⟩:=hS0
 have good:=zga htab (c:=0) (by omega)
 simp only [zdd,qM,xH,beq_iff_eq,yB,decide_eq_true_eq] at good
 have hlt:S < s.heap.objs.size:=yV ho
 have hSD:s.heap.objs.size≠S:=kE hlt
 unfold collect
 refine yA (wpAny_runValue (codeAny_builtin PySem.F.entry_proto_collect ?_))
 rw [vH PySem.F.plain_proto_collect _]
 show wpAny _ A.in1 (newList [] >>=fun l=>again (.builtin "list.__iadd__" ⟨[l,.ref S],[]⟩)) _ _ s
 refine yA (wpAny_newObj_type ?_)
 refine yD ⟨plainId_quiet ybo _,codeAny_builtin PySem.F.entry_list_iadd ?_⟩
 rw [vH ybo _]
 have hS1:zeU prog w (s.heap.push {cls:=.type "list",data:=.seq ([]:List Value).toArray}) S (zfG w) t L:=by
  refine ⟨o,ep0,yI _ ho,hex,hd,htab,fun p hp=>⟨(hall p hp).1,?_⟩⟩
  obtain ⟨o',it,n,e,r⟩:=(hall p hp).2
  exact ⟨o',it,n,yI _ e,r⟩
 have hT:∀ h',h'.get? S=some o→yaq {s with heap:=h'} (.ref S) "set" :=fun h' e=>⟨o,e,hex.1⟩
 show wpAny _ A.in1 (jS (.ref s.heap.objs.size) (.ref S) (.ref s.heap.objs.size)) _ _ _
 unfold jS
 have hoS1:(s.heap.push {cls:=.type "list",data:=.seq ([]:List Value).toArray}).get? S=some o:=yI _ ho
 refine yA (wpAny_typeOf (hT _ hoS1) ?_)
 have h1:xW (.ref s.heap.objs.size) (.ref S)=false:=by simp [xW,hSD]
 have h2:(Value.type "set" ==Value.type "list")=false:=by decide
 have h3:(Value.type "set" ==Value.type "tuple")=false:=by decide
 simp only [h1,h2,h3,ybi,qE,if_false]
 refine yA (zov (s:={s with heap:=s.heap.push {cls:=.type "list",data:=.seq ([]:List Value).toArray}}) hS1 fun ep hit=>?_)
 refine yA (wpAny_holding ?_)
 unfold wK
 dsimp only at hit ⊢
 have hoS2:=yI {cls:=.type "set_iterator",data:=.fields #[.int 0 0,.int 0 0,.ref S,.int (L.length:Nat) 0,.int ep 0]} hoS1
 refine yA (wpAny_specialOf (hT _ hoS2) zlP ?_)
 generalize hid:("set.__len__" :String)=id0
 wp_delta
 rw [show splitId id0=some ("set","__len__") from by subst hid;decide+kernel]
 subst hid
 refine yA (wpAny_isInstance (b:=true) (hT _ hoS2) sub_set_self ?_)
 rw [if_neg (show ¬((!true)=true) from yS)]
 rw [if_pos (by decide+kernel)]
 refine yA (wpAny_typeOf (hT _ hoS2) ?_)
 refine yD ?_
 rw [if_pos (by decide+kernel)]
 refine yA (wpAny_rule ?_)
 have hneI:S≠(s.heap.push {cls:=.type "list",data:=.seq ([]:List Value).toArray}).objs.size:=by
  rw [yaa];exact qC (ybe hlt)
 have hD1:(s.heap.push {cls:=.type "list",data:=.seq ([]:List Value).toArray}).get? s.heap.objs.size=some {cls:=.type "list",data:=.seq ([]:List Value).toArray}:=yT _ rfl
 have hDI:s.heap.objs.size≠(s.heap.push {cls:=.type "list",data:=.seq ([]:List Value).toArray}).objs.size:=by
  rw [yaa];exact qC (ycd _)
 generalize hI:(s.heap.push {cls:=.type "list",data:=.seq ([]:List Value).toArray}).objs.size=I at hit hneI hDI ⊢
 have hD2:=yI {cls:=.type "set_iterator",data:=.fields #[.int 0 0,.int 0 0,.ref S,.int (L.length:Nat) 0,.int ep 0]} hD1
 generalize hH2:(s.heap.push {cls:=.type "list",data:=.seq ([]:List Value).toArray}).push {cls:=.type "set_iterator",data:=.fields #[.int 0 0,.int 0 0,.ref S,.int (L.length:Nat) 0,.int ep 0]}=H2 at hit hD2 hoS2 ⊢
 have keep2:∀ b ob,s.heap.get? b=some ob→H2.get? b=some ob:=fun b ob e=>by rw [← hH2];exact yI _ (yI _ e)
 refine yA ?_
 show wpAny _ A.in1 (updateSeq s.heap.objs.size (·.push .none) >>=fun _=>updateSeq s.heap.objs.size (·.pop)) _ _ _
 refine yA (wpAny_updateSeq hD2 rfl ?_)
 have hD3:=qR (jE (·.push Value.none)) hD2 rfl
 refine wpAny_updateSeq hD3 rfl ?_
 have hD4:=qR (jE (·.pop)) hD3 rfl
 have oth:∀ b o,b≠s.heap.objs.size→H2.get? b=some o→((H2.update s.heap.objs.size (jE (·.push Value.none))).update s.heap.objs.size (jE (·.pop))).get? b=some o:=
  fun b o hb e=>(jO _ _ (jL hb)).trans ((jO _ _ (jL hb)).trans e)
 have hit4:zhm w ((H2.update s.heap.objs.size (jE (·.push Value.none))).update s.heap.objs.size (jE (·.pop))) I S ep t L 0:=
  hit.at (fun o e=>oth I o (jL hDI) e) (fun o e=>oth S o (jL hSD) e)
 have hh3:A.in1.in1.handled=none:=by simp [hh]
 have W:=(zmy (prog:=prog) (w:=w) (A:=A.in1) (by simp [hh]) I S hneI ep t L htab).toS
 have hlen4:(zd4 w S ep L).length≤yM:=by rw [znj,sizeLine_eq];have:=good.1.2;omega
 refine yD ⟨plainId_quiet wX _,codeAny_extend_loopS W hlen4 s.heap.objs.size (by simp only [yR,qK,or_false,not_or];exact ⟨hDI,hSD⟩) _ (zd4 w S ep L).length 0 _ _ _ rfl (qL _) hit4 hD4 (ycj _) fun s' acc' c' hm hS' hacc=>?_⟩
 show wpAny _ A (load s.heap.objs.size >>=_) _ _ s'
 refine yA (wpAny_load hS' ?_)
 have eacc:acc'.toList=zd4 w S ep L:=by
  refine jM fun j=>?_
  by_cases hj:j < (zd4 w S ep L).length
  ·have hj2:j < acc'.size:=by rw [hacc.1];exact hj
   have:=hacc.2 j acc'[j] (jI hj2)
   rw [vN,jI hj2,this]
  ·exact (xX (by rw [xT,hacc.1];omega)).trans (xX (by omega)).symm
 refine yD (hQ s' acc'.toList (by rw [eacc];exact zh1 w S ep L) ⟨fun b ob _ e=>?_,hm.gens,hm.drawn,hm.os,hm.toks⟩)
 have hb:b < s.heap.objs.size:=yV e
 have hb1:b≠s.heap.objs.size:=qC hb
 refine hm.heap b ob ?_ (oth b ob hb1 (keep2 b ob e))
 simp only [yR,qK,or_false,not_or]
 refine ⟨hb1,?_⟩
 rw [← hI,yaa]
 exact qC (ybe hb)
end
noncomputable def zhV {α :Type} (o:Nat→Nat→Bool):PySem.W.KasT α→α
 | .ret a=>a
 | .ask i j k=>zhV o (k (o i j))
noncomputable def zne {α :Type} (n:Nat) (o:Nat→Nat→Bool):PySem.W.KasT α→Bool
 | .ret _=>true
 | .ask i j k=>decide (i < n) && decide (j < n) && zne n o (k (o i j))
theorem zi9 {α :Type}{n:Nat}{o:Nat→Nat→Bool}{cmp:Nat→Nat→(Bool→Shared→Prop)→Shared→Prop}{Q: α→Shared→Prop}{s:Shared}
  (hc:∀ i j (C:Bool→Shared→Prop),i < n→j < n→C (o i j) s→cmp i j C s):∀ t:PySem.W.KasT α,zne n o t=true→Q (zhV o t) s→t.kasWp cmp Q s
 | .ret _,_,h=>h
 | .ask i j k,hk,h=>by
  simp only [zne,qM,decide_eq_true_eq] at hk
  exact hc i j _ hk.1.1 hk.1.2 (zi9 hc (k (o i j)) hk.2 h)
noncomputable def zfd (cs:List Nat) (i j:Nat):Bool:=decide (cs.getD i 0 < cs.getD j 0)
noncomputable def zgd (cs:List Nat):List Nat:=(zhV (zfd cs) (PySem.W.kas_sort cs.length)).toList
noncomputable def zfl (cs:List Nat):Bool:=!decide cs.Nodup || (zne cs.length (zfd cs) (PySem.W.kas_sort cs.length) && (zgd cs).all (fun i=>decide (i < cs.length)) && decide ((zgd cs).map (fun i=>cs.getD i 0)= [0,1,2,3].filter fun c=>cs.contains c))
theorem sort2:((xO 4).all fun a=>(xO 4).all fun b=>zfl [a,b])=true:=by decide+kernel
theorem sort3:((xO 4).all fun a=>(xO 4).all fun b=>(xO 4).all fun c=>zfl [a,b,c])=true:=by decide+kernel
theorem sort4:((xO 4).all fun a=>(xO 4).all fun b=>(xO 4).all fun c=>(xO 4).all fun d=>zfl [a,b,c,d])=true:=by decide+kernel
theorem znC {cs:List Nat}(h4:∀ c∈cs,c < 4)(hn:cs.Nodup)(hl:cs.length≤4)(h2: 2≤cs.length):
  zne cs.length (zfd cs) (PySem.W.kas_sort cs.length)=true∧(∀ i∈zgd cs,i < cs.length)∧(zgd cs).map (fun i=>cs.getD i 0)= [0,1,2,3].filter fun c=>cs.contains c:=by
 have key:zfl cs=true:=by
  match cs,hl,h2,h4 with
  | [a,b],_,_,h4=>
   exact yZ.mp (yZ.mp sort2 a (jY.mpr (h4 a (by simp)))) b (jY.mpr (h4 b (by simp)))
  | [a,b,c],_,_,h4=>
   exact yZ.mp (yZ.mp (yZ.mp sort3 a (jY.mpr (h4 a (by simp)))) b (jY.mpr (h4 b (by simp)))) c (jY.mpr (h4 c (by simp)))
  | [a,b,c,d],_,_,h4=>
   exact yZ.mp (yZ.mp (yZ.mp (yZ.mp sort4 a (jY.mpr (h4 a (by simp)))) b (jY.mpr (h4 b (by simp)))) c (jY.mpr (h4 c (by simp)))) d (jY.mpr (h4 d (by simp)))
 simp only [zfl,Bool.or_eq_true,qM,xH,decide_eq_false_iff_not,decide_eq_true_eq] at key
 rcases key with key | key
 ·exact absurd hn key
 ·exact ⟨key.1.1,fun i hi=>of_decide_eq_true (yZ.mp key.1.2 i hi),key.2⟩
theorem zgE {α β :Type}{f: α→β}:∀ {vs:List β} {l:List α},vP vs (l.map f)→∃ l2,vP l2 l∧l2.map f=vs
 | [],l,h=>by
  have:l= []:=List.map_eq_nil_iff.mp (List.nil_perm.mp h)
  exact ⟨[],by rw [this],rfl⟩
 | v::r,l,h=>by
  obtain ⟨x,hx,hv⟩:=yY.mp (h.mem_iff.mp (xN (a:=v) (l:=r)))
  obtain ⟨a,b,rfl⟩:=List.append_of_mem hx
  have h2:vP (v::r) (v::((a++b).map f)):=by
   refine h.trans ?_
   rw [yK,qQ,hv,yK]
   exact yaJ
  obtain ⟨l2,p2,e2⟩:=zgE (l:=a++b) (vP.cons_inv h2)
  refine ⟨x::l2,(vP.cons x p2).trans yaJ.symm,?_⟩
  rw [qQ,hv,e2]
section
variable {prog:Program} {w:World} {A:Around} {E:Value→Shared→Prop} {s:Shared}
theorem zfU {h:Heap}{c:Nat}{a:Addr}(hk:IsTupleKey (intKind prog w) h (zdb c) a):∃ o n t u,h.get? a=some o∧o.cls= .type "tuple"∧o.data= .seq #[Value.int ((c / 2:Nat):Int) t,Value.int ((c % 2:Nat):Int) u] n:=by
 obtain ⟨o,items,n,ho,hc,hd,hi⟩:=hk
 obtain ⟨l⟩:=items
 change PySem.ItemsAre (intKind prog w) (zdb c) l at hi
 cases hi with
 | cons h1 h2=>
  cases h2 with
  | cons h3 h4=>
   cases h4
   obtain ⟨t,rfl⟩:=yaz h1
   obtain ⟨u,rfl⟩:=yaz h3
   exact ⟨o,n,t,u,ho,hc,hd⟩
theorem zn4 {c d:Nat}{a b:Addr}{Q:Bool→Shared→Prop}(hc:c < 4)(hd:d < 4)(ha:IsTupleKey (intKind prog w) s.heap (zdb c) a)(hb:IsTupleKey (intKind prog w) s.heap (zdb d) b)(h:Q (decide (c < d)) s):
  wpAny (model prog w) A (keyLt' (tuples' true) (.ref a) (.ref b)) Q E s:=by
 obtain ⟨oa,na,t1,u1,ho1,_,hd1⟩:=zfU ha
 obtain ⟨ob,nb,t2,u2,ho2,_,hd2⟩:=zfU hb
 refine PySem.W.kat_lt ho1 hd1 ho2 hd2 ?_
 refine PySem.W.kat_cons (wpAny_eqBool_int (PySem.W.kat_go (fun e=>?_) fun e=>?_))
 ·have e1:=of_decide_eq_true e
  refine PySem.W.kat_yes (PySem.W.kat_cons (wpAny_eqBool_int (PySem.W.kat_go (fun e'=>?_) fun e'=>?_)))
  ·have e2:=of_decide_eq_true e'
   refine PySem.W.kat_yes (PySem.W.kat_nil ?_)
   have:¬c < d:=by omega
   rw [decide_eq_false this] at h
   exact h
  ·have e2:=of_decide_eq_false e'
   refine PySem.W.kat_no ?_
   refine PySem.W.kat_one _ _ (wpAny_lt_int ?_)
   have:decide (((c % 2:Nat):Int) < ((d % 2:Nat):Int))=decide (c < d):=by
    by_cases z:c < d
    ·rw [decide_eq_true z];exact decide_eq_true (by omega)
    ·rw [decide_eq_false z];exact decide_eq_false (by omega)
   rw [this]
   exact h
 ·have e1:=of_decide_eq_false e
  refine PySem.W.kat_no ?_
  refine oneLt_int ?_
  have:decide (((c / 2:Nat):Int) < ((d / 2:Nat):Int))=decide (c < d):=by
   by_cases z:c < d
   ·rw [decide_eq_true z];exact decide_eq_true (by omega)
   ·rw [decide_eq_false z];exact decide_eq_false (by omega)
  rw [this]
  exact h
end
noncomputable abbrev zbu (L:List (Nat×Addr)):List Value:=L.map fun p=>Value.ref p.2
noncomputable def za7 (cs:List Nat):List Nat:=[0,1,2,3].filter fun c=>cs.contains c
section
variable {prog:Program} {w:World} {A:Around} {E:Value→Shared→Prop} {s:Shared}
theorem zmK {h:Heap}:∀ {L:List (Nat×Addr)},(∀ p∈L,p.1 < 4∧IsTupleKey (intKind prog w) h (zdb p.1) p.2)→∃ fs,PySem.W.KatTups h (zbu L) fs∧fs.length=L.length∧∀ v∈fs,∃ x t,v=Value.int x t
 | [],_=>⟨[],trivial,rfl,fun _ h=>(qK h).elim⟩
 | p::r,hk=>by
  obtain ⟨fs,k1,k2,k3⟩:=zmK (L:=r) fun q hq=>hk q (jU _ hq)
  obtain ⟨o,n,t,u,ho,hc,hd⟩:=zfU (hk p xN).2
  refine ⟨Value.int ((p.1 / 2:Nat):Int) t::fs,PySem.W.KatTups.cons ho hc hd rfl k1,by rw [qY,qY,k2],fun v hv=>?_⟩
  rcases yR.mp hv with rfl | hv
  ·exact ⟨_,_,rfl⟩
  ·exact k3 v hv
theorem zkk {c:Nat}(h:c < 4):za7 [c]= [c]:=by
 have:c=0∨c=1∨c=2∨c=3:=by omega
 rcases this with rfl | rfl | rfl | rfl <;> rfl
theorem zgW {a:Addr}{L:List (Nat×Addr)}{n:Nat}{P:PySem.Fin→Shared→Prop}(ho:s.heap.get? a=some (seqObj "list" (zbu L).toArray n))
  (hk:∀ p∈L,p.1 < 4∧IsTupleKey (intKind prog w) s.heap (zdb p.1) p.2) (hnd:(L.map qB).Nodup) (hlen:L.length≤4)
  (h:∀ (L3:List (Nat×Addr)) h' n',L3.map qB=za7 (L.map qB)→(∀ p∈L3,p∈L)→h'.get? a=some (seqObj "list" (zbu L3).toArray n')→(∀ b o,b≠a→s.heap.get? b=some o→h'.get? b=some o)→P (.done (.ret .none)) {s with heap:=h'}):
  wpAny (model prog w) A (Builtin.«list.sort» ⟨[.ref a],[]⟩) P E s:=by
 rw [list_sort_plain]
 have ha:a < s.heap.objs.size:=yV ho
 have hl:(zbu L).length=L.length:=yB _
 have s1:=jA s.heap a (jE fun _=>(#[]:Array Value))
 refine yA (listItems_at ho rfl ?_)
 refine yA (listUpdate_at ho rfl ?_ (by rw [yW,sizeLine_eq];omega) (qL _))
 obtain ⟨e1,ho1⟩:∃ e1,(s.heap.update a (jE fun _=>#[])).get? a=some (seqObj "list" #[] e1):=⟨_,get?_update_seq ho (fun _=>#[])⟩
 refine yA (seqEpoch_at ho1 rfl ?_)
 refine yA (wpAny_newTuple ?_ (by show (zbu L).length≤_;rw [sizeLine_eq];omega))
 refine yA (wpAny_newList ?_ (qL _))
 refine wpAny_holding ?_
 have keep3:∀ b o,(s.heap.update a (jE fun _=>(#[]:Array Value))).get? b=some o→(((s.heap.update a (jE fun _=>(#[]:Array Value))).push (seqObj "tuple" (zbu L).toArray 0)).push (seqObj "list" #[] 0)).get? b=some o:=
  fun b o e=>yI _ (yI _ e)
 show wpAny (model prog w) A _ P E {s with heap:=((s.heap.update a (jE fun _=>(#[]:Array Value))).push (seqObj "tuple" (zbu L).toArray 0)).push (seqObj "list" #[] 0)}
 have ho3:=keep3 a _ ho1
 generalize ((s.heap.update a (jE fun _=>(#[]:Array Value))).push (seqObj "tuple" (zbu L).toArray 0)).push (seqObj "list" #[] 0)=H3 at keep3 ho3 ⊢
 have keepH:∀ b o,b≠a→s.heap.get? b=some o→H3.get? b=some o:=fun b o hb e=>keep3 b o ((s1.2 b hb).trans e)
 dsimp only
 have fin:∀ (L3:List (Nat×Addr)),L3.map qB=za7 (L.map qB)→(∀ p∈L3,p∈L)→P (.done (.ret .none)) {s with heap:=H3.update a (jE fun _=>(zbu L3).toArray)}:=by
  intro L3 h1 h2
  obtain ⟨c2,hc2⟩:∃ c2,(H3.update a (jE fun _=>(zbu L3).toArray)).get? a=some (seqObj "list" (zbu L3).toArray c2):=⟨_,get?_update_seq ho3 fun _=>(zbu L3).toArray⟩
  exact h L3 _ c2 h1 h2 hc2 fun b o hb e=>(jO _ _ (jL hb)).trans (keepH b o hb e)
 by_cases h2:(zbu L).toArray.size < 2
 ·rw [if_pos h2,if_pos h2]
  refine yA (yD ?_)
  rw [StateT.run_pure]
  refine yA (yD ?_)
  dsimp only
  refine yA (seqEpoch_at (s:={s with heap:=H3}) ho3 rfl ?_)
  have hsame:(arrOf (SortSt.mk' general' ((zbu L).toArray.zip (zbu L).toArray) #[] 7 none)).map (·.2)=(zbu L).toArray:=by
   show ((zbu L).toArray.zip (zbu L).toArray).map (·.2)=_
   apply ycc.mp
   simp [List.map_snd_zip]
  rw [hsame]
  refine yA (listUpdate_at (s:={s with heap:=H3}) ho3 rfl ?_ (qL _) (by rw [yW,sizeLine_eq];omega))
  simp only [bne_self_eq_false,qE,if_false]
  rw [yW,hl] at h2
  refine yD (fin L ?_ fun p hp=>hp)
  match L,h2,hk with
  | [],_,_=>rfl
  | [p],_,hk=>exact (zkk (hk p (by simp)).1).symm
 ·rw [if_neg h2,if_neg h2]
  rw [yW,hl] at h2
  have hk3:∀ p∈L,p.1 < 4∧IsTupleKey (intKind prog w) H3 (zdb p.1) p.2:=fun p hp=>by
   refine ⟨(hk p hp).1,?_⟩
   obtain ⟨o,it,m,e,c,r⟩:=(hk p hp).2
   refine ⟨o,it,m,keepH _ _ (fun z=>?_) e,c,r⟩
   rw [z,ho] at e
   cases e
   exact absurd (wU c) (by decide)
  obtain ⟨fs,k1,k2,k3⟩:=zmK hk3
  refine yA (PySem.W.kat_kind (T:=.type "int") k1 (by omega) (fun v hv=>?_) (by decide) ?_)
  ·obtain ⟨x,t,rfl⟩:=k3 v hv
   exact .now
  ·have hcs:∀ c∈L.map qB,c < 4:=fun c hc=>by
    obtain ⟨p,hp,rfl⟩:=yY.mp hc
    exact (hk p hp).1
   obtain ⟨g1,g2,g3⟩:=znC hcs hnd (by rw [yB];exact hlen) (by rw [yB];omega)
   rw [yB] at g1 g2
   have hget:∀ i,i < L.length→(zbu L).getD i Value.none=Value.ref (L.getD i (0,0)).2∧(L.map qB).getD i 0=(L.getD i (0,0)).1∧L.getD i (0,0)∈L:=fun i hi=>by
    refine ⟨?_,?_,?_⟩
    ·simp [zbu,hi]
    ·simp [hi]
    ·simp [hi]
   have run:(PySem.W.kas_sort (zbu L).length).kasWp (PySem.W.kas_ask prog w A (tuples' (Value.type "int" !=Value.type "tuple")) (zbu L)) (fun p s'=>p=zhV (zfd (L.map qB)) (PySem.W.kas_sort L.length)∧s'= {s with heap:=H3}) {s with heap:=H3}:=by
    rw [hl]
    refine zi9 (n:=L.length) (o:=zfd (L.map qB)) (fun i j C hi hj hC=>?_) _ g1 ⟨rfl,rfl⟩
    unfold PySem.W.kas_ask
    rw [(hget i hi).1,(hget j hj).1]
    rw [show (Value.type "int" !=Value.type "tuple")=true from by decide]
    refine zn4 (s:={s with heap:=H3}) (hk3 _ (hget i hi).2.2).1 (hk3 _ (hget j hj).2.2).1 (hk3 _ (hget i hi).2.2).2 (hk3 _ (hget j hj).2.2).2 ?_
    have e:zfd (L.map qB) i j=decide ((L.getD i (0,0)).1 < (L.getD j (0,0)).1):=by
     unfold zfd
     rw [(hget i hi).2.1,(hget j hj).2.1]
    rw [← e]
    exact hC
   refine yA (wpAny_mono (PySem.W.kat_run (E:=E) (ks:=zbu L) (vs:=zbu L) (Q:=fun st' s'=>s'= {s with heap:=H3}∧failedOf st'=none∧arrOf st'=(zhV (zfd (L.map qB)) (PySem.W.kas_sort L.length)).map (PySem.W.kas_item ((zbu L).toArray.zip (zbu L).toArray)))
    rfl (by rw [hl];omega) (by rw [hl];omega) (fun p' st' s' a1 a2 a3 a4=>?_) run) ?_ fun _ _ e=>e)
   ·obtain ⟨rfl,rfl⟩:=a4
    exact ⟨rfl,a3,a2⟩
   ·rintro ⟨⟨⟩,st'⟩ s' ⟨rfl,hf,har⟩
    dsimp only at hf har ⊢
    have hout:=PySem.W.kat_snds rfl har
    have hL3:((zhV (zfd (L.map qB)) (PySem.W.kas_sort L.length)).toList.map fun i=>(zbu L).getD i Value.none)=zbu ((zgd (L.map qB)).map fun i=>L.getD i (0,0)):=by
     unfold zbu zgd
     rw [yB,kY]
     refine xC fun i hi=>?_
     refine (hget i (g2 i ?_)).1
     unfold zgd
     rw [yB]
     exact hi
    rw [hL3] at hout
    rw [hout]
    refine yA (seqEpoch_at (s:={s with heap:=H3}) ho3 rfl ?_)
    refine yA (listUpdate_at (s:={s with heap:=H3}) ho3 rfl ?_ (qL _) ?_)
    ·rw [hf]
     simp only [bne_self_eq_false,qE,if_false]
     refine yD (fin _ ?_ fun p hp=>?_)
     ·rw [kY]
      refine Eq.trans (xC fun i hi=>?_) g3
      exact ((hget i (g2 i hi)).2.1).symm
     ·obtain ⟨i,hi,rfl⟩:=yY.mp hp
      exact (hget i (g2 i hi)).2.2
    ·rw [yW,yB,yB]
     have hz:(zgd (L.map qB)).length≤4:=by
      have:=congrArg vI g3
      rw [yB] at this
      rw [this]
      exact xY _ _
     rw [sizeLine_eq]
     omega
theorem zlO {S:Addr}{t:SetTable}{L:List (Nat×Addr)}{Q:Value→Shared→Prop}(hh:A.handled=none)(hS:zeU prog w s.heap S (zfG w) t L)(hnd:(L.map qB).Nodup)
  (h:∀ (L3:List (Nat×Addr)) (D:Addr) s' n',L3.map qB=za7 (L.map qB)→(∀ p∈L3,p∈L)→S < D→s'.heap.get? D=some (seqObj "list" (zbu L3).toArray n')→Moved [] (fun a b=>b=a) s s'→Q (.ref D) s'):
  wpAny (model prog w) A (call (.builtin "sorted") [.ref S]) Q E s:=by
 have hS0:=hS
 obtain ⟨o,ep,ho,hex,hd,htab,hall⟩:=hS0
 have good:=zga htab (c:=0) (by omega)
 simp only [zdd,qM,xH,beq_iff_eq,yB,decide_eq_true_eq] at good
 have hlen:L.length≤4:=good.1.2
 refine Calls.call_function_entry kind_sorted plain_sorted entry_sorted (args_sorted1 _) ?_
 unfold Builtin.«sorted»
 refine yA (m:=checkCount "sorted" 1 1 _) (yD ?_)
 refine yA (zkt (A:=A.in1) (by simp [hh]) hS fun s1 vs hp hm=>?_)
 obtain ⟨L2,p2,rfl⟩:=zgE hp
 have hl2:L2.length≤4:=by rw [p2.length_eq];exact hlen
 refine yA (wpAny_newList ?_ (by rw [yB,sizeLine_eq];omega))
 have hoD:(s1.heap.push (seqObj "list" (zbu L2).toArray 0)).get? s1.heap.objs.size=some (seqObj "list" (zbu L2).toArray 0):=yT _ rfl
 have hk2:∀ p∈L2,p.1 < 4∧IsTupleKey (intKind prog w) (s1.heap.push (seqObj "list" (zbu L2).toArray 0)) (zdb p.1) p.2:=fun p hp'=>by
  have hq:=hall p (p2.mem_iff.mp hp')
  refine ⟨hq.1,?_⟩
  obtain ⟨o',it,n,e,r⟩:=hq.2
  exact ⟨o',it,n,yI _ (hm.heap _ _ qK e),r⟩
 have hD0:s.heap.get? s1.heap.objs.size=none:=by
  cases hq:s.heap.get? s1.heap.objs.size with
  | none=>rfl
  | some o'=>exact absurd (yV (hm.heap _ _ qK hq)) (vJ _)
 refine yA (wpAny_holding (wpAny_call_entry slot_list_sort ⟨_,hoD,rfl⟩ entry_list_sort ?body (args_list_sort _)))
 refine zgW (s:={s1 with heap:=s1.heap.push (seqObj "list" (zbu L2).toArray 0)}) hoD hk2 ((p2.map qB).nodup_iff.mpr hnd) hl2 fun L3 h' n' e1 e2 e3 e4=>?_
 refine ⟨_,rfl,yD ⟨_,rfl,h L3 s1.heap.objs.size _ n' (e1.trans ?_) (fun p hp'=>p2.mem_iff.mp (e2 p hp')) (yV (hm.heap _ _ qK ho)) e3 ⟨fun b ob _ e=>?_,hm.gens,hm.drawn,hm.os,hm.toks⟩⟩⟩
 ·unfold za7
  refine kW fun c _=>?_
  rw [xJ,jK,jK]
  exact (p2.map qB).mem_iff
 ·refine e4 b ob (fun z=>?_) (yI _ (hm.heap _ _ qK e))
  rw [z,hD0] at e
  cases e
end
noncomputable def zfv (c:Nat):HO:=.tup [.int ((c / 2:Nat):Int),.int ((c % 2:Nat):Int)]
noncomputable def zhS (te:TE):TE:=fun σ H Q=>te σ H fun v H1=>∃ (l:Addr) (ps:List (Nat×Addr)),v= .ref l∧H1 l=some (.lst (ps.map fun p=>V.ref p.2))∧(∀ p∈ps,p.1 < 4∧H1 p.2=some (zfv p.1))∧
 ∀ (D:Addr) (L:List (Nat×Addr)),H1 D=none→L.map qB=za7 (ps.map qB)→(∀ p∈L,p∈ps)→Q (.ref D) (upd H1 D (.lst (L.map fun p=>V.ref p.2)))
theorem zky {L ps:List (Nat×Addr)}(h:GotP L ps):za7 (L.map qB)=za7 (ps.map qB):=by
 unfold za7
 refine kW fun c _=>?_
 rw [xJ,jK,jK]
 constructor
 ·intro hc
  obtain ⟨p,hp,rfl⟩:=yY.mp hc
  exact yY.mpr ⟨p,h.1 p hp,rfl⟩
 ·intro hc
  obtain ⟨p,hp,rfl⟩:=yY.mp hc
  exact h.2.1 p hp
theorem zoz {P:Program}{w:World}{H:Hp}{h:Heap}{c:Nat}{a:Addr}(ok:HOk P w H h)(e:H a=some (zfv c)):IsTupleKey (intKind P w) h (zdb c) a:=by
 obtain ⟨_,its,r,o,h1,h2,n,h3⟩:=(show zbM P w H h a (zfv c) from ok a _ e)
 refine ⟨o,its.toArray,n,h1,h2,h3,?_⟩
 cases r with
 | cons r1 r2=>
  cases r2 with
  | cons r2 r3=>
   cases r3
   obtain ⟨t,rfl⟩:=r1
   obtain ⟨u,rfl⟩:=r2
   exact .cons (intKind_is _ _ _ _) (.cons (intKind_is _ _ _ _) .nil)
theorem zmi {L:List (Nat×Addr)}:Vals (L.map fun p=>V.ref p.2) (zbu L):=by
 induction L with
 | nil=>exact .nil
 | cons p r ih=>exact .cons rfl ih
theorem ze9:∀ {L:List (Nat×Addr)} {us:List Value},Vals (L.map fun p=>V.ref p.2) us→us=zbu L
 | [],_,h=>by cases h;rfl
 | p::r,_,h=>by
  cases h with
  | cons h1 h2=>
   cases h1
   rw [ze9 h2]
   rfl
section
variable {X:Cx} {e:Expr} {te:TE} {p p' pos pos':Pos} {xs xt:Str}
theorem zi0 (hc:X.calm=true)(hu:X.A.units+64 < cLine)(hg:Gl X "sorted")(hm:X.mg "sorted" =none)(hg':Gl X "set")(hm':X.mg "set" =none)(ha:PE X e te)
  (he:starEach [e] X.env= [(false,eval e X.env)]:=by rfl)
  (he':starEach [Expr.Call (.Name "set" p') [e] [] pos'] X.env= [(false,eval (Expr.Call (.Name "set" p') [e] [] pos') X.env)]:=by rfl):
  PE X (.Call (.Name "sorted" p) [.Call (.Name "set" p') [e] [] pos'] [] pos) (zhS te):=by
 intro pins s σ H Q I h
 refine wpAny_Call_Name_kw (zf3 I hg hm (by rfl) ?_ (by decide) (by decide))
 refine yaB (id:="sorted") ?_ he' rfl
 rw [he']
 show wpAny _ _ (spliced ((false,eval (Expr.Call (.Name "set" p') [e] [] pos') X.env)::backTo pos [])) _ _ s
 refine kF ?_
 refine wpAny_Call_Name_kw (zf3 I hg' hm' (by rfl) ?_ (by decide) (by decide))
 refine xI (T:="set") ?_ he rfl
 rw [he]
 show wpAny _ _ (spliced ((false,eval e X.env)::backTo pos' [])) _ _ s
 refine kF (thn (ha pins s σ H _ I h) fun u s1 ⟨x,H1,I1,r1,l,ps,ex,hl,hps,q⟩=>?_)
 subst ex
 cases r1
 refine wN ?_
 obtain ⟨z,its,n,rv,hlen,eL⟩:=I1.lstM hl
 have eits:=ze9 rv
 subst eits
 have hA:=I1.ok.hd hc
 refine zhD (xs:=ps) hA hu ⟨_,eL,rfl,n,rfl⟩ (fun i y hy=>⟨?_,?_⟩) (by simp) fun h' tk t' L' hP hG hK=>?_
 ·simp [zbu,hy]
 ·have hm:=yH hy
  exact ⟨(hps y hm).1,zoz I1.hok (hps y hm).2⟩
 refine wN ?_
 refine zlO (s:={s1 with heap:=h',toks:=tk}) hA hP hG.2.2 fun L3 D s2 n' e1 e2 hSD e3 hmv=>?_
 obtain ⟨h2,g2,d2,tk2,os2⟩:=s2
 have eg:g2=s1.gens:=hmv.gens
 have ed:d2=s1.drawn:=hmv.drawn
 have eo:os2=s1.os:=hmv.os
 subst eg;subst ed;subst eo
 have hf:H1 D=none:=I1.hok.fresh (yai hSD)
 have hz:L3.length≤4:=by
  have:=congrArg vI e1
  rw [yB] at this
  rw [this]
  exact xY _ _
 refine ⟨.ref D,_,I1.laid (a:=D) (o:=.lst (L3.map fun p=>V.ref p.2)) (t':=tk2) (fun b ob eb=>hmv.heap b ob qK (hK b ob eb)) (yai hSD) ⟨?_,zbu L3,n',zmi,e3⟩,rfl,q D L3 hf (e1.trans (zky hG)) fun p hp=>hG.1 p (e2 p hp)⟩
 rw [yB,sizeLine_eq]
 omega
theorem ze1 (hc:X.calm=true)(hu:X.A.units+64 < cLine)(hg:Gl X "sorted")(hm:X.mg "sorted" =none)(hg':Gl X "set")(hm':X.mg "set" =none)(ha:Bx (PE X e te))
  (he:starEach [e] X.env= [(false,eval e X.env)]:=by rfl)
  (he':starEach [Expr.Call (.Name "set" p') [e] [] pos'] X.env= [(false,eval (Expr.Call (.Name "set" p') [e] [] pos') X.env)]:=by rfl):
  Bx (PE X (.Call (.Name "sorted" p) [.Call (.Name "set" p') [e] [] pos'] [] pos) (zhS te)):=⟨zi0 hc hu hg hm hg' hm' ha.1 he he'⟩
end
section
variable {prog:Program} {w:World} {A:Around} {E:Value→Shared→Prop} {s:Shared}
end
section
variable {X:Cx}
end
end L2
namespace My
open PySem L2
noncomputable def hiV (c:Nat):Int:=((c / 2:Nat):Int)
noncomputable def loV (c:Nat):Int:=((c % 2:Nat):Int)
noncomputable def zbA (a b:Int):Nat:=2 * a.toNat+b.toNat
theorem zdj {a b:Int}(ha:a=0∨a=1)(hb:b=0∨b=1):zbA a b < 4:=by
 unfold zbA
 rcases ha with rfl | rfl <;> rcases hb with rfl | rfl <;> decide
theorem zec {a b:Int}(ha:a=0∨a=1)(hb:b=0∨b=1):hiV (zbA a b)=a:=by
 rcases ha with rfl | rfl <;> rcases hb with rfl | rfl <;> decide
theorem zek {a b:Int}(ha:a=0∨a=1)(hb:b=0∨b=1):loV (zbA a b)=b:=by
 rcases ha with rfl | rfl <;> rcases hb with rfl | rfl <;> decide
theorem zps {c:Nat}(h:c < 4):zbA (hiV c) (loV c)=c:=by
 have:c=0∨c=1∨c=2∨c=3:=by omega
 rcases this with rfl | rfl | rfl | rfl <;> decide
theorem zhF {c:Nat}(h:c < 4):hiV c=0∨hiV c=1:=by
 have:c=0∨c=1∨c=2∨c=3:=by omega
 rcases this with rfl | rfl | rfl | rfl <;> decide
theorem zo7 {c:Nat}(h:c < 4):loV c=0∨loV c=1:=by
 have:c=0∨c=1∨c=2∨c=3:=by omega
 rcases this with rfl | rfl | rfl | rfl <;> decide
noncomputable def zbq {α :Type} (acc:List (List α)) (legs:List (List α)):List (List α):=legs.foldl (fun rows ps=>rows.flatMap fun r=>ps.map fun p=>r++ [p]) acc
noncomputable def choices {α :Type} (legs:List (List α)):List (List α):=zbq [[]] legs
inductive zbT {α :Type}:List α→List (List α)→Prop
 | nil:zbT [] []
 | cons {x: α} {r:List α} {l:List α} {ls:List (List α)}:x∈l→zbT r ls→zbT (x::r) (l::ls)
theorem zgf {α :Type}:∀ {legs acc:List (List α)} {r:List α},r∈zbq acc legs↔∃ a b,a∈acc∧zbT b legs∧r=a++b
 | [],acc,r=>by
  constructor
  ·intro h
   exact ⟨r,[],h,.nil,(jW r).symm⟩
  ·rintro ⟨a,b,ha,hb,rfl⟩
   cases hb
   rw [jW]
   exact ha
 | l::ls,acc,r=>by
  show r∈zbq (acc.flatMap fun r=>l.map fun p=>r++ [p]) ls↔_
  rw [zgf]
  constructor
  ·rintro ⟨a,b,ha,hb,rfl⟩
   obtain ⟨q,hq,hm⟩:=wC.mp ha
   obtain ⟨p,hp,rfl⟩:=yY.mp hm
   exact ⟨q,p::b,hq,.cons hp hb,by simp⟩
  ·rintro ⟨a,b,ha,hb,rfl⟩
   cases hb with
   | @cons x r' _ _ hx hr=>
    exact ⟨a++ [x],r',wC.mpr ⟨a,ha,yY.mpr ⟨x,hx,rfl⟩⟩,hr,by simp⟩
theorem zaX {α :Type}{legs:List (List α)}{r:List α}:r∈choices legs↔zbT r legs:=by
 unfold choices
 rw [zgf]
 constructor
 ·rintro ⟨a,b,ha,hb,rfl⟩
  rw [yE.mp ha]
  exact hb
 ·intro h
  exact ⟨[],r,yE.mpr rfl,h,rfl⟩
theorem zbT.length {α :Type}{r:List α}{ls:List (List α)}(h:zbT r ls):r.length=ls.length:=by
 induction h with
 | nil=>rfl
 | cons _ _ ih=>rw [qY,qY,ih]
theorem zbT.snoc {α :Type}:∀ {r:List α} {ls:List (List α)} {l:List α},zbT r (ls++ [l])↔∃ a x,r=a++ [x]∧zbT a ls∧x∈l
 | r,[],l=>by
  constructor
  ·intro h
   cases h with
   | cons hx hr=>cases hr;exact ⟨[],_,rfl,.nil,hx⟩
  ·rintro ⟨a,x,rfl,ha,hx⟩
   cases ha
   exact .cons hx .nil
 | r,m::ls,l=>by
  constructor
  ·intro h
   cases h with
   | cons hx hr=>
    obtain ⟨a,y,rfl,ha,hy⟩:=zbT.snoc.mp hr
    exact ⟨_::a,y,rfl,.cons hx ha,hy⟩
  ·rintro ⟨a,x,rfl,ha,hx⟩
   cases ha with
   | cons hy ha=>exact .cons hy (zbT.snoc.mpr ⟨_,x,rfl,ha,hx⟩)
noncomputable def zbR (k:Str) (r:List Nat):Nat:=zbA (zbs k (r.map hiV)) (zbs k (r.map loV))
noncomputable def zgi (k:Str) (legs:List (List Nat)):List Nat:=za7 ((choices legs).map (zbR k))
theorem zeQ {cs:List Nat}(h:∀ c∈cs,c < 4){c:Nat}:c∈za7 cs↔c∈cs:=by
 unfold za7
 rw [vU,jK]
 constructor
 ·exact fun z=>z.2
 ·intro z
  have:=h c z
  have e:c=0∨c=1∨c=2∨c=3:=by omega
  exact ⟨by rcases e with rfl | rfl | rfl | rfl <;> simp,z⟩
theorem zh5 {a b:List Nat}(h:∀ c,c∈a↔c∈b):za7 a=za7 b:=by
 unfold za7
 refine kW fun c _=>?_
 rw [xJ,jK,jK]
 exact h c
noncomputable def zgj (k:Str):Prop:=k="and"∨k="or"∨k="odd"
theorem zjV {k:Str}(hk:zgj k){ns:List Int}{n:Int}(hb:Bits ns)(hn:n=0∨n=1):zbs k (ns++ [n])=zbs k [zbs k ns,n]:=by
 rcases hk with rfl | rfl | rfl
 ·rw [zgA,zgA,zgA]
  by_cases h:ns.all (· ==1)=true
  ·rw [if_pos h]
   simp [h]
  ·rw [if_neg h]
   simp [h]
 ·rw [zkM,zkM,zkM]
  by_cases h:ns.any (· ==1)=true
  ·rw [if_pos h]
   simp [h]
  ·rw [if_neg h]
   simp [h]
 ·rw [zg0,zg0,zg0,List.sum_append]
  simp only [List.sum_cons,List.sum_nil]
  omega
theorem zdw {k:Str}(hk:zgj k)(ns:List Int):zbs k ns=0∨zbs k ns=1:=by
 rcases hk with rfl | rfl | rfl
 ·rw [zgA];split
  ·exact .inr rfl
  ·exact .inl rfl
 ·rw [zkM];split
  ·exact .inr rfl
  ·exact .inl rfl
 ·rw [zg0]
  omega
noncomputable def zct (cs:List Nat):Prop:=∀ c∈cs,c < 4
theorem zbT.codes {r:List Nat}{ls:List (List Nat)}(h:zbT r ls)(hc:∀ l∈ls,zct l):zct r:=by
 induction h with
 | nil=>exact fun _ h=>(qK h).elim
 | cons hx _ ih=>
  intro c hm
  rcases yR.mp hm with rfl | hm
  ·exact hc _ xN _ hx
  ·exact ih (fun l hl=>hc l (jU _ hl)) c hm
theorem zct.hi {r:List Nat}(h:zct r):Bits (r.map hiV):=fun n hn=>by
 obtain ⟨c,hc,rfl⟩:=yY.mp hn
 exact zhF (h c hc)
theorem zct.lo {r:List Nat}(h:zct r):Bits (r.map loV):=fun n hn=>by
 obtain ⟨c,hc,rfl⟩:=yY.mp hn
 exact zo7 (h c hc)
theorem zgO {k:Str}(hk:zgj k){a:List Nat}{x:Nat}(ha:zct a)(hx:x < 4):zbR k (a++ [x])=zbR k [zbR k a,x]:=by
 unfold zbR
 rw [yK,yK]
 show zbA (zbs k (a.map hiV++ [hiV x])) (zbs k (a.map loV++ [loV x]))=zbA (zbs k [hiV _,hiV x]) (zbs k [loV _,loV x])
 rw [zec (zdw hk _) (zdw hk _),zek (zdw hk _) (zdw hk _),zjV hk ha.hi (zhF hx),zjV hk ha.lo (zo7 hx)]
theorem zoG {k:Str}(hk:zgj k)(r:List Nat):zbR k r < 4:=zdj (zdw hk _) (zdw hk _)
theorem zjT {k:Str}(hk:zgj k){ls:List (List Nat)}{c:Nat}:c∈zgi k ls↔∃ r,zbT r ls∧zbR k r=c:=by
 unfold zgi
 rw [zeQ (fun d hd=>by obtain ⟨r,_,rfl⟩:=yY.mp hd;exact zoG hk r),yY]
 constructor
 ·rintro ⟨r,hr,e⟩
  exact ⟨r,zaX.mp hr,e⟩
 ·rintro ⟨r,hr,e⟩
  exact ⟨r,zaX.mpr hr,e⟩
theorem zlW {k:Str}(hk:zgj k){ls:List (List Nat)}{l:List Nat}(hls:∀ m∈ls,zct m)(hl:zct l):zgi k (ls++ [l])=zgi k [zgi k ls,l]:=by
 refine zh5 fun c=>?_
 rw [yY,yY]
 constructor
 ·rintro ⟨r,hr,rfl⟩
  obtain ⟨a,x,rfl,ha,hx⟩:=zbT.snoc.mp (zaX.mp hr)
  exact ⟨[zbR k a,x],zaX.mpr (.cons ((zjT hk).mpr ⟨a,ha,rfl⟩) (.cons hx .nil)),(zgO hk (ha.codes hls) (hl x hx)).symm⟩
 ·rintro ⟨r,hr,rfl⟩
  cases zaX.mp hr with
  | cons hd h2=>
   cases h2 with
   | cons hx h3=>
    cases h3
    obtain ⟨a,ha,rfl⟩:=(zjT hk).mp hd
    exact ⟨a++ [_],zaX.mpr (zbT.snoc.mpr ⟨a,_,rfl,ha,hx⟩),zgO hk (ha.codes hls) (hl _ hx)⟩
end My
namespace L2
open PySem PySem.Spec PyProof.Rows
section
variable {prog:Program} {w:World} {A:Around} {R:Result→Shared→Prop} {I:Addr} {fp wr:List Addr} {n:Nat} {P:Nat→Value→Prop} {St:Nat→Heap→Prop}
end
section
variable {prog:Program} {w:World} {A:Around} {E:Value→Shared→Prop} {s:Shared} {l:Addr} {xs:Array (Int×Tok)}
end
section
variable {X:Cx}
end
open PySem.W (Dat kqdP kqdPs kqdOk)
section
variable {X:Cx}
end
end L2
namespace L2
open PySem PySem.Spec PyProof.Rows
section
variable {prog:Program} {w:World} {A:Around} {E:Value→Shared→Prop} {s:Shared}
end
section
variable {X:Cx}
end
section
open PySem.SeqAt
open PySem.AutoSeq1 (wpAny_loadPart')
open PySem.MeetsSeq PySem.MeetsSeq2 PySem.MeetsSeq3
end
section
variable {prog:Program} {w:World} {A:Around} {E:Value→Shared→Prop} {s:Shared}
end
section
variable {X:Cx}
end
end L2
namespace My
open PySem L2
open PySem.W (Dat kqdP kqdPs kqdOk)
section
variable {m:Nat} {a b:zaq} {fs gs:List Flt}
end
end My
namespace My
open PySem L2
open PySem.W (Dat kqdP kqdPs kqdOk)
section
variable {m:Nat} {w:zaq} {st F:List Flt} {row:List Int}
end
section
variable {m:Nat} {w:zaq} {keep:Nat→Bool} {fs:List Flt} {row:List Int}
end
end My
namespace L2
open PySem PySem.Spec PyProof.Rows
section
variable {M:Model} {A:Around} {E:Value→Shared→Prop}
variable {nm q nm2 q2:Str} {C N S N2:Addr} {bs bm bs2 bm2:List Value} {hdct hd2:Bool} {sn sn2:List Str} {sub sub2:List Value} {ab ab2:Bool} {col col2:Option Bool} {dd dd2:Option Addr} {k0 k1 k2 k3 k5 l0 l1 l2 l3 l5:Option Value} {newId newId2:String}
end
section
variable {X:Cx} {pins:List (Addr×Obj)} {σ :St} {H1:Hp} {s1 s':Shared} {C S:Addr} {nid nid2:String} {bB bB2:List Value} {sx n:Str} {np hpos:Pos} {b₀ :Stmt} {suite:List Stmt} {j:Nat} {ts:TS} {D:Ends} {E':XK} {e:Value}
end
section
variable {X:Cx} {C S f:Addr} {k k2:Nat} {fd:FuncData} {ps:List Str} {spG spX:Sp} {dvs:List V} {ds:List Value} {nid nid2:String} {bB bB2:List Value} {fx sx n:Str} {p np hpos cpos epos pos:Pos} {b₀ :Stmt} {suite body a b:List Stmt} {j:Nat} {ta:TA} {tc:TT} {ts:TS} {t u:(Addr→Hp→Prop)→TS} {e c:Expr} {es:List Expr}
end
section
variable {X:Cx} {pins:List (Addr×Obj)} {σ :St} {H:Hp} {s:Shared}
end
section
variable {X:Cx}
end
noncomputable def tStep (K:PySem.W.Frag) (te tl tk:TE):TE:=fun σ H Q=>te σ H fun x H1=>tl σ H1 fun l H2=>tk σ H2 fun y H3=>∃ a xs i k,x= .ref a∧l= .int i∧y= .int k∧k≠0∧SqL K H3 a xs∧∀ (p:Addr) (ys:List V),H3 p=none→(∀ v∈ys,v∈xs)→ys.length≤xs.length→Q (.ref p) (upd H3 p (.lst ys))
theorem zjw {xs:List V}{its:List Value}(r:Vals xs its):∀ us:List Value,(∀ u∈us,u∈its)→∃ ys,Vals ys us∧∀ v∈ys,v∈xs
 | [],_=>⟨[],.nil,fun _ h=>nomatch h⟩
 | u::us,h=>by
  obtain ⟨ys,r2,m2⟩:=zjw r us fun u hu=>h u (.tail _ hu)
  have:∀ {xs:List V} {its:List Value},Vals xs its→u∈its→∃ v∈xs,RelV v u:=by
   intro xs its r hu
   induction r with
   | nil=>exact nomatch hu
   | cons a _ ih=>
    rcases yR.mp hu with e | hu
    ·subst e
     exact ⟨_,.head _,a⟩
    ·obtain ⟨v,m,rv⟩:=ih hu
     exact ⟨v,.tail _ m,rv⟩
  obtain ⟨v,m,rv⟩:=this r (h u (.head _))
  refine ⟨v::ys,.cons rv r2,fun w hw=>?_⟩
  rcases yR.mp hw with e | hw
  ·rw [e];exact m
  ·exact m2 w hw
theorem zob {items:Array Value}{lo hi st:Option Int}:∀ u∈(slicePick items lo hi st).toList,u∈items.toList:=fun u hu=>by
 unfold slicePick at hu
 obtain ⟨i,_,e⟩:=ya2.mp (by simpa using hu)
 exact Array.mem_toList_iff.mpr (Array.mem_of_getElem? e)
section
variable {X:Cx} {e l k:Expr} {te tl tk:TE} {pos p2:Pos}
theorem zpp (he:PE X e te)(hl:PE X l tl)(hk:PE X k tk):PE X (.Subscript e (.Slice (some l) none (some k) p2) pos) (tStep X.K te tl tk):=by
 intro pins s σ H Q I h
 refine Subscript_ (thn (he pins s σ H _ I h) fun v s1 ⟨x,H1,I1,r1,q1⟩=>?_)
 refine wpAny_Slice ?_
 rw [evalPart_some]
 refine thn (hl pins s1 σ H1 _ I1 q1) fun ul s2 ⟨lv,H2,I2,r2,q2⟩=>?_
 rw [evalPart_none]
 refine yD ?_
 rw [evalPart_some]
 refine thn (hk pins s2 σ H2 _ I2 q2) fun u s3 ⟨y,H3,I3,r3,a,xs,i,kk,ex,el,ey,k0,hx,q⟩=>?_
 subst ex el ey
 cases (show v=Value.ref a from r1)
 obtain ⟨t1,rfl⟩:=(show ∃ t,ul=Value.int i t from r2)
 obtain ⟨t,rfl⟩:=(show ∃ t,u=Value.int kk t from r3)
 have I4:Inv X pins σ H3 {s3 with heap:=s3.heap.push {cls:=.type "slice",data:=.fields #[.int i t1,.none,.int kk t]}}:=I3.kept (t':=s3.toks) fun b ob q=>yI _ q
 show wpAny (model X.prog X.w) X.A (subscriptTail e (.Slice (some l) none (some k) p2) (.ref a) (.ref s3.heap.objs.size)) (EP X pins σ Q) X.xe {s3 with heap:=s3.heap.push {cls:=.type "slice",data:=.fields #[.int i t1,.none,.int kk t]}}
 obtain ⟨its,r,ht,hz⟩:=I4.list hx
 have hlen:=r.length
 refine tail_any (ops:=[.ref a,.ref s3.heap.objs.size]) ht.isList.typeIs slot_list_getitem.lookup ?_ (by with_unfolding_all rfl)
 refine wpAny_getItem_list_slice ht.isList (ybN ..) (.int i t1) .none (.int kk t) (by simpa using k0) ?_ (by rw [yW] <;> omega)
 obtain ⟨ys,ry,my⟩:=zjw r (slicePick its.toArray (some i) none (some kk)).toList fun u hu=>by simpa using zob u hu
 have ls:(slicePick its.toArray (some i) none (some kk)).toList.length≤its.length:=by
  have:=slicePick_size_le its.toArray (some i) none (some kk)
  rw [yW] at this
  rw [xT]
  exact this
 have ly:=ry.length
 refine ⟨.ref _,_,I4.laid (a:=_) (t':=s3.toks) (o:=.lst ys) (fun b ob q=>yI _ q) (yN _) ?_,rfl,q _ ys (I4.hok.fresh (yN _)) my (by omega)⟩
 refine ⟨by omega,(slicePick its.toArray (some i) none (some kk)).toList,0,ry,?_⟩
 have:=yT (h:=s3.heap.push {cls:=.type "slice",data:=.fields #[.int i t1,.none,.int kk t]}) (o:={cls:=.type "list",data:=.seq (slicePick its.toArray (some i) none (some kk))}) rfl
 simpa using this
theorem zoR (he:Bx (PE X e te))(hl:Bx (PE X l tl))(hk:Bx (PE X k tk)):Bx (PE X (.Subscript e (.Slice (some l) none (some k) p2) pos) (tStep X.K te tl tk)):=⟨zpp he.1 hl.1 hk.1⟩
end
section
variable {D:Addr} {n0:Nat} {cap:List Nat} {σ :St} {g:TG} {tt:TT} {te:TE} {Q:VK} {H1:Hp}
theorem zoV {a b:Addr}{xs ys:List V}(hlen:xs.length=ys.length)(Pv:Nat→Hp→Prop)(h0:Pv 0 (upd H1 D (.lst [])))(hl:∀ i H,i≤xs.length→Pv i H→H a=some (.lst xs)∧H b=some (.lst ys))
  (hs:∀ i x y H T,xs[i]? =some x→ys[i]? =some y→Pv i H→H T=none→g (.ref T) (zbC n0 cap σ) (upd H T (.tup [x,y])) fun σ2 H2=>tt σ2 H2 fun c H3=>if c=true then te σ2 H3 fun z H4=>∃ xs,H4 D=some (.lst xs)∧xs.length < yM∧Pv (i+1) (upd H4 D (.lst (xs++ [z]))) else Pv (i+1) H3)
  (hd:∀ H,Pv xs.length H→Q (.ref D) H):zdf (Itz a b) D n0 cap σ g tt te Q H1:=by
 refine ⟨fun i m H=>m=xs.length - i∧i≤xs.length∧Pv i H,⟨xs.length,by simp,qL _,h0⟩,?_⟩
 rintro i m H ⟨rfl,hi,p⟩
 obtain ⟨qa,qb⟩:=hl i H hi p
 by_cases hlt:i < xs.length
 ·refine .inr ⟨⟨xs,ys,xs[i],ys[i],qa,qb,by simp [hlt],yC _⟩,Pv (i+1),fun H' p'=>⟨xs.length - (i+1),by omega,rfl,hlt,p'⟩,fun x H' y=>?_⟩
  obtain ⟨T,u,v,hT,e1,e2,y⟩:=y
  subst e1 e2
  obtain ⟨h1,h2⟩:=y xs ys qa qb
  exact hs i u v H T h1 h2 p hT
 ·have e:i=xs.length:=by omega
  subst e
  exact .inl ⟨⟨xs,ys,qa,qb,by simp [hlen]⟩,hd _ p⟩
end
end L2
set_option exponentiation.threshold 3000
namespace My
open PySem L2
open PySem.W (Dat kqdP kqdPs kqdOk)
theorem ze3 {us:List Value}(h:us.length=1):∃ x0,us= [x0]:=match us,h with | [x0],_=>⟨x0,rfl⟩
theorem zeL {us:List Value}(h:us.length=2):∃ x0 x1,us= [x0,x1]:=match us,h with | [x0,x1],_=>⟨x0,x1,rfl⟩
theorem zeN {us:List Value}(h:us.length=3):∃ x0 x1 x2,us= [x0,x1,x2]:=match us,h with | [x0,x1,x2],_=>⟨x0,x1,x2,rfl⟩
theorem lenV4 {us:List Value}(h:us.length=4):∃ x0 x1 x2 x3,us= [x0,x1,x2,x3]:=match us,h with | [x0,x1,x2,x3],_=>⟨x0,x1,x2,x3,rfl⟩
set_option genInjectivity false
structure Def (K:PySem.W.Frag) (mg:Str→Option Value) (x:Str) (st:Stmt) (ps:List Str) (f:Addr) (fd:FuncData):Prop where
 F:Fun K x x st f fd
 b:zhu K fd ps []
 m:mg x=some (.ref f)
structure DefD (K:PySem.W.Frag) (mg:Str→Option Value) (x:Str) (st:Stmt) (ps:List Str) (f:Addr) (fd:FuncData) (T:Addr) (tk:Tok):Prop where
 F:FunD K x x st f fd T
 b:zhu K fd ps []
 b1:zhu K fd ps [.int 1 tk]
 m:mg x=some (.ref f)
structure Adr where
 f_every_row:Addr
 fd_every_row:FuncData
 f_check_row:Addr
 fd_check_row:FuncData
 f_gate_worth:Addr
 fd_gate_worth:FuncData
 dt_gate_worth:Addr
 tk_gate_worth:Tok
 f_every_fault:Addr
 fd_every_fault:FuncData
 f_stuck_places:Addr
 fd_stuck_places:FuncData
 f_worths_with:Addr
 fd_worths_with:FuncData
 dt_worths_with:Addr
 tk_worths_with:Tok
 f_leg_worths:Addr
 fd_leg_worths:FuncData
 f_outputs_with:Addr
 fd_outputs_with:FuncData
 dt_outputs_with:Addr
 tk_outputs_with:Tok
 f_outputs_seen:Addr
 fd_outputs_seen:FuncData
 f_rows_at_once:Addr
 fd_rows_at_once:FuncData
 f_outputs_in:Addr
 fd_outputs_in:FuncData
 f_seen_of_each:Addr
 fd_seen_of_each:FuncData
 f_first_unlike:Addr
 fd_first_unlike:FuncData
 f_unlike_numbers:Addr
 fd_unlike_numbers:FuncData
 f_what_fits:Addr
 fd_what_fits:FuncData
 f_seen_of_fitting:Addr
 fd_seen_of_fitting:FuncData
 f_seen_of_all:Addr
 fd_seen_of_all:FuncData
 f_row_number:Addr
 fd_row_number:FuncData
 f_left_behind:Addr
 fd_left_behind:FuncData
 f_paper_shows:Addr
 fd_paper_shows:FuncData
 f_is_let_by:Addr
 fd_is_let_by:FuncData
 f_every_pairs:Addr
 fd_every_pairs:FuncData
 f_input_pairs:Addr
 fd_input_pairs:FuncData
 f_leg_pairs:Addr
 fd_leg_pairs:FuncData
 f_with_stuck:Addr
 fd_with_stuck:FuncData
 f_gate_pairs:Addr
 fd_gate_pairs:FuncData
 f_every_choice:Addr
 fd_every_choice:FuncData
 f_chosen_pair:Addr
 fd_chosen_pair:FuncData
 f_outputs_alike:Addr
 fd_outputs_alike:FuncData
 f_are_alike:Addr
 fd_are_alike:FuncData
 f_first_test:Addr
 fd_first_test:FuncData
 f_test_told:Addr
 fd_test_told:FuncData
 f_paper_behind:Addr
 fd_paper_behind:FuncData
 f_parted_at:Addr
 fd_parted_at:FuncData
 f_fault_groups:Addr
 fd_fault_groups:FuncData
 f_law_cell_at:Addr
 fd_law_cell_at:FuncData
 f_law_stir:Addr
 fd_law_stir:FuncData
 f_law_digit:Addr
 fd_law_digit:FuncData
 f_law_gate:Addr
 fd_law_gate:FuncData
 f_law_works:Addr
 fd_law_works:FuncData
 f_law_rows:Addr
 fd_law_rows:FuncData
 f_law_longer:Addr
 fd_law_longer:FuncData
 f_law_worth:Addr
 fd_law_worth:FuncData
 f_law_stuck:Addr
 fd_law_stuck:FuncData
 f_law_faults:Addr
 fd_law_faults:FuncData
 f_law_first:Addr
 fd_law_first:FuncData
 f_law_groups:Addr
 fd_law_groups:FuncData
 f_law:Addr
 fd_law:FuncData
 c_WELL:Addr
 c_FOLDED_KINDS:Addr
structure Txt (K:PySem.W.Frag) (mg:Str→Option Value) (t:Adr):Prop where
 d_every_row:Def K mg "every_row" zdF ["works"] t.f_every_row t.fd_every_row
 d_check_row:Def K mg "check_row" zdB ["works","row"] t.f_check_row t.fd_check_row
 d_gate_worth:DefD K mg "gate_worth" zcp ["kind","worths","ones"] t.f_gate_worth t.fd_gate_worth t.dt_gate_worth t.tk_gate_worth
 d_every_fault:Def K mg "every_fault" zcw ["works"] t.f_every_fault t.fd_every_fault
 d_stuck_places:Def K mg "stuck_places" zcm ["works","faults"] t.f_stuck_places t.fd_stuck_places
 d_worths_with:DefD K mg "worths_with" zb3 ["works","stuck","row","ones"] t.f_worths_with t.fd_worths_with t.dt_worths_with t.tk_worths_with
 d_leg_worths:Def K mg "leg_worths" zcY ["stuck","gate","worths"] t.f_leg_worths t.fd_leg_worths
 d_outputs_with:DefD K mg "outputs_with" zbO ["works","stuck","row","ones"] t.f_outputs_with t.fd_outputs_with t.dt_outputs_with t.tk_outputs_with
 d_outputs_seen:Def K mg "outputs_seen" zcc ["works","stuck"] t.f_outputs_seen t.fd_outputs_seen
 d_rows_at_once:Def K mg "rows_at_once" zcf ["inputs"] t.f_rows_at_once t.fd_rows_at_once
 d_outputs_in:Def K mg "outputs_in" zc1 ["seen","number"] t.f_outputs_in t.fd_outputs_in
 d_seen_of_each:Def K mg "seen_of_each" zch ["works"] t.f_seen_of_each t.fd_seen_of_each
 d_first_unlike:Def K mg "first_unlike" zcb ["works","stuck","others"] t.f_first_unlike t.fd_first_unlike
 d_unlike_numbers:Def K mg "unlike_numbers" zbP ["seen","others"] t.f_unlike_numbers t.fd_unlike_numbers
 d_what_fits:Def K mg "what_fits" zdI ["works","answers"] t.f_what_fits t.fd_what_fits
 d_seen_of_fitting:Def K mg "seen_of_fitting" zbK ["works","answers"] t.f_seen_of_fitting t.fd_seen_of_fitting
 d_seen_of_all:Def K mg "seen_of_all" zcv ["works"] t.f_seen_of_all t.fd_seen_of_all
 d_row_number:Def K mg "row_number" zc3 ["row"] t.f_row_number t.fd_row_number
 d_left_behind:Def K mg "left_behind" zcx ["left","number","outputs"] t.f_left_behind t.fd_left_behind
 d_paper_shows:Def K mg "paper_shows" zcA ["works","faults","paper"] t.f_paper_shows t.fd_paper_shows
 d_is_let_by:Def K mg "is_let_by" zdE ["works","stuck","known","paper"] t.f_is_let_by t.fd_is_let_by
 d_every_pairs:Def K mg "every_pairs" zcE ["works","stuck","known"] t.f_every_pairs t.fd_every_pairs
 d_input_pairs:Def K mg "input_pairs" zcy ["worth"] t.f_input_pairs t.fd_input_pairs
 d_leg_pairs:Def K mg "leg_pairs" zdK ["stuck","gate","wires"] t.f_leg_pairs t.fd_leg_pairs
 d_with_stuck:Def K mg "with_stuck" zcX ["pairs","stuck","place"] t.f_with_stuck t.fd_with_stuck
 d_gate_pairs:Def K mg "gate_pairs" zcQ ["kind","legs"] t.f_gate_pairs t.fd_gate_pairs
 d_every_choice:Def K mg "every_choice" zci ["legs"] t.f_every_choice t.fd_every_choice
 d_chosen_pair:Def K mg "chosen_pair" zcB ["kind","choice"] t.f_chosen_pair t.fd_chosen_pair
 d_outputs_alike:Def K mg "outputs_alike" zbY ["works","stuck","known"] t.f_outputs_alike t.fd_outputs_alike
 d_are_alike:Def K mg "are_alike" zdW ["pairs"] t.f_are_alike t.fd_are_alike
 d_first_test:Def K mg "first_test" zda ["works","faults"] t.f_first_test t.fd_first_test
 d_test_told:Def K mg "test_told" zdL ["works","faults"] t.f_test_told t.fd_test_told
 d_paper_behind:Def K mg "paper_behind" zcj ["works","stuck","known"] t.f_paper_behind t.fd_paper_behind
 d_parted_at:Def K mg "parted_at" zdA ["works","faults","others"] t.f_parted_at t.fd_parted_at
 d_fault_groups:Def K mg "fault_groups" zck ["works"] t.f_fault_groups t.fd_fault_groups
 d_law_cell_at:Def K mg "_law_cell_at" zcF ["script","k"] t.f_law_cell_at t.fd_law_cell_at
 d_law_stir:Def K mg "_law_stir" zeo ["cell","k"] t.f_law_stir t.fd_law_stir
 d_law_digit:Def K mg "_law_digit" zdJ ["cell","k","many"] t.f_law_digit t.fd_law_digit
 d_law_gate:Def K mg "_law_gate" zer ["cell","wires"] t.f_law_gate t.fd_law_gate
 d_law_works:Def K mg "_law_works" zdM ["script","most_inputs","most_gates"] t.f_law_works t.fd_law_works
 d_law_rows:Def K mg "_law_rows" zet ["inputs"] t.f_law_rows t.fd_law_rows
 d_law_longer:Def K mg "_law_longer" zc5 ["rows"] t.f_law_longer t.fd_law_longer
 d_law_worth:Def K mg "_law_worth" zdR ["kind","legs"] t.f_law_worth t.fd_law_worth
 d_law_stuck:Def K mg "_law_stuck" zdX ["works","faults","row"] t.f_law_stuck t.fd_law_stuck
 d_law_faults:Def K mg "_law_faults" zcS ["works"] t.f_law_faults t.fd_law_faults
 d_law_first:Def K mg "_law_first" zdH ["rows","one","other"] t.f_law_first t.fd_law_first
 d_law_groups:Def K mg "_law_groups" zcU ["faults","seen","right"] t.f_law_groups t.fd_law_groups
 d_law:Def K mg "law" zi6 ["script"] t.f_law t.fd_law
 z_all:mg "all" =none
 z_dict:mg "dict" =none
 z_enumerate:mg "enumerate" =none
 z_int:mg "int" =none
 z_len:mg "len" =none
 z_list:mg "list" =none
 z_min:mg "min" =none
 z_range:mg "range" =none
 z_set:mg "set" =none
 z_sorted:mg "sorted" =none
 z_sum:mg "sum" =none
 z_tuple:mg "tuple" =none
 z_zip:mg "zip" =none
 g_WELL:mg "WELL" =some (.ref t.c_WELL)
 g_FOLDED_KINDS:mg "FOLDED_KINDS" =some (.ref t.c_FOLDED_KINDS)
 k_FOLDED_KINDS:TupK K t.c_FOLDED_KINDS ["and","or","odd"]
noncomputable def zmu (x:Str):Prop:=x="and"∨x="or"∨x="odd"∨x="not"∨x="choose"∨x="zero"∨x="one"
theorem joinP {A:Prop}{C P:Hp→Prop}(h:(∀ H4,C H4→P H4)→A)(r:∀ H4,C H4→P H4):A:=h r
theorem zqm {α :Type}{A:Prop}{C: α→Hp→Prop}{st: α→St}{P:St→Hp→Prop}(h:(∀ v H4,C v H4→P (st v) H4)→A)(r:∀ v H4,C v H4→P (st v) H4):A:=h r
noncomputable def hole (pd:Addr) (H:Hp):Hp:=fun z=>if z=pd then none else H z
theorem zaR {pd z:Addr}{H:Hp}(h:z≠pd):hole pd H z=H z:=if_neg h
theorem zcV {pd:Addr}{H:Hp}{o:HO}(e:H pd=some o):Off [pd] (hole pd H) H:=⟨fun b v q=>by
  by_cases z:b=pd
  ·unfold hole at q
   rw [if_pos z] at q
   cases q
  ·rw [zaR z] at q
   exact q,
 fun m hm=>by rw [yE.mp hm];exact if_pos rfl,fun m hm=>by rw [yE.mp hm];exact ⟨o,e⟩⟩
theorem zem {pd:Addr}{G H:Hp}(s:Same G H)(g:G pd=none):Same G (hole pd H):=fun b v q=>by
 rw [zaR (zam q g)]
 exact s b v q
noncomputable def sp_gw (K:PySem.W.Frag):Sp:=fun vs H Q _=>∃ (x:Str) (p:Addr) (ns:List Int),vs= [.str x,.ref p,.int 1]∧SqL K H p (ns.map V.int)∧Bits ns∧zbn x ns.length∧∀ H',Same H H'→Q (.int (zbs x ns)) H'
noncomputable def sp_gwI (K:PySem.W.Frag):Sp:=fun vs H Q _=>∃ (x:Str) (p:Addr) (ns:List Int) (o:Int),vs= [.str x,.ref p,.int o]∧SqL K H p (ns.map V.int)∧zbn x ns.length∧∀ H',Same H H'→Q (.int (zeW o x ns)) H'
noncomputable def sp_cr (K:PySem.W.Frag):Sp:=fun vs H Q _=>∃ (a ga oa p:Addr) (i:Int) (row:List Int),vs= [.ref a,.ref p]∧SqT K H a [.int i,.ref ga,.ref oa]∧SqL K H p (row.map V.int)∧(row.length:Int)=i∧Bits row∧row.length≤100∧∀ H',Same H H'→Q .non H'
noncomputable def sp_er (K:PySem.W.Frag):Sp:=fun vs H Q _=>∃ (a ga oa:Addr) (i:Int),vs= [.ref a]∧SqT K H a [.int i,.ref ga,.ref oa]∧0≤i∧i≤6∧∀ (R:Addr) (qs:List Addr) (H':Hp),Rows H R qs (zaQ i.toNat) H'→Q (.ref R) H'
noncomputable def sp_lgw (K:PySem.W.Frag):Sp:=fun vs H Q _=>∃ (d p:Addr) (k:Int) (fs:List Flt) (ns:List Int),vs= [.ref d,.int k,.ref p]∧H d=some (.dT (tabV fs))∧SqL K H p (ns.map V.int)∧ns.length≤4∧
 ∀ (r:Addr) (H':Hp),Same H H'→H r=none→H' r=some (.lst ((zb8 fs k ns).map V.int))→Q (.ref r) H'
noncomputable def sp_wwG (K:PySem.W.Frag):Sp:=fun vs H Q _=>∃ (x:V) (d p:Addr) (w:zaq) (fs:List Flt) (row:List Int) (o:Int),vs= [x,.ref d,.ref p,.int o]∧Rep K H x (zbt w)∧WF 20 w∧H d=some (.dT (tabV fs))∧SqL K H p (row.map V.int)∧(row.length:Int)=w.ins∧
 ∀ (r:Addr) (H':Hp),Same H H'→H r=none→H' r=some (.lst ((zcr o fs w.gates row w.gates.length).map V.int))→Q (.ref r) H'
noncomputable def sp_owG (K:PySem.W.Frag):Sp:=fun vs H Q _=>∃ (x:V) (d p:Addr) (w:zaq) (fs:List Flt) (row:List Int) (o:Int),vs= [x,.ref d,.ref p,.int o]∧Rep K H x (zbt w)∧WF 20 w∧H d=some (.dT (tabV fs))∧SqL K H p (row.map V.int)∧(row.length:Int)=w.ins∧
 ∀ (r:Addr) (H':Hp),Same H H'→H r=none→H' r=some (.lst ((zbL w (zcr o fs w.gates row w.gates.length)).map V.int))→Q (.ref r) H'
noncomputable def sp_spl (K:PySem.W.Frag):Sp:=fun vs H Q _=>∃ (x y:V) (w:zaq) (fs:List Flt),vs= [x,y]∧Rep K H x (zbt w)∧WF 20 w∧Rep K H y (.list (fs.map fltD))∧(∀ f∈fs,zfc w f)∧zdh fs∧fs.length≤1000∧
 ∀ (d:Addr) (H':Hp),Same H H'→H d=none→H' d=some (.dT (tabV fs))→Q (.ref d) H'
noncomputable def sp_gw2 (K:PySem.W.Frag):Sp:=fun vs H Q _=>∃ (x:Str) (p:Addr) (ns:List Int),vs= [.str x,.ref p]∧SqL K H p (ns.map V.int)∧Bits ns∧zbn x ns.length∧Q (.int (zbs x ns)) H
noncomputable def sp_ca (K:PySem.W.Frag):Sp:=fun vs H Q _=>∃ (a:Addr) (ns:List Int) (k:Nat),vs= [.ref a,.int k]∧SqL K H a (ns.map V.int)∧∀ r:Int,Q (.int r) H
noncomputable def sp_lr:Sp:=fun vs H Q _=>∃ (i:Int),vs= [.int i]∧0≤i∧i≤6∧∀ (R:Addr) (qs:List Addr) (H':Hp),Same H H'→H' R=some (.lst (qs.map V.ref))→At H' qs (zaQ i.toNat)→Q (.ref R) H'
noncomputable def sp_rao:Sp:=fun vs H Q _=>∃ n:Nat,vs= [.int n]∧n≤6∧∀ (r L:Addr) (H':Hp),Same H H'→H r=none→H L=none→H' r=some (.tup [.ref L,.int (zaU (2 ^ n))])→H' L=some (.lst ((zdN n).map V.int))→Q (.ref r) H'
theorem zly {R:Nat}{x:Int}(h:za2 R x)(hR:R≤64):qS x≤2 ^ 20:=by
 obtain ⟨n,rfl,hn⟩:=za6 h
 have h1:n < 2 ^ 64:=qN hn (jT (by decide) hR)
 exact zit (k:=64) (by decide) (by omega) (by omega)
theorem pow6 {n:Nat}(h:n≤6): 2 ^ n≤64:=jT (n:=2) (by decide) h
noncomputable def zj7 (u:Int):List Nat:=(xO (qS u)).filter fun j=>decide (bitI j u=1)
noncomputable def sp_un:Sp:=fun vs H Q _=>∃ (a b:Addr) (xs ys:List Int) (R:Nat),vs= [.ref a,.ref b]∧H a=some (.lst (xs.map V.int))∧H b=some (.lst (ys.map V.int))∧xs.length=ys.length∧xs.length≤1000∧R≤64∧(∀ v∈xs,za2 R v)∧(∀ v∈ys,za2 R v)∧
 ∀ (r:Addr) (H':Hp),Same H H'→H r=none→H' r=some (.lst ((zj7 (zdP xs ys)).map fun j:Nat=>V.int (j:Int)))→Q (.ref r) H'
theorem znc {R:Nat}{u:Int}(h:za2 R u)(j:Nat):(V.int (qT (u / 2 ^ ((j:Int)).toNat) 1)=V.int 1)↔bitI j u=1:=by
 obtain ⟨m,rfl,hm⟩:=za6 h
 rw [jN,za8]
 have e:(m:Int) / 2 ^ j=((m / 2 ^ j:Nat):Int):=by
  rw [Int.natCast_ediv]
  congr 1
 have e1:qT ((m / 2 ^ j:Nat):Int) 1=((m / 2 ^ j % 2:Nat):Int):=by
  have:=zh9 (m / 2 ^ j) 1
  rw [ybV] at this
  exact this
 rw [e,e1,Nat.testBit_eq_decide_div_mod_eq]
 constructor
 ·intro z
  have:=V.int.inj z
  rw [if_pos (decide_eq_true (by omega))]
 ·intro z
  by_cases c:m / 2 ^ j % 2=1
  ·rw [c]
   rfl
  ·rw [if_neg (by simpa using c)] at z
   cases z
noncomputable def zav (w:zaq) (fs:List Flt):List Int:=zbL w (zcr (zaU (2 ^ w.ins.toNat)) (zcu (2 ^ w.ins.toNat) fs) w.gates (zdN w.ins.toNat) w.gates.length)
theorem zml {R:Nat}{fs:List Flt}(h:zdh fs):zdh (zcu R fs):=by
 unfold zdh zcu at *
 rw [kY]
 exact h
theorem znZ {j:Nat}{w:zaq}{ws:List Int}:(zbL w ws).map (bitI j)=zbL w (ws.map (bitI j)):=by
 unfold zbL
 rw [kY]
 refine xC fun o _=>?_
 exact zds j ws o.toNat
theorem zb2 {fs:List Flt}(fb:∀ f∈fs,f.worth=0∨f.worth=1){m:Nat}{w:zaq}(wf:WF m w):(∀ v∈zav w fs,za2 (2 ^ w.ins.toNat) v)∧(zav w fs).length=w.outs.length∧
  ∀ (j:Nat) row,(zaQ w.ins.toNat)[j]? =some row→(zav w fs).map (bitI j)=zbL w (zaB fs w.gates row w.gates.length):=by
 have i1:=wf.i1
 obtain ⟨c1,c2,c3⟩:=ze4 w.ins.toNat
 obtain ⟨w1,w2⟩:=zhP fb wf (cols:=zdN w.ins.toNat) (by rw [c2];omega) c1 w.gates.length (yN _)
 refine ⟨fun v hv=>?_,by unfold zav zbL;rw [yB],fun j row hj=>?_⟩
 ·unfold zav zbL at hv
  obtain ⟨o,_,rfl⟩:=yY.mp hv
  exact zfT w1 _
 ·have lj:j < 2 ^ w.ins.toNat:=by
   have:=(yF.mp hj).1
   rw [zbe] at this
   exact this
  rw [c3 j lj] at hj
  cases hj
  unfold zav
  rw [znZ,w2 j lj]
theorem zlF {fs gs:List Flt}(fb:∀ f∈fs,f.worth=0∨f.worth=1)(gb:∀ f∈gs,f.worth=0∨f.worth=1){m:Nat}{w:zaq}(wf:WF m w):
  (zj7 (zdP (zav w fs) (zav w gs))= []→zbo w fs gs=none)∧∀ j js,zj7 (zdP (zav w fs) (zav w gs))=j::js→∃ row,(zaQ w.ins.toNat)[j]? =some row∧zbo w fs gs=some row:=by
 obtain ⟨f1,f2,f3⟩:=zb2 fb wf
 obtain ⟨g1,g2,g3⟩:=zb2 gb wf
 obtain ⟨u1,u2⟩:=zeJ (R:=2 ^ w.ins.toNat) (zav w fs) (zav w gs) (f2.trans g2.symm) f1 g1 (zdq _)
 obtain ⟨u,eu⟩:∃ u,zdP (zav w fs) (zav w gs)=u:=⟨_,rfl⟩
 have b0:za2 (2 ^ w.ins.toNat) u:=by rw [← eu];exact u1
 have mem:∀ j,j∈zj7 u↔bitI j u=1:=fun j=>by
  unfold zj7
  rw [vU,jY,decide_eq_true_eq]
  refine ⟨fun z=>z.2,fun z=>⟨?_,z⟩⟩
  obtain ⟨k,rfl,hk⟩:=za6 b0
  have hb:=zqq k
  rcases yb2 j (qS (k:Int)) with h | h
  ·exact h
  ·rw [za8,yax (qN hb (jT (by decide) h))] at z
   cases z
 have row_of:∀ (j:Nat) row,(zaQ w.ins.toNat)[j]? =some row→(bitI j u=1↔zbL w (zaB fs w.gates row w.gates.length)≠zbL w (zaB gs w.gates row w.gates.length)):=fun j row hj=>by
  rw [← eu]
  have z:=u2 j
  rw [zgs,f3 j row hj,g3 j row hj] at z
  refine z.trans ?_
  simp
 have lt_of:∀ j,bitI j u=1→j < 2 ^ w.ins.toNat:=fun j z=>by
  obtain ⟨k,rfl,hk⟩:=za6 b0
  rcases yb2 j (2 ^ w.ins.toNat) with h | h
  ·exact h
  ·rw [za8,yax (qN hk (jT (by decide) h))] at z
   cases z
 rw [eu]
 constructor
 ·intro hn
  unfold zbo
  refine vO.mpr fun row hr z=>?_
  obtain ⟨j,hj⟩:=jQ hr
  have:=(mem j).mpr ((row_of j row hj).mpr (of_decide_eq_true z))
  rw [hn] at this
  cases this
 ·intro j js hn
  have bj:bitI j u=1:=(mem j).mp (by rw [hn];exact .head _)
  have lj:=lt_of j bj
  obtain ⟨row,hrow⟩:∃ row,(zaQ w.ins.toNat)[j]? =some row:=⟨_,yC (by rw [zbe];exact lj)⟩
  refine ⟨row,hrow,zk9 hrow (decide_eq_true ((row_of j row hrow).mp bj)) fun y hy=>?_⟩
  obtain ⟨i,hi⟩:=jQ hy
  have lij:i < j:=by
   have:=(yF.mp hi).1
   rw [yP] at this
   omega
  rw [yaj lij] at hi
  refine decide_eq_false fun z=>?_
  have bi:=(row_of i y hi).mpr z
  have hm:=(mem i).mpr bi
  have sorted:(zj7 u).Pairwise (· < ·):=by
   unfold zj7
   exact List.Pairwise.filter _ List.pairwise_lt_range
  rw [hn] at hm sorted
  rcases yR.mp hm with e | e
  ·omega
  ·have:=(List.pairwise_cons.mp sorted).1 i e
   omega
noncomputable def sp_osR (K:PySem.W.Frag):Sp:=fun vs H Q _=>∃ (x:V) (d:Addr) (w:zaq) (fs:List Flt) (G:Hp),vs= [x,.ref d]∧Off [d] G H∧Rep K G x (zbt w)∧WF 20 w∧H d=some (.dT (tabV fs))∧(∀ f∈fs,f.worth=0∨f.worth=1)∧zdh fs∧fs.length≤1000∧
 ∀ (r:Addr) (ob:yam) (H':Hp),Same G H'→G r=none→H' d=some (.frz ob (.dT (tabV fs)))→H' r=some (.lst ((zav w fs).map V.int))→Q (.ref r) H'
noncomputable def sp_osT (K:PySem.W.Frag):Sp:=fun vs H Q _=>∃ (x:V) (d:Addr) (w:zaq) (fs:List Flt),vs= [x,.ref d]∧Rep K H x (zbt w)∧WF 20 w∧H d=some (.dT (tabV fs))∧(∀ f∈fs,f.worth=0∨f.worth=1)∧zdh fs∧fs.length≤1000∧
 ∀ (r:Addr) (H':Hp),Same H H'→H r=none→H' r=some (.lst ((zav w fs).map V.int))→Q (.ref r) H'
theorem znw {K:PySem.W.Frag}{H:Hp}{p a:Addr}{xs:List V}{kvs:List (List Key×V)}(h:SqT K H a xs)(e:H p=some (.dT kvs)):SqT K (hole p H) a xs:=by
 rcases h with h | h
 ·left
  rcases h with h | ⟨o,h⟩
  ·exact .inl (by rw [zaR (fun z=>by rw [z,e] at h;cases h)];exact h)
  ·exact .inr ⟨o,by rw [zaR (fun z=>by rw [z,e] at h;cases h)];exact h⟩
 ·exact .inr h
theorem znq {K:PySem.W.Frag}{H:Hp}{p a:Addr}{xs:List V}{kvs:List (List Key×V)}(h:SqL K H a xs)(e:H p=some (.dT kvs)):SqL K (hole p H) a xs:=by
 rcases h with h | h
 ·left
  rcases h with h | ⟨o,h⟩
  ·exact .inl (by rw [zaR (fun z=>by rw [z,e] at h;cases h)];exact h)
  ·exact .inr ⟨o,by rw [zaR (fun z=>by rw [z,e] at h;cases h)];exact h⟩
 ·exact .inr h
mutual
theorem zlp {K:PySem.W.Frag}{H:Hp}{d:Addr}{kvs:List (List Key×V)}(e:H d=some (.dT kvs)):∀ {v:V} {D:Dat},Rep K H v D→Rep K (hole d H) v D
 | _,_,.non=>.non
 | _,_,.bl b=>.bl b
 | _,_,.int i=>.int i
 | _,_,.str x=>.str x
 | _,_,.tup h r=>.tup (znw h e) (zgB e r)
 | _,_,.lst h r=>.lst (znq h e) (zgB e r)
theorem zgB {K:PySem.W.Frag}{H:Hp}{d:Addr}{kvs:List (List Key×V)}(e:H d=some (.dT kvs)):∀ {vs:List V} {Ds:List Dat},Reps K H vs Ds→Reps K (hole d H) vs Ds
 | _,_,.nil=>.nil
 | _,_,.cons h r=>.cons (zlp e h) (zgB e r)
end
noncomputable def zjy (H H':Hp) (o:Option (List Int)) (v:V):Prop:=match o with
 | none=>v= .non
 | some row=>∃ q,v= .ref q∧H q=none∧H' q=some (.lst (row.map V.int))
noncomputable def sp_fu (K:PySem.W.Frag):Sp:=fun vs H Q _=>∃ (x:V) (d e:Addr) (w:zaq) (fs gs:List Flt),vs= [x,.ref d,.ref e]∧Rep K H x (zbt w)∧WF 20 w∧H d=some (.dT (tabV fs))∧H e=some (.dT (tabV gs))∧(∀ f∈fs,f.worth=0∨f.worth=1)∧(∀ f∈gs,f.worth=0∨f.worth=1)∧zdh fs∧zdh gs∧fs.length≤1000∧gs.length≤1000∧
 ∀ (v:V) (H':Hp),Same H H'→zjy H H' (zbo w fs gs) v→Q v H'
noncomputable def zkH (H':Hp) (o:Option (List Int)) (v:V):Prop:=match o with
 | none=>v= .non
 | some row=>∃ q,v= .ref q∧H' q=some (.lst (row.map V.int))
theorem zkH.mono {H H':Hp}{o:Option (List Int)}{v:V}(h:zkH H o v)(s:Same H H'):zkH H' o v:=by
 unfold zkH at *
 cases o with
 | none=>exact h
 | some row=>
  obtain ⟨q,a,b⟩:=h
  exact ⟨q,a,s _ _ b⟩
noncomputable def sp_ft (K:PySem.W.Frag):Sp:=fun vs H Q _=>∃ (x y:V) (w:zaq) (fs:List Flt),vs= [x,y]∧Rep K H x (zbt w)∧WF 20 w∧Rep K H y (.list (fs.map fltD))∧(∀ f∈fs,zfc w f)∧zdh fs∧fs.length≤1000∧
 ∀ (v:V) (H':Hp),Same H H'→zjy H H' (zbo w fs []) v→Q v H'
theorem zjy.any {G H':Hp}{o:Option (List Int)}{v:V}{H:Hp}(h:zjy H H' o v)(s:Same G H):zjy G H' o v:=by
 unfold zjy at *
 cases o with
 | none=>exact h
 | some row=>
  obtain ⟨q,a,b,c⟩:=h
  exact ⟨q,a,s.free b,c⟩
noncomputable def FAt (H:Hp) (f:Flt) (v:V):Prop:=∃ b,v= .ref b∧H b=some (.tup (f.place.map kV++ [.int f.worth]))
noncomputable abbrev FAll (H:Hp):List V→List Flt→Prop:=Paired fun v f=>FAt H f v
theorem FAt.mono {H H':Hp}{f:Flt}{v:V}(h:FAt H f v)(s:Same H H'):FAt H' f v:=let ⟨b,e,q⟩:=h;⟨b,e,s _ _ q⟩
theorem FAt.write {H:Hp}{f:Flt}{v:V}{p:Addr}{xs:List V}(h:FAt H f v)(e:H p=some (.lst xs))(o:HO):FAt (upd H p o) f v:=by
 obtain ⟨b,rfl,q⟩:=h
 refine ⟨b,rfl,?_⟩
 rw [zai (fun z=>by rw [z,e] at q;cases q)]
 exact q
theorem FAll.mono {H H':Hp}{vs:List V}{fs:List Flt}(h:FAll H vs fs)(s:Same H H'):FAll H' vs fs:=Paired.mapP h fun _ _ z=>z.mono s
theorem FAll.new {H:Hp}{vs:List V}{fs:List Flt}{T:Addr}(h:FAll H vs fs)(e:H T=none)(o:HO):FAll (upd H T o) vs fs:=FAll.mono h (zad e o)
theorem FAll.write {H:Hp}{vs:List V}{fs:List Flt}{p:Addr}{xs:List V}(h:FAll H vs fs)(e:H p=some (.lst xs))(o:HO):FAll (upd H p o) vs fs:=Paired.mapP h fun _ _ z=>z.write e o
theorem FAll.app {H:Hp}{vs us:List V}{fs gs:List Flt}(h:FAll H vs fs)(g:FAll H us gs):FAll H (vs++us) (fs++gs):=by
 unfold FAll at *
 induction h with
 | nil=>exact g
 | cons a _ ih=>exact .cons a ih
theorem FAt.rep {K:PySem.W.Frag}{H:Hp}{f:Flt}{v:V}(h:FAt H f v):Rep K H v (fltD f):=by
 obtain ⟨b,rfl,q⟩:=h
 exact zdG (.of q)
theorem FAll.reps {K:PySem.W.Frag}{H:Hp}:∀ {vs:List V} {fs:List Flt},FAll H vs fs→Reps K H vs (fs.map fltD)
 | _,_,.nil=>.nil
 | _,_,.cons a r=>.cons a.rep (FAll.reps r)
noncomputable def zlU (K:PySem.W.Frag):Sp:=fun vs H Q _=>∃ (x:V) (w:zaq),vs= [x]∧Rep K H x (zbt w)∧WF 20 w∧∀ (r:Addr) (xs:List V) (H':Hp),Same H H'→H r=none→H' r=some (.lst xs)→FAll H' xs (allF w)→Q (.ref r) H'
noncomputable def fkK (f:Flt):List Key:=f.place++ [Sum.inl f.worth]
theorem zkK (f:Flt):(fkK f).map kV=f.place.map kV++ [.int f.worth]:=by unfold fkK;rw [yK];rfl
theorem zid {f g:Flt}(h:fkK f=fkK g):f=g:=by
 unfold fkK at h
 obtain ⟨h1,h2⟩:=List.append_inj' h rfl
 obtain ⟨p,v⟩:=f
 obtain ⟨p',v'⟩:=g
 simp at h1 h2
 rw [h1,h2]
theorem zdY {w:zaq}(wf:WF 20 w):(allF w).length≤400:=by
 have e:=congrArg vI (zpi w)
 rw [yB,← zcP,zhj] at e
 have g1:=zdu wf w.gates.length
 have i6:=wf.i6
 have few:=wf.few
 unfold zbd at e
 rw [yJ,zcH] at e
 omega
theorem zf4:∀ ps:List (List Key),ps.Nodup→(ps.flatMap fun p=>[(⟨p,0⟩:Flt),⟨p,1⟩]).Nodup
 | [],_=>xL
 | p::ps,h=>by
  obtain ⟨h1,h2⟩:=xR.mp h
  rw [vR,jG]
  refine ⟨by simp,zf4 ps h2,fun a ha b hb e=>?_⟩
  subst e
  obtain ⟨q,hq,hb⟩:=wC.mp hb
  have e1:a.place=p:=by
   rcases yR.mp ha with z | z
   ·rw [z]
   ·rw [yE.mp z]
  have e2:a.place=q:=by
   rcases yR.mp hb with z | z
   ·rw [z]
   ·rw [yE.mp z]
  exact h1 (by rw [← e1,e2];exact hq)
theorem zfJ (w:zaq):(allF w).Nodup:=zf4 _ (zlG w)
noncomputable abbrev zfh (H:Hp) (w:zaq):List (List Key×V)→List Flt→Prop:=Paired fun kv f=>kv.1=fkK f∧∃ l,kv.2= .ref l∧H l=some (.lst ((zav w [f]).map V.int))
theorem zfh.mono {H H':Hp}{w:zaq}{kvs:List (List Key×V)}{fs:List Flt}(h:zfh H w kvs fs)(s:Same H H'):zfh H' w kvs fs:=Paired.mapP h fun _ _ ⟨a,l,b,c⟩=>⟨a,l,b,s _ _ c⟩
theorem zfh.put {H:Hp}{w:zaq}{kvs kvs':List (List Key×V)}{fs:List Flt}{d:Addr}(h:zfh H w kvs fs)(e:H d=some (.dT kvs'))(o:HO):zfh (upd H d o) w kvs fs:=
 Paired.mapP h fun _ _ ⟨a,l,b,c⟩=>⟨a,l,b,by rw [zai (fun z=>by rw [z,e] at c;cases c)];exact c⟩
theorem zfh.miss {H:Hp}{w:zaq}{f:Flt}:∀ {kvs:List (List Key×V)} {fs:List Flt},zfh H w kvs fs→f∉fs→valV kvs (fkK f)=none
 | _,_,.nil,_=>rfl
 | _,_,.cons h r,n=>by
  rw [zcl (fun z=>n (by rw [zid (h.1.symm.trans z)];exact .head _))]
  exact zfh.miss r fun z=>n (.tail _ z)
theorem zcJ {α β :Type}{r: α→β→Prop}{xs:List α}{ys:List β}{x: α}{y: β}(h:Paired r xs ys)(q:r x y):Paired r (xs++ [x]) (ys++ [y]):=yac h q
noncomputable def sp_soe (K:PySem.W.Frag):Sp:=fun vs H Q _=>∃ (x:V) (w:zaq),vs= [x]∧Rep K H x (zbt w)∧WF 20 w∧∀ (d:Addr) (kvs:List (List Key×V)) (H':Hp),Same H H'→H d=none→H' d=some (.dT kvs)→zfh H' w kvs (allF w)→Q (.ref d) H'
noncomputable def hitG {S:Type} [DecidableEq S] (sg:Flt→S) (f:Flt):List Flt→Bool
 | []=>false
 | x::_=>decide (sg x=sg f)
noncomputable def putG {S:Type} [DecidableEq S] (sg:Flt→S) (f:Flt):List (List Flt)→List (List Flt)
 | []=>[[f]]
 | g::r=>if hitG sg f g then (g++ [f])::r else g::putG sg f r
noncomputable def zl5 {S:Type} [DecidableEq S] (sg:Flt→S) (right:S) (st:List (List Flt)×List Flt) (f:Flt):List (List Flt)×List Flt:=if sg f=right then (st.1,st.2++ [f]) else (putG sg f st.1,st.2)
noncomputable def grpV {S:Type} [DecidableEq S] (sg:Flt→S) (right:S) (fs:List Flt):List (List Flt)×List Flt:=fs.foldl (zl5 sg right) ([],[])
theorem zcq {S:Type}[DecidableEq S](sg:Flt→S)(right:S)(fs:List Flt)(f:Flt):grpV sg right (fs++ [f])=zl5 sg right (grpV sg right fs) f:=by unfold grpV;rw [xU];rfl
noncomputable def zdg (w:zaq):List (List Flt):=let g:=grpV (fun f=>zav w [f]) (zav w []) (allF w);g.1++ [g.2]
noncomputable def sigK (ns:List Int):List Key:=ns.map Sum.inl
theorem sigK_V (ns:List Int):(sigK ns).map kV=ns.map V.int:=by unfold sigK;rw [kY];rfl
theorem zoq {a b:List Int}(h:sigK a=sigK b):a=b:=by
 unfold sigK at h
 exact wI (fun x y e=>ybf e) |>.mp h
noncomputable abbrev KvG (w:zaq):List (List Key×V)→List (Addr×List Flt)→Prop:=Paired fun kv ag=>kv.2= .ref ag.1∧∃ x r,ag.2=x::r∧kv.1=sigK (zav w [x])
theorem KvG.miss {w:zaq}{f:Flt}:∀ {kvs:List (List Key×V)} {gas:List (Addr×List Flt)},KvG w kvs gas→valV kvs (sigK (zav w [f]))=none→putG (fun f=>zav w [f]) f (gas.map (·.2))=gas.map (·.2)++ [[f]]
 | _,_,.nil,_=>rfl
 | _,_,.cons (a:=kv) (b:=ag) h r,e=>by
  obtain ⟨_,x,rr,e1,e2⟩:=h
  have ne:¬kv.1=sigK (zav w [f]):=fun z=>by rw [zdC z] at e;cases e
  rw [zcl ne] at e
  have n2:zav w [x]≠zav w [f]:=fun z=>ne (by rw [e2,z])
  rw [qQ,e1,List.cons_append]
  show (if hitG _ f (x::rr) then _ else _)=_
  rw [if_neg (by unfold hitG;simpa using n2),KvG.miss r e]
theorem KvG.hit {w:zaq}{f:Flt}{v:V}:∀ {kvs:List (List Key×V)} {gas:List (Addr×List Flt)},KvG w kvs gas→valV kvs (sigK (zav w [f]))=some v→
  ∃ j ag,gas[j]? =some ag∧v= .ref ag.1∧putG (fun f=>zav w [f]) f (gas.map (·.2))=(gas.set j (ag.1,ag.2++ [f])).map (·.2)
 | _,_,.nil,e=>by cases e
 | _,_,.cons (a:=kv) (b:=ag) (l₁ :=kvs) (l₂ :=gas) h r,e=>by
  obtain ⟨e0,x,rr,e1,e2⟩:=h
  by_cases z:kv.1=sigK (zav w [f])
  ·rw [zdC z] at e
   cases e
   refine ⟨0,ag,rfl,e0,?_⟩
   have n2:zav w [x]=zav w [f]:=zoq (e2.symm.trans z)
   rw [List.set_cons_zero,qQ,qQ,e1]
   show (if hitG _ f (x::rr) then _ else _)=_
   rw [if_pos (by unfold hitG;simpa using n2)]
  ·rw [zcl z] at e
   obtain ⟨j,ag',h1,h2,h3⟩:=KvG.hit r e
   have n2:zav w [x]≠zav w [f]:=fun y=>z (by rw [e2,y])
   refine ⟨j+1,ag',h1,h2,?_⟩
   rw [ybW,qQ,qQ,← h3,e1]
   show (if hitG _ f (x::rr) then _ else _)=_
   rw [if_neg (by unfold hitG;simpa using n2)]
theorem KvG.set {w:zaq}{f:Flt}{ag:Addr×List Flt}:∀ {kvs:List (List Key×V)} {gas:List (Addr×List Flt)} {j:Nat},KvG w kvs gas→gas[j]? =some ag→KvG w kvs (gas.set j (ag.1,ag.2++ [f]))
 | _,_,_,.nil,e=>by cases e
 | _,_,0,.cons h r,e=>by
  cases e
  obtain ⟨e0,x,rr,e1,e2⟩:=h
  exact .cons ⟨e0,x,rr++ [f],by rw [e1];rfl,e2⟩ r
 | _,_,j+1,.cons h r,e=>.cons h (KvG.set (j:=j) r e)
theorem KvG.vals {w:zaq}:∀ {kvs:List (List Key×V)} {gas:List (Addr×List Flt)},KvG w kvs gas→kvs.map (·.2)=gas.map fun ag=>V.ref ag.1
 | _,_,.nil=>rfl
 | _,_,.cons h r=>by rw [qQ,qQ,KvG.vals r,h.1]
theorem znI {a b:Addr}{H:Hp}{o u:HO}(ea:H a=some o)(eb:H b=some u):Off [a,b] (hole b (hole a H)) H:=⟨fun c v q=>by
  by_cases z:c=b
  ·rw [z] at q;exact absurd (q.symm.trans (if_pos rfl)) (fun y=>by cases y)
  ·rw [zaR z] at q
   by_cases z2:c=a
   ·rw [z2] at q;exact absurd (q.symm.trans (if_pos rfl)) (fun y=>by cases y)
   ·rw [zaR z2] at q;exact q,fun m hm=>by
  rcases yR.mp hm with z | z
  ·subst z
   by_cases y:m=b
   ·rw [y];exact if_pos rfl
   ·rw [zaR y];exact if_pos rfl
  ·rw [yE.mp z];exact if_pos rfl,fun m hm=>by
  rcases yR.mp hm with z | z
  ·rw [z];exact ⟨_,ea⟩
  ·rw [yE.mp z];exact ⟨_,eb⟩⟩
noncomputable def FAtR (H:Hp) (f:Flt) (v:V):Prop:=∃ b,v= .ref b∧RdT H b (f.place.map kV++ [.int f.worth])
noncomputable abbrev zft (H:Hp):List V→List Flt→Prop:=Paired fun v f=>FAtR H f v
theorem FAtR.mono {H H':Hp}{f:Flt}{v:V}(h:FAtR H f v)(s:Same H H'):FAtR H' f v:=let ⟨b,e,q⟩:=h;⟨b,e,q.same s⟩
theorem FAtR.write {H:Hp}{f:Flt}{v:V}{p:Addr}{xs:List V}(h:FAtR H f v)(e:H p=some (.lst xs))(o:HO):FAtR (upd H p o) f v:=let ⟨b,e1,q⟩:=h;⟨b,e1,q.write e⟩
theorem FAtR.put {H:Hp}{f:Flt}{v:V}{p:Addr}{kvs:List (List Key×V)}(h:FAtR H f v)(e:H p=some (.dT kvs))(o:HO):FAtR (upd H p o) f v:=let ⟨b,e1,q⟩:=h;⟨b,e1,q.put (fun z=>by rcases q with h | ⟨_,h⟩ <;> (rw [z,e] at h;cases h))⟩
theorem zft.mono {H H':Hp}{vs:List V}{fs:List Flt}(h:zft H vs fs)(s:Same H H'):zft H' vs fs:=Paired.mapP h fun _ _ z=>z.mono s
theorem zft.write {H:Hp}{vs:List V}{fs:List Flt}{p:Addr}{xs:List V}(h:zft H vs fs)(e:H p=some (.lst xs))(o:HO):zft (upd H p o) vs fs:=Paired.mapP h fun _ _ z=>z.write e o
theorem zft.put {H:Hp}{vs:List V}{fs:List Flt}{p:Addr}{kvs:List (List Key×V)}(h:zft H vs fs)(e:H p=some (.dT kvs))(o:HO):zft (upd H p o) vs fs:=Paired.mapP h fun _ _ z=>z.put e o
theorem FAtR.rep {K:PySem.W.Frag}{H:Hp}{f:Flt}{v:V}(h:FAtR H f v):Rep K H v (fltD f):=by
 obtain ⟨b,rfl,q⟩:=h
 exact zdG q.tup
theorem zft.reps {K:PySem.W.Frag}{H:Hp}:∀ {vs:List V} {fs:List Flt},zft H vs fs→Reps K H vs (fs.map fltD)
 | _,_,.nil=>.nil
 | _,_,.cons a r=>.cons a.rep (zft.reps r)
noncomputable def GAtR (H:Hp) (ag:Addr×List Flt):Prop:=∃ xs,H ag.1=some (.lst xs)∧zft H xs ag.2
theorem GAtR.mono {H H':Hp}{ag:Addr×List Flt}(h:GAtR H ag)(s:Same H H'):GAtR H' ag:=let ⟨xs,a,b⟩:=h;⟨xs,s _ _ a,b.mono s⟩
theorem GAtR.write {H:Hp}{ag:Addr×List Flt}{p:Addr}{ys:List V}(h:GAtR H ag)(n:ag.1≠p)(e:H p=some (.lst ys))(o:HO):GAtR (upd H p o) ag:=let ⟨xs,a,b⟩:=h;⟨xs,by rw [zai n];exact a,b.write e o⟩
theorem GAtR.put {H:Hp}{ag:Addr×List Flt}{p:Addr}{kvs:List (List Key×V)}(h:GAtR H ag)(e:H p=some (.dT kvs))(o:HO):GAtR (upd H p o) ag:=let ⟨xs,a,b⟩:=h;⟨xs,by rw [zai (fun z=>by rw [z,e] at a;cases a)];exact a,b.put e o⟩
structure GStR (G1:Hp) (nv gd:Addr) (w:zaq) (i:Nat) (H:Hp) (kvs:List (List Key×V)) (gas:List (Addr×List Flt)) (xn:List V):Prop where
 off:Off [nv,gd] G1 H
 en:H nv=some (.lst xn)
 fn:zft H xn (grpV (fun f=>zav w [f]) (zav w []) ((allF w).take i)).2
 eg:H gd=some (.dT kvs)
 kv:KvG w kvs gas
 gs:gas.map (·.2)=(grpV (fun f=>zav w [f]) (zav w []) ((allF w).take i)).1
 each:∀ (j:Nat) ag,gas[j]? =some ag→G1 ag.1=none∧ag.1≠nv∧ag.1≠gd∧GAtR H ag∧ag.2.length≤i
 one:∀ (i j:Nat) a b,gas[i]? =some a→gas[j]? =some b→a.1=b.1→i=j
 l1:gas.length≤i
 l2:xn.length≤i
noncomputable def sp_fgR (K:PySem.W.Frag):Sp:=fun vs H Q _=>∃ (x:V) (w:zaq),vs= [x]∧Rep K H x (zbt w)∧WF 20 w∧∀ (r:Addr) (gas:List (Addr×List Flt)) (H':Hp),Same H H'→H r=none→H' r=some (.lst (gas.map fun ag=>V.ref ag.1))→
 (∀ ag∈gas,H ag.1=none∧ag.1≠r∧GAtR H' ag)→gas.map (·.2)=zdg w→Q (.ref r) H'
noncomputable def zan (w:zaq) (fs:List Flt):List (List Int):=(zaQ w.ins.toNat).map fun row=>zbL w (zaB fs w.gates row w.gates.length)
theorem zpJ {ns:List Int}(b:Bits ns):(if (!inV (.int 0) (ns.map V.int))=true then (1:Int) else 0)=zbs "and" ns:=by
 rw [zgA]
 have e:(!inV (.int 0) (ns.map V.int))=ns.all (· ==1):=by
  unfold inV
  rw [List.any_map,xJ,xH,List.any_eq_false,yZ]
  constructor
  ·intro h n hn
   have:¬((n==(0:Int))=true):=h n hn
   rcases b n hn with e | e
   ·rw [e] at this;exact absurd rfl this
   ·rw [e];rfl
  ·intro h n hn
   have:=h n hn
   show ¬((n==(0:Int))=true)
   rw [eq_of_beq this]
   decide
 rw [e]
theorem int_or {ns:List Int}:(if (inV (.int 1) (ns.map V.int))=true then (1:Int) else 0)=zbs "or" ns:=by
 rw [zkM]
 have e:inV (.int 1) (ns.map V.int)=ns.any (· ==1):=by
  unfold inV
  rw [List.any_map]
  rfl
 rw [e]
theorem zi1 (ns:List Int):(ns.map V.int).all zh8=true:=by
 rw [yb3,yZ]
 exact fun _ _=>rfl
noncomputable def sp_lf (K:PySem.W.Frag):Sp:=fun vs H Q _=>∃ (x:V) (w:zaq),vs= [x]∧Rep K H x (zbt w)∧WF 20 w∧∀ (r:Addr) (xs:List V) (H':Hp),Same H H'→H r=none→H' r=some (.lst xs)→FAll H' xs (allF w)→Q (.ref r) H'
theorem zg9:∀ n,zaQ (n+1)=(zaQ n).flatMap (fun r=>[r++ [0],r++ [1]])
 | 0=>rfl
 | n+1=>by
  have e:∀ (c:Int) (rs:List (List Int)),(rs.map (c:: ·)).flatMap (fun r=>[r++ [0],r++ [1]])=(rs.flatMap (fun r=>[r++ [0],r++ [1]])).map (c:: ·):=fun c rs=>by
   induction rs with
   | nil=>rfl
   | cons r rs ih=>simp only [qQ,vR,yK,ih];rfl
  rw [zaQ,zg9 n]
  conv=>rhs;rw [← zg9 n,zaQ,vX,e,e]
noncomputable def zeD (ps:List (List Key)):List Flt:=ps.flatMap fun p=>[⟨p,0⟩,⟨p,1⟩]
theorem zeP (ps:List (List Key))(p:List Key):zeD (ps++ [p])=zeD ps++ [⟨p,0⟩,⟨p,1⟩]:=by unfold zeD;rw [vX];simp
theorem FAll.two {H:Hp}{xs:List V}{fs:List Flt}{a b:Addr}{p:List Key}(h:FAll H xs fs)(ha:H a=some (.tup (p.map kV++ [.int 0])))(hb:H b=some (.tup (p.map kV++ [.int 1]))):FAll H (xs++ [.ref a,.ref b]) (fs++ [⟨p,0⟩,⟨p,1⟩]):=
 FAll.app h (.cons ⟨a,rfl,ha⟩ (.cons ⟨b,rfl,hb⟩ .nil))
theorem zfV:∀ ps:List (List Key),(zeD ps).length=2 * ps.length
 | []=>rfl
 | p::ps=>by
  have:=zfV ps
  unfold zeD at *
  rw [vR,yJ,this]
  simp only [qY,vW]
  omega
theorem W_in (fs:List Flt)(gs:List (Str×List Int))(row:List Int){i:Nat}(h:i < row.length)(L:Nat):(zaB fs gs row L)[i]? =some (pick fs (zbk i) (row.getD i 0)):=by
 rw [zfk fs gs row (n:=0) (by omega) L (qL _)]
 show (rowS fs row)[i]? =_
 unfold rowS
 rw [qZ,yL,yC h]
 rfl
theorem W_gate (fs:List Flt){gs:List (Str×List Int)}{row:List Int}{k L:Nat}{g:Str×List Int}(hg:gs[k]? =some g)(hk:k < L)(lb:∀ l∈g.2,0≤l∧l < ((row.length+k:Nat):Int)):
  (zaB fs gs row L)[row.length+k]? =some (pick fs (zbk ((row.length+k:Nat):Int)) (zbs g.1 (zb8 fs k (g.2.map fun l=>(zaB fs gs row L).getD l.toNat 0)))):=by
 rw [zfk fs gs row (n:=k+1) (by omega) L (by omega),zaB,hg,qV (by rw [zbx];exact yN _),zbx,ya4]
 have e:(g.2.map fun l=>(zaB fs gs row k).getD l.toNat 0)=g.2.map fun l=>(zaB fs gs row L).getD l.toNat 0:=xC fun l hl=>by
  have:=lb l hl
  rw [yL,yL,zfk fs gs row (i:=l.toNat) (n:=k) (by omega) L (by omega)]
 simp only [List.getElem?_cons_zero,kU]
 rw [← e]
noncomputable def FC (K:PySem.W.Frag) (H:Hp) (w:zaq) (b:Addr) (fs:List Flt):Prop:=(fs= []∧SqT K H b [.str "well"])∨
 (∃ (i0:Nat) (u:Int),fs= [⟨zbk i0,u⟩]∧(u=0∨u=1)∧SqT K H b [.str "wire",.int i0,.int u])∨
 ∃ (g0 p0:Nat) (u:Int) (gt:Str×List Int),fs= [⟨legK g0 p0,u⟩]∧(u=0∨u=1)∧w.gates[g0]? =some gt∧p0 < gt.2.length∧SqT K H b [.str "leg",.int g0,.int p0,.int u]
theorem FC.of {K:PySem.W.Frag}{H:Hp}{w:zaq}{b:Addr}{f:Flt}(gf:zfc w f)(h:H b=some (.tup (f.place.map kV++ [.int f.worth]))):FC K H w b [f]:=by
 obtain ⟨p,u⟩:=f
 rcases zlL gf with ⟨i,_,e⟩ | ⟨g,p',gt,e1,e2,e⟩
 ·cases e
  exact .inr (.inl ⟨i,u,rfl,gf.2,.of h⟩)
 ·cases e
  exact .inr (.inr ⟨g,p',u,gt,rfl,gf.2,e1,e2,.of h⟩)
noncomputable def zc2 (H:Hp) (m:Addr) (rows:List (List Int)):Prop:=∃ xs,H m=some (.lst xs)∧Paired (fun v row=>∃ q,v= .ref q∧H q=some (.lst (row.map V.int))) xs rows
theorem zc2.mono {H H':Hp}{m:Addr}{rows:List (List Int)}(h:zc2 H m rows)(s:Same H H'):zc2 H' m rows:=by
 obtain ⟨xs,a,b⟩:=h
 exact ⟨xs,s _ _ a,Paired.mapP b fun _ _ ⟨q,c,d⟩=>⟨q,c,s _ _ d⟩⟩
theorem zjM {F:Addr}{H H':Hp}{o:HO}(s:Same H H')(e:H F=some o)(o':HO):Same (hole F H) (hole F (upd H' F o')):=fun b v h=>by
 by_cases z:b=F
 ·unfold hole at h
  rw [if_pos z] at h
  cases h
 ·rw [zaR z] at h ⊢
  rw [zai z]
  exact s _ _ h
theorem zgQ (w:zaq)(fs:List Flt):(zan w fs).length=2 ^ w.ins.toNat:=by unfold zan;rw [yB,zbe]
noncomputable def PL (H:Hp) (v:V) (cs:List Nat):Prop:=∃ (l:Addr) (ps:List (Nat×Addr)),v= .ref l∧H l=some (.lst (ps.map fun p=>V.ref p.2))∧ps.map qB=cs∧∀ p∈ps,p.1 < 4∧H p.2=some (zfv p.1)
theorem PL.mono {H H':Hp}{v:V}{cs:List Nat}(h:PL H v cs)(s:Same H H'):PL H' v cs:=by
 obtain ⟨l,ps,a,b,c,d⟩:=h
 exact ⟨l,ps,a,s _ _ b,c,fun p hp=>⟨(d p hp).1,s _ _ (d p hp).2⟩⟩
noncomputable def inP:Option Int→List Nat
 | none=>[0,3]
 | some b=>[zbA b b]
noncomputable def optV:Option Int→V
 | none=>.non
 | some b=>.int b
theorem hpO (c:Nat):zfv c= .tup [.int (hiV c),.int (loV c)]:=rfl
theorem znr:zfv 0= .tup [.int 0,.int 0]:=rfl
theorem znY:zfv 3= .tup [.int 1,.int 1]:=rfl
noncomputable def PLn (H H':Hp) (v:V) (cs:List Nat):Prop:=∃ (l:Addr) (ps:List (Nat×Addr)),v= .ref l∧H l=none∧H' l=some (.lst (ps.map fun p=>V.ref p.2))∧ps.map qB=cs∧∀ p∈ps,p.1 < 4∧H p.2=none∧H' p.2=some (zfv p.1)
noncomputable def sp_ip:Sp:=fun vs H Q _=>∃ (o:Option Int),vs= [optV o]∧(∀ b,o=some b→b=0∨b=1)∧∀ (v:V) (H':Hp),Same H H'→PLn H H' v (inP o)→Q v H'
noncomputable def sp_cp (K:PySem.W.Frag):Sp:=fun vs H Q _=>∃ (k:Str) (l:Addr) (ps:List (Nat×Addr)),vs= [.str k,.ref l]∧H l=some (.lst (ps.map fun p=>V.ref p.2))∧(∀ p∈ps,p.1 < 4∧H p.2=some (zfv p.1))∧zbn k ps.length∧
 ∀ (r:Addr) (H':Hp),Same H H'→H r=none→H' r=some (zfv (zbR k (ps.map qB)))→Q (.ref r) H'
noncomputable def zgp:Option Int→List Nat→List Nat
 | none,cs=>cs
 | some b,cs=>za7 (cs.map fun c=>zbA (hiV c) b)
noncomputable def ze0 (G H H':Hp):Hp:=fun b=>match H b with
 | none=>H' b
 | some _=>G b
theorem zeu {G H H':Hp}{b:Addr}(h:H b=none):ze0 G H H' b=H' b:=by unfold ze0;rw [h]
theorem zcI {G H H':Hp}(f:Same G H):Same G (ze0 G H H'):=fun b o e=>by unfold ze0;rw [f _ _ e];exact e
theorem zdo {M:List Addr}{G H H':Hp}(f:Off M G H)(s:Same H H'):Off M (ze0 G H H') H':=by
 refine ⟨fun b o e=>?_,fun m hm=>?_,fun m hm=>?_⟩
 ·unfold ze0 at e
  cases hb:H b with
  | none=>rw [hb] at e;exact e
  | some u=>rw [hb] at e;exact s _ _ (f.same _ _ e)
 ·obtain ⟨o,e⟩:=f.there m hm
  unfold ze0
  rw [e]
  exact f.out m hm
 ·obtain ⟨o,e⟩:=f.there m hm
  exact ⟨o,s _ _ e⟩
theorem PLn.pl {G H H':Hp}{v:V}{cs:List Nat}(h:PLn H H' v cs):PL (ze0 G H H') v cs:=by
 obtain ⟨l,ps,a,b,c,d,e⟩:=h
 exact ⟨l,ps,a,by rw [zeu b];exact c,d,fun p hp=>⟨(e p hp).1,by rw [zeu (e p hp).2.1];exact (e p hp).2.2⟩⟩
theorem PLn.here {H H':Hp}{v:V}{cs:List Nat}(h:PLn H H' v cs):PL H' v cs:=by
 obtain ⟨l,ps,a,b,c,d,e⟩:=h
 exact ⟨l,ps,a,c,d,fun p hp=>⟨(e p hp).1,(e p hp).2.2⟩⟩
noncomputable def sp_ws:Sp:=fun vs H Q _=>∃ (v:V) (d pl:Addr) (cs:List Nat) (fs:List Flt) (place:List Key),vs= [v,.ref d,.ref pl]∧PL H v cs∧cs.length≤16∧H d=some (.dT (tabV fs))∧H pl=some (.tup (place.map kV))∧(∀ f∈fs,f.worth=0∨f.worth=1)∧
 ∀ (v':V) (H':Hp),Same H H'→(v'=v∧look fs place=none∨PLn H H' v' (zgp (look fs place) cs))→Q v' H'
noncomputable abbrev PLs (H:Hp):List V→List (List Nat)→Prop:=Paired fun x cs=>PL H x cs
theorem PLs.mono {H H':Hp}(s:Same H H'):∀ {xs:List V} {css:List (List Nat)},PLs H xs css→PLs H' xs css
 | _,_,.nil=>.nil
 | _,_,.cons h t=>.cons (PL.mono h s) (PLs.mono s t)
theorem PLs.append {H:Hp}:∀ {xs ys:List V} {as bs:List (List Nat)},PLs H xs as→PLs H ys bs→PLs H (xs++ys) (as++bs)
 | _,_,_,_,.nil,h=>h
 | _,_,_,_,.cons a t,h=>.cons a (PLs.append t h)
theorem PLs.get {H:Hp}:∀ {xs:List V} {css:List (List Nat)} {i:Nat} {x:V},PLs H xs css→xs[i]? =some x→∃ cs,css[i]? =some cs∧PL H x cs
 | _,_,0,_,.cons (b:=c) h _,e=>by cases e;exact ⟨c,rfl,h⟩
 | _,_,i+1,_,.cons _ t,e=>PLs.get (i:=i) t e
theorem PLs.len {H:Hp}{xs:List V}{css:List (List Nat)}(h:PLs H xs css):xs.length=css.length:=qI h
theorem zkh {cs:List Nat}(h:cs.length≤4):∀ rows:List (List Nat),(rows.flatMap fun r=>cs.map fun p=>r++ [p]).length≤rows.length * 4
 | []=>yN _
 | r::rows=>by
  have:=zkh h rows
  rw [vR,yJ,yB,qY]
  omega
theorem zdV:∀ (legs acc:List (List Nat)),(∀ l∈legs,l.length≤4)→(zbq acc legs).length≤acc.length * 4 ^ legs.length
 | [],acc,_=>by show acc.length≤acc.length * 1;omega
 | l::ls,acc,h=>by
  have h1:=zdV ls (acc.flatMap fun r=>l.map fun p=>r++ [p]) fun m hm=>h m (.tail _ hm)
  have h2:=zkh (h l (.head _)) acc
  have h3:=Nat.mul_le_mul_right (4 ^ ls.length) h2
  rw [Nat.mul_assoc,← Nat.pow_succ'] at h3
  exact jB h1 h3
theorem zh6 (acc legs:List (List Nat))(l:List Nat):zbq acc (legs++ [l])=(zbq acc legs).flatMap fun r=>l.map fun p=>r++ [p]:=by
 unfold zbq
 rw [xU]
 rfl
noncomputable def NewR (H:Hp) (y:V):Prop:=∃ l,y= .ref l∧H l=none
noncomputable def sp_ec:Sp:=fun vs H Q _=>∃ (a:Addr) (xs:List V) (css:List (List Nat)),vs= [.ref a]∧H a=some (.lst xs)∧PLs H xs css∧css.length≤4∧(∀ cs∈css,cs.length≤4)∧
 ∀ (R:Addr) (ys:List V) (H':Hp),Same H H'→H R=none→H' R=some (.lst ys)→PLs H' ys (choices css)→(∀ y∈ys,NewR H y)→Q (.ref R) H'
noncomputable def zeS (fs:List Flt) (k:Int) (css:List (List Nat)):List (List Nat):=css.mapIdx fun i cs=>zgp (look fs (legK k i)) cs
theorem zlN (fs:List Flt)(k:Int)(css:List (List Nat))(cs:List Nat):zeS fs k (css++ [cs])=zeS fs k css++ [zgp (look fs (legK k css.length)) cs]:=by
 unfold zeS
 rw [yao]
noncomputable def sp_lp:Sp:=fun vs H Q _=>∃ (d p:Addr) (k:Int) (fs:List Flt) (xs:List V) (css:List (List Nat)),vs= [.ref d,.int k,.ref p]∧H d=some (.dT (tabV fs))∧(∀ f∈fs,f.worth=0∨f.worth=1)∧H p=some (.lst xs)∧PLs H xs css∧css.length≤4∧(∀ cs∈css,cs.length≤4)∧
 ∀ (R:Addr) (ys:List V) (H':Hp),Same H H'→H R=none→H' R=some (.lst ys)→PLs H' ys (zeS fs k css)→Q (.ref R) H'
noncomputable def zo6 (m:Nat):Sp:=fun vs H Q _=>∃ (k:Str) (a:Addr) (xs:List V) (css:List (List Nat)),vs= [.str k,.ref a]∧H a=some (.lst xs)∧PLs H xs css∧zbn k css.length∧(zgj k→css.length≤m)∧(∀ cs∈css,cs.length≤4)∧∀ (v':V) (H':Hp),Same H H'→PLn H H' v' (zgi k css)→Q v' H'
noncomputable def zmt (m:Nat):Sp:=fun vs H Q _=>∃ (k:Str) (a:Addr) (xs:List V) (css:List (List Nat)),vs= [.str k,.ref a]∧H a=some (.lst xs)∧PLs H xs css∧zgj k∧2≤css.length∧css.length≤m∧css.length≤4∧(∀ cs∈css,cs.length≤4)∧∀ (v':V) (H':Hp),Same H H'→PLn H H' v' (zgi k css)→Q v' H'
theorem zlV {k:Str}(h:zgj k){n:Nat}(a: 2≤n)(b:n≤4):zbn k n:=.inl ⟨h,a,b⟩
theorem zph {m:Nat}{vs:List V}{H:Hp}{Q:VK}{E:XK}(h:zmt m vs H Q E):zo6 m vs H Q E:=by
 obtain ⟨k,a,xs,css,e,ha,hx,fk,l2,lm,l4,c4,q⟩:=h
 exact ⟨k,a,xs,css,e,ha,hx,zlV fk l2 l4,fun _=>lm,c4,q⟩
noncomputable def sp_gp:Sp:=fun vs H Q _=>∃ (k:Str) (a:Addr) (xs:List V) (css:List (List Nat)),vs= [.str k,.ref a]∧H a=some (.lst xs)∧PLs H xs css∧zbn k css.length∧(∀ cs∈css,cs.length≤4)∧∀ (v':V) (H':Hp),Same H H'→PLn H H' v' (zgi k css)→Q v' H'
theorem zmL (k:Str):inV (.str k) ((["and","or","odd"]:List Str).map V.str)=true↔zgj k:=by
 unfold inV zgj
 rw [List.any_eq_true]
 constructor
 ·rintro ⟨y,hy,e⟩
  have hy':y= .str "and"∨y= .str "or"∨y= .str "odd" :=by simpa using hy
  rcases hy' with rfl | rfl | rfl
  ·exact .inl (eq_of_beq (show (("and" :Str)==k)=true from e)).symm
  ·exact .inr (.inl (eq_of_beq (show (("or" :Str)==k)=true from e)).symm)
  ·exact .inr (.inr (eq_of_beq (show (("odd" :Str)==k)=true from e)).symm)
 ·rintro (rfl | rfl | rfl)
  ·exact ⟨.str "and",by simp,by decide+kernel⟩
  ·exact ⟨.str "or",by simp,by decide+kernel⟩
  ·exact ⟨.str "odd",by simp,by decide+kernel⟩
theorem PL.codes {H:Hp}{v:V}{cs:List Nat}(h:PL H v cs):zct cs:=by
 obtain ⟨l,ps,_,_,rfl,d⟩:=h
 intro c hc
 obtain ⟨p,hp,rfl⟩:=yY.mp hc
 exact (d p hp).1
theorem PLs.codes {H:Hp}:∀ {xs:List V} {css:List (List Nat)},PLs H xs css→∀ cs∈css,zct cs
 | _,_,.cons h t,cs,hc=>by
  rcases yR.mp hc with rfl | hc
  ·exact PL.codes h
  ·exact PLs.codes t cs hc
theorem PLs.split {H:Hp}:∀ {xs:List V} {as:List (List Nat)} {b:List Nat},PLs H xs (as++ [b])→∃ ys y,xs=ys++ [y]∧PLs H ys as∧PL H y b
 | _,[],_,.cons h .nil=>⟨[],_,rfl,.nil,h⟩
 | _,a::as,_,.cons h t=>by
  obtain ⟨ys,y,rfl,h1,h2⟩:=PLs.split t
  exact ⟨_::ys,y,rfl,.cons h h1,h2⟩
theorem PLn.older {H0 H H':Hp}{v:V}{cs:List Nat}(s:Same H0 H)(h:PLn H H' v cs):PLn H0 H' v cs:=by
 obtain ⟨l,ps,a,b,c,d,e⟩:=h
 exact ⟨l,ps,a,s.free b,c,d,fun p hp=>⟨(e p hp).1,s.free (e p hp).2.1,(e p hp).2.2⟩⟩
theorem zgD {k:Str}{r:List Nat}(hr:zct r)(lk:zbn k r.length):zbR k r < 4:=
 zdj (zcT hr.hi (by rw [yB];exact lk)) (zcT hr.lo (by rw [yB];exact lk))
theorem zdD (cs:List Nat):(za7 cs).length≤4:=by
 unfold za7
 exact jB (xY _ _) (by decide)
theorem PLn.mono {H G G':Hp}{v:V}{cs:List Nat}(h:PLn H G v cs)(s:Same G G'):PLn H G' v cs:=by
 obtain ⟨l,ps,a,b,c,d,e⟩:=h
 exact ⟨l,ps,a,b,s _ _ c,d,fun p hp=>⟨(e p hp).1,(e p hp).2.1,s _ _ (e p hp).2.2⟩⟩
theorem PLn.news {H0 G H H':Hp}{v:V}{cs:List Nat}(s:Same H0 H)(h:PLn H H' v cs):PLn H0 (ze0 G H H') v cs:=by
 obtain ⟨l,ps,a,b,c,d,e⟩:=h
 exact ⟨l,ps,a,s.free b,by rw [zeu b];exact c,d,fun p hp=>⟨(e p hp).1,s.free (e p hp).2.1,by rw [zeu (e p hp).2.1];exact (e p hp).2.2⟩⟩
noncomputable abbrev PLN (H G:Hp):List V→List (List Nat)→Prop:=Paired fun x cs=>PLn H G x cs
theorem PLN.mono {H G G':Hp}(s:Same G G'):∀ {xs:List V} {css:List (List Nat)},PLN H G xs css→PLN H G' xs css
 | _,_,.nil=>.nil
 | _,_,.cons h t=>.cons (PLn.mono h s) (PLN.mono s t)
theorem PLN.append {H G:Hp}:∀ {xs ys:List V} {as bs:List (List Nat)},PLN H G xs as→PLN H G ys bs→PLN H G (xs++ys) (as++bs)
 | _,_,_,_,.nil,h=>h
 | _,_,_,_,.cons a t,h=>.cons a (PLN.append t h)
theorem PLN.get {H G:Hp}:∀ {xs:List V} {css:List (List Nat)} {i:Nat} {x:V},PLN H G xs css→xs[i]? =some x→∃ cs,css[i]? =some cs∧PLn H G x cs
 | _,_,0,_,.cons (b:=c) h _,e=>by cases e;exact ⟨c,rfl,h⟩
 | _,_,i+1,_,.cons _ t,e=>PLN.get (i:=i) t e
theorem PLN.len {H G:Hp}{xs:List V}{css:List (List Nat)}(h:PLN H G xs css):xs.length=css.length:=qI h
theorem PLN.pls {H G:Hp}:∀ {xs:List V} {css:List (List Nat)},PLN H G xs css→PLs G xs css
 | _,_,.nil=>.nil
 | _,_,.cons h t=>.cons (PLn.here h) (PLN.pls t)
theorem PLs.pick {G:Hp}{ys:List V}{css:List (List Nat)}(h:PLs G ys css):∀ {ls:List Int},(∀ l∈ls,0≤l∧l < ys.length)→PLs G (ls.map fun l=>ys.getD l.toNat V.non) (ls.map fun l=>css.getD l.toNat [])
 | [],_=>.nil
 | l::ls,hl=>by
  have b:=hl l (.head _)
  have hy:ys[l.toNat]? =some (ys.getD l.toNat V.non):=by rw [yL,yC (by omega)];rfl
  obtain ⟨cs,hc,hp⟩:=h.get hy
  refine .cons ?_ (PLs.pick h fun z hz=>hl z (.tail _ hz))
  have e:css.getD l.toNat []=cs:=by rw [yL,hc];rfl
  show PL G _ (css.getD l.toNat [])
  rw [e]
  exact hp
noncomputable def rowP (fs:List Flt) (ks:List (Option Int)):List (List Nat):=ks.mapIdx fun i o=>zgp (look fs (zbk i)) (inP o)
theorem zmp (fs:List Flt)(ks:List (Option Int))(o:Option Int):rowP fs (ks++ [o])=rowP fs ks++ [zgp (look fs (zbk ks.length)) (inP o)]:=by unfold rowP;rw [yao]
theorem zlz (fs:List Flt)(ks:List (Option Int)):(rowP fs ks).length=ks.length:=by unfold rowP;rw [wH]
noncomputable def zaZ (fs:List Flt) (gs:List (Str×List Int)) (ks:List (Option Int)):Nat→List (List Nat)
 | 0=>rowP fs ks
 | n+1=>zaZ fs gs ks n++ [zgp (look fs (zbk ((ks.length+n:Nat):Int))) (match gs[n]? with
   | some g=>zgi g.1 (zeS fs n (g.2.map fun l=>(zaZ fs gs ks n).getD l.toNat []))
   | none=>[])]
theorem zex (fs:List Flt)(gs:List (Str×List Int))(ks:List (Option Int)):∀ n,(zaZ fs gs ks n).length=ks.length+n
 | 0=>zlz fs ks
 | n+1=>by rw [zaZ,yJ,zex fs gs ks n];simp;omega
theorem zis {o:Option Int}{cs:List Nat}(h:cs.length≤4):(zgp o cs).length≤4:=by
 cases o with
 | none=>exact h
 | some b=>exact zdD _
theorem zpg (o:Option Int):(inP o).length≤4:=by cases o <;> simp [inP]
theorem zgG (fs:List Flt)(gs:List (Str×List Int))(ks:List (Option Int)):∀ n,∀ cs∈zaZ fs gs ks n,cs.length≤4
 | 0=>fun cs hc=>by
  obtain ⟨i,h,e⟩:=vM.mp (show cs∈ks.mapIdx _ from hc)
  rw [← e]
  exact zis (zpg _)
 | n+1=>fun cs hc=>by
  rw [zaZ] at hc
  rcases yU.mp hc with hc | hc
  ·exact zgG fs gs ks n cs hc
  ·rw [yE.mp hc]
   refine zis ?_
   split
   ·exact zdD _
   ·exact qL _
theorem zjW (fs:List Flt)(k:Int)(css:List (List Nat)):(zeS fs k css).length=css.length:=by unfold zeS;rw [wH]
theorem zos {fs:List Flt}{k:Int}{css:List (List Nat)}(h:∀ cs∈css,cs.length≤4):∀ cs∈zeS fs k css,cs.length≤4:=fun cs hc=>by
 obtain ⟨i,hi,e⟩:=vM.mp (show cs∈css.mapIdx _ from hc)
 rw [← e]
 exact zis (h _ (jC hi))
noncomputable def sp_ep (K:PySem.W.Frag):Sp:=fun vs H Q _=>∃ (x:V) (d p:Addr) (w:zaq) (fs:List Flt) (ks:List (Option Int)),vs= [x,.ref d,.ref p]∧Rep K H x (zbt w)∧WF 20 w∧H d=some (.dT (tabV fs))∧(∀ f∈fs,f.worth=0∨f.worth=1)∧H p=some (.lst (ks.map optV))∧(ks.length:Int)=w.ins∧(∀ o∈ks,∀ b,o=some b→b=0∨b=1)∧
 ∀ (R:Addr) (ys:List V) (H':Hp),Same H H'→H R=none→H' R=some (.lst ys)→PLN H H' ys (zaZ fs w.gates ks w.gates.length)→Q (.ref R) H'
theorem zlk {fs:List Flt}{k:List Key}{b:Int}(fb:∀ f∈fs,f.worth=0∨f.worth=1)(h:look fs k=some b):b=0∨b=1:=by
 unfold look at h
 obtain ⟨f,hf,rfl⟩:=kA.mp h
 exact fb f (wV hf)
theorem bld_of {K:PySem.W.Frag}{H H':Hp}{r:Addr}{xs:List V}{w:zaq}(s:Same H H')(n:H r=none)(e:H' r=some (.lst xs))(fa:FAll H' xs (allF w)):Bld K H r xs (zdO w) H':=by
 refine ⟨⟨hole r H',zem s n,(zcV e).same,if_pos rfl,?_⟩,e⟩
 rw [← zpi]
 exact FAll.reps (Paired.mapP fa fun v f ⟨b,e1,q⟩=>⟨b,e1,by rw [zaR (fun z=>by rw [z,e] at q;cases q)];exact q⟩)
noncomputable def sp_paT (K:PySem.W.Frag):Sp:=fun vs H Q _=>∃ (x y z:V) (w:zaq) (fs gs:List Flt),vs= [x,y,z]∧Rep K H x (zbt w)∧WF 20 w∧Rep K H y (.list (fs.map fltD))∧(∀ f∈fs,zfc w f)∧zdh fs∧fs.length≤1000∧Rep K H z (.list (gs.map fltD))∧(∀ f∈gs,zfc w f)∧zdh gs∧gs.length≤1000∧
 ∀ (v:V) (H':Hp),Same H H'→zjy H H' (zbo w fs gs) v→Q v H'
theorem zhk {fs:List Flt}{key:List Key}{cs:List Nat}(fb:∀ f∈fs,f.worth=0∨f.worth=1)(hc:zct cs){c:Nat}(h:c∈cs):zbA (hiV c) (pick fs key (loV c))∈zgp (look fs key) cs:=by
 unfold pick
 cases e:look fs key with
 | none=>
  show zbA (hiV c) (loV c)∈cs
  rw [zps (hc c h)]
  exact h
 | some v=>
  have hv:=zlk fb e
  show zbA (hiV c) v∈za7 (cs.map fun c=>zbA (hiV c) v)
  rw [zeQ]
  ·exact yY.mpr ⟨c,h,rfl⟩
  ·intro d hd
   obtain ⟨c2,h2,rfl⟩:=yY.mp hd
   exact zdj (zhF (hc c2 h2)) hv
theorem zei (cs:List Nat):zct (za7 cs):=fun c hc=>by
 unfold za7 at hc
 have:=(vU.mp hc).1
 simp at this
 omega
theorem zfO {o:Option Int}{cs:List Nat}(h:zct cs):zct (zgp o cs):=by
 cases o with
 | none=>exact h
 | some b=>exact zei _
theorem zkW {o:Option Int}(h:∀ b,o=some b→b=0∨b=1):zct (inP o):=by
 cases o with
 | none=>
  intro c hc
  have:c=0∨c=3:=by simpa [inP] using hc
  omega
 | some b=>
  intro c hc
  rw [yE.mp hc]
  exact zdj (h b rfl) (h b rfl)
theorem zf6 {fs:List Flt}{gs:List (Str×List Int)}{ks:List (Option Int)}(kb:∀ o∈ks,∀ b,o=some b→b=0∨b=1):∀ n,∀ cs∈zaZ fs gs ks n,zct cs
 | 0=>fun cs hc=>by
  obtain ⟨i,h,e⟩:=vM.mp (show cs∈ks.mapIdx _ from hc)
  rw [← e]
  exact zfO (zkW (kb _ (jC h)))
 | n+1=>fun cs hc=>by
  rw [zaZ] at hc
  rcases yU.mp hc with hc | hc
  ·exact zf6 kb n cs hc
  ·rw [yE.mp hc]
   refine zfO ?_
   split
   ·exact zei _
   ·exact fun _ z=>(qK z).elim
theorem zhT {α :Type}:∀ (ls:List α) (f:Nat→α→Nat) (g:Nat→α→List Nat),(∀ i a,a∈ls→f i a∈g i a)→zbT (ls.mapIdx f) (ls.mapIdx g)
 | [],_,_,_=>.nil
 | a::ls,f,g,h=>by
  rw [yce,yce]
  exact .cons (h 0 a (.head _)) (zhT ls _ _ fun i b hb=>h (i+1) b (.tail _ hb))
theorem zgN {α β γ :Type}(f:Nat→β→γ)(F: α→β)(ls:List α):(ls.map F).mapIdx f=ls.mapIdx fun i a=>f i (F a):=by
 refine jM fun i=>?_
 rw [qZ,qZ,yG]
 cases ls[i]? <;> rfl
theorem zha {α β γ :Type}(f:Nat→α→β)(F: β→γ)(ls:List α):(ls.mapIdx f).map F=ls.mapIdx fun i a=>F (f i a):=by
 refine jM fun i=>?_
 rw [yG,qZ,qZ]
 cases ls[i]? <;> rfl
theorem zjH {α β :Type}(F: α→β)(ls:List α):ls.mapIdx (fun _ a=>F a)=ls.map F:=by
 refine jM fun i=>?_
 rw [qZ,yG]
theorem zeV {α β :Type}{f g:Nat→α→β}{ls:List α}(h:∀ i a,a∈ls→f i a=g i a):ls.mapIdx f=ls.mapIdx g:=by
 refine jM fun i=>?_
 rw [qZ,qZ]
 cases e:ls[i]? with
 | none=>rfl
 | some a=>exact congrArg some (h i a (yH e))
theorem zgZ {α :Type}{xs:List α}{y d: α}{i:Nat}(h:i < xs.length):(xs++ [y]).getD i d=xs.getD i d:=by
 rw [yL,yL,qU h]
theorem zhh {α :Type}{xs:List α}{y d: α}{i:Nat}(h:i=xs.length):(xs++ [y]).getD i d=y:=by
 subst h
 rw [yL,qV (yN _),ya4]
 rfl
noncomputable def zn9 (row:List Int) (ks:List (Option Int)):Prop:=∀ (i:Nat) b,ks[i]? =some (some b)→row[i]? =some b
theorem zeM {fs:List Flt}(fb:∀ f∈fs,f.worth=0∨f.worth=1){m:Nat}{w:zaq}{row:List Int}{ks:List (Option Int)}(wf:WF m w)(hl:(row.length:Int)=w.ins)(lk:ks.length=row.length)(b:Bits row)(kb:∀ o∈ks,∀ b,o=some b→b=0∨b=1)(ag:zn9 row ks):
  ∀ n,n≤w.gates.length→∀ i,i < row.length+n→zbA ((zbZ w.gates row n).getD i 0) ((zaB fs w.gates row n).getD i 0)∈(zaZ fs w.gates ks n).getD i []
 | 0,_,i,hi=>by
  have hi':i < row.length:=hi
  have hk:i < ks.length:=by omega
  have bi:=b _ (jC hi')
  have e1:(zbZ w.gates row 0).getD i 0=row[i]:=by show row.getD i 0=_;rw [yL,yC hi'];rfl
  have e2:(zaB fs w.gates row 0).getD i 0=pick fs (zbk (i:Int)) row[i]:=by
   show (row.mapIdx _).getD i 0=_
   rw [yL,qZ,yC hi']
   rfl
  have e3:(zaZ fs w.gates ks 0).getD i []=zgp (look fs (zbk (i:Int))) (inP ks[i]):=by
   show (ks.mapIdx _).getD i []=_
   rw [yL,qZ,yC hk]
   rfl
  have hm:zbA row[i] row[i]∈inP ks[i]:=by
   cases e:ks[i] with
   | none=>
    show _∈[0,3]
    rcases bi with z | z <;> rw [z] <;> decide
   | some v=>
    have:=ag i v (by rw [yC hk,e])
    rw [yC hi'] at this
    rw [qF this]
    exact yE.mpr rfl
  have z:=zhk (key:=zbk (i:Int)) fb (zkW (kb _ (jC hk))) hm
  rw [zec bi bi,zek bi bi] at z
  rw [e1,e2,e3]
  exact z
 | n+1,hn,i,hi=>by
  have ih:=zeM fb wf hl lk b kb ag n (by omega)
  have l1:=zdi w.gates row n
  have l2:=zbx fs w.gates row n
  have l3:=zex fs w.gates ks n
  rw [zbZ,zaB,zaZ]
  by_cases hlt:i < row.length+n
  ·rw [zgZ (by omega),zgZ (by omega),zgZ (by omega)]
   exact ih i hlt
  have hi':i=row.length+n:=by omega
  obtain ⟨g,hg⟩:∃ g,w.gates[n]? =some g:=⟨_,yC (by omega)⟩
  obtain ⟨lkg,lb⟩:=wf.legs n g hg
  rw [zhh (by omega),zhh (by omega),zhh (by omega),hg,lk]
  have bV:=zdU wf hl b n (by omega)
  have bS:=zb9 fb wf hl b n (by omega)
  have cQ:=zf6 (fs:=fs) (gs:=w.gates) kb n
  have hk:∀ l∈g.2,l.toNat < row.length+n:=fun l hl'=>by have:=lb l hl';omega
  have bv:∀ l∈g.2,(zbZ w.gates row n).getD l.toNat 0=0∨(zbZ w.gates row n).getD l.toNat 0=1:=fun l hl'=>za9 bV (by have:=hk l hl';omega)
  have bs:∀ l∈g.2,(zaB fs w.gates row n).getD l.toNat 0=0∨(zaB fs w.gates row n).getD l.toNat 0=1:=fun l hl'=>za9 bS (by have:=hk l hl';omega)
  have cq:∀ l∈g.2,zct ((zaZ fs w.gates ks n).getD l.toNat []):=fun l hl'=>by
   have h1:l.toNat < (zaZ fs w.gates ks n).length:=by have:=hk l hl';omega
   rw [yL,yC h1]
   exact cQ _ (jC h1)
  have bp:∀ (i:Nat) l,l∈g.2→pick fs (legK (n:Int) (i:Int)) ((zaB fs w.gates row n).getD l.toNat 0)=0∨pick fs (legK (n:Int) (i:Int)) ((zaB fs w.gates row n).getD l.toNat 0)=1:=fun i l hl'=>zgw fb (bs l hl')
  obtain ⟨rl,erl⟩:∃ rl,g.2.mapIdx (fun i l=>zbA ((zbZ w.gates row n).getD l.toNat 0) (pick fs (legK (n:Int) (i:Int)) ((zaB fs w.gates row n).getD l.toNat 0)))=rl:=⟨_,rfl⟩
  have ch:zbT rl (zeS fs n (g.2.map fun l=>(zaZ fs w.gates ks n).getD l.toNat [])):=by
   unfold zeS
   rw [zgN,← erl]
   refine zhT _ _ _ fun i l hl'=>?_
   have z:=zhk (key:=legK (n:Int) (i:Int)) fb (cq l hl') (ih l.toNat (hk l hl'))
   rw [zec (bv l hl') (bs l hl'),zek (bv l hl') (bs l hl')] at z
   exact z
  have h1:rl.map hiV=g.2.map fun l=>(zbZ w.gates row n).getD l.toNat 0:=by
   rw [← erl,zha,← zjH]
   exact zeV fun i l hl'=>zec (bv l hl') (bp i l hl')
  have h2:rl.map loV=zb8 fs n (g.2.map fun l=>(zaB fs w.gates row n).getD l.toNat 0):=by
   unfold zb8
   rw [← erl,zha,zgN]
   exact zeV fun i l hl'=>zek (bv l hl') (bp i l hl')
  have cl:∀ cs∈zeS fs n (g.2.map fun l=>(zaZ fs w.gates ks n).getD l.toNat []),zct cs:=fun cs hc=>by
   obtain ⟨i,hi2,e⟩:=vM.mp (show cs∈(g.2.map _).mapIdx _ from hc)
   rw [← e]
   refine zfO ?_
   obtain ⟨l,hl',e2⟩:=yY.mp (jC hi2)
   rw [← e2]
   exact cq l hl'
  have lkr:∀ r,zbT r (zeS fs n (g.2.map fun l=>(zaZ fs w.gates ks n).getD l.toNat []))→zbn g.1 r.length:=fun r hr=>by
   rw [hr.length,zjW,yB]
   exact lkg
  have hmem:zbA (zbs g.1 (rl.map hiV)) (zbs g.1 (rl.map loV))∈zgi g.1 (zeS fs n (g.2.map fun l=>(zaZ fs w.gates ks n).getD l.toNat [])):=by
   unfold zgi
   rw [zeQ]
   ·exact yY.mpr ⟨rl,zaX.mpr ch,rfl⟩
   ·intro c hc
    obtain ⟨r,hr,rfl⟩:=yY.mp hc
    exact zgD ((zaX.mp hr).codes cl) (lkr r (zaX.mp hr))
  have crl:=ch.codes cl
  have g1:=zcT crl.hi (by rw [yB];exact lkr rl ch)
  have g2:=zcT crl.lo (by rw [yB];exact lkr rl ch)
  have z:=zhk (key:=zbk ((row.length+n:Nat):Int)) fb (zei _) hmem
  rw [zec g1 g2,zek g1 g2,h1,h2] at z
  exact z
theorem zhK {cs:List Nat}(h:cs.length≤1):(za7 cs).length≤1:=by
 match cs,h with
 | [],_=>decide
 | [x],_=>
  unfold za7
  by_cases h0:x=0
  ·subst h0;decide
  by_cases h1:x=1
  ·subst h1;decide
  by_cases h2:x=2
  ·subst h2;decide
  by_cases h3:x=3
  ·subst h3;decide
  rw [List.filter_eq_nil_iff.mpr]
  ·exact qL _
  ·intro y hy z
   rw [jK,yE] at z
   have:y=0∨y=1∨y=2∨y=3:=by simpa using hy
   omega
theorem ziK {o:Option Int}{cs:List Nat}(h:cs.length≤1):(zgp o cs).length≤1:=by
 cases o with
 | none=>exact h
 | some b=>exact zhK (by rw [yB];exact h)
theorem zk0 {cs:List Nat}(h:cs.length≤1):∀ rows:List (List Nat),(rows.flatMap fun r=>cs.map fun p=>r++ [p]).length≤rows.length
 | []=>yN _
 | r::rows=>by
  have:=zk0 h rows
  rw [vR,yJ,yB,qY]
  omega
theorem zg7:∀ (legs acc:List (List Nat)),(∀ l∈legs,l.length≤1)→(zbq acc legs).length≤acc.length
 | [],acc,_=>yN _
 | l::ls,acc,h=>jB (zg7 ls (acc.flatMap fun r=>l.map fun p=>r++ [p]) fun m hm=>h m (.tail _ hm)) (zk0 (h l (.head _)) acc)
theorem zh0 {fs:List Flt}{m:Nat}{w:zaq}{row:List Int}:∀ n,∀ cs∈zaZ fs w.gates (row.map some) n,cs.length≤1
 | 0=>fun cs hc=>by
  obtain ⟨i,h,e⟩:=vM.mp (show cs∈(row.map some).mapIdx _ from hc)
  rw [← e]
  refine ziK ?_
  rw [List.getElem_map]
  exact yN _
 | n+1=>fun cs hc=>by
  rw [zaZ] at hc
  have ih:=zh0 (fs:=fs) (m:=m) (w:=w) (row:=row) n
  rcases yU.mp hc with hc | hc
  ·exact ih cs hc
  ·rw [yE.mp hc]
   refine ziK ?_
   split
   ·refine zhK ?_
    rw [yB]
    refine zg7 _ [[]] fun l hl=>?_
    obtain ⟨i,hi,e⟩:=vM.mp (show l∈List.mapIdx _ _ from hl)
    rw [← e]
    refine ziK ?_
    obtain ⟨l2,hl2,e2⟩:=yY.mp (jC hi)
    rw [← e2,yL]
    cases hz:(zaZ fs w.gates (row.map some) n)[l2.toNat]? with
    | none=>exact qL _
    | some c2=>exact ih c2 (yH hz)
   ·exact qL _
theorem zkg {fs:List Flt}(fb:∀ f∈fs,f.worth=0∨f.worth=1){m:Nat}{w:zaq}{row:List Int}(wf:WF m w)(hl:(row.length:Int)=w.ins)(b:Bits row){i:Nat}(hi:i < row.length+w.gates.length):
  (zaZ fs w.gates (row.map some) w.gates.length).getD i []= [zbA ((zbZ w.gates row w.gates.length).getD i 0) ((zaB fs w.gates row w.gates.length).getD i 0)]:=by
 have h1:=zeM fb wf hl (ks:=row.map some) (by rw [yB]) b (fun o ho v hv=>by obtain ⟨n,hn,rfl⟩:=yY.mp ho;cases hv;exact b _ hn) (fun i v h=>by rw [yG] at h;cases hz:row[i]? with | none=>rw [hz] at h;cases h | some n=>rw [hz] at h;cases h;rfl) w.gates.length (yN _) i hi
 have h2:((zaZ fs w.gates (row.map some) w.gates.length).getD i []).length≤1:=by
  rw [yL]
  cases hz:(zaZ fs w.gates (row.map some) w.gates.length)[i]? with
  | none=>exact qL _
  | some cs=>exact zh0 (m:=m) _ cs (yH hz)
 generalize (zaZ fs w.gates (row.map some) w.gates.length).getD i []=cs at h1 h2
 match cs,h2,h1 with
 | [x],_,h=>rw [yE.mp h]
noncomputable def zjm (w:zaq) (fs:List Flt) (ks:List (Option Int)):Bool:=w.outs.all fun o=>((zaZ fs w.gates ks w.gates.length).getD o.toNat []).all fun c=>decide (hiV c=loV c)
inductive Ppr where
 | same:Ppr
 | split:Int→Ppr→Ppr→Ppr
noncomputable def pprD:Ppr→Dat
 | .same=>.tuple [.str "same"]
 | .split i l h=>.tuple [.str "split",.int i,pprD l,pprD h]
noncomputable def dep:Ppr→Nat
 | .same=>0
 | .split _ l h=>max (dep l) (dep h)+1
theorem dep_l {i:Int}{l h:Ppr}{n:Nat}(z:dep (.split i l h) < n+1):dep l < n:=by
 have z':max (dep l) (dep h)+1 < n+1:=z
 omega
theorem dep_h {i:Int}{l h:Ppr}{n:Nat}(z:dep (.split i l h) < n+1):dep h < n:=by
 have z':max (dep l) (dep h)+1 < n+1:=z
 omega
noncomputable def zcO (w:zaq) (fs:List Flt):List (Option Int)→Ppr→Bool
 | ks,.same=>zjm w fs ks
 | ks,.split i l h=>decide (0≤i∧i < w.ins∧ks.getD i.toNat none=none) && (zcO w fs (ks.set i.toNat (some 0)) l && zcO w fs (ks.set i.toNat (some 1)) h)
noncomputable def ziz (ks:List (Option Int)):Prop:=∀ o∈ks,∀ b,o=some b→b=0∨b=1
theorem ziz.set {ks:List (Option Int)}(h:ziz ks){b:Int}(hb:b=0∨b=1)(i:Nat):ziz (ks.set i (some b)):=fun o ho v hv=>by
 rcases List.mem_or_eq_of_mem_set ho with z | z
 ·exact h o z v hv
 ·rw [z] at hv
  cases hv
  exact hb
theorem znm {a b:Int}(ha:a=0∨a=1)(hb:b=0∨b=1):hiV (zbA a b)=loV (zbA a b)↔a=b:=by
 rw [zec ha hb,zek ha hb]
theorem zgY {fs:List Flt}(fb:∀ f∈fs,f.worth=0∨f.worth=1){m:Nat}{w:zaq}(wf:WF m w){row:List Int}(hl:(row.length:Int)=w.ins)(b:Bits row):∀ (p:Ppr) (ks:List (Option Int)),ks.length=row.length→ziz ks→zn9 row ks→zcO w fs ks p=true→zbL w (zaB fs w.gates row w.gates.length)=zbL w (zbZ w.gates row w.gates.length)
 | .same,ks,lk,kb,ag,h=>by
  unfold zbL
  refine xC fun o ho=>?_
  obtain ⟨o0,o1⟩:=wf.outs o ho
  have hi:o.toNat < row.length+w.gates.length:=by omega
  have z:=zeM fb wf hl lk b kb ag w.gates.length (yN _) o.toNat hi
  have h1:=yZ.mp (yZ.mp (show (w.outs.all _)=true from h) o ho) _ z
  have lV:=zdi w.gates row w.gates.length
  have lS:=zbx fs w.gates row w.gates.length
  have bV:=za9 (zdU wf hl b w.gates.length (yN _)) (i:=o.toNat) (by omega)
  have bS:=za9 (zb9 fb wf hl b w.gates.length (yN _)) (i:=o.toNat) (by omega)
  exact ((znm bV bS).mp (of_decide_eq_true h1)).symm
 | .split i l h2,ks,lk,kb,ag,h=>by
  have h':(decide (0≤i∧i < w.ins∧ks.getD i.toNat none=none) && (zcO w fs (ks.set i.toNat (some 0)) l && zcO w fs (ks.set i.toNat (some 1)) h2))=true:=h
  rw [qM,qM,decide_eq_true_eq] at h'
  obtain ⟨⟨i0,i1,_⟩,hl',hh⟩:=h'
  have hi:i.toNat < row.length:=by omega
  have bi:=b _ (jC hi)
  have ag':∀ v,row[i.toNat]=v→zn9 row (ks.set i.toNat (some v)):=fun v ev j u hj=>by
   rw [vS] at hj
   by_cases e:i.toNat=j
   ·rw [if_pos e] at hj
    subst e
    rw [if_pos (by omega)] at hj
    cases hj
    rw [yC hi,ev]
   ·rw [if_neg e] at hj
    exact ag j u hj
  rcases bi with e | e
  ·exact zgY fb wf hl b l _ (by rw [xZ];exact lk) (kb.set (.inl rfl) _) (ag' 0 e) hl'
  ·exact zgY fb wf hl b h2 _ (by rw [xZ];exact lk) (kb.set (.inr rfl) _) (ag' 1 e) hh
noncomputable def zff:List Int→Ppr
 | []=>.same
 | i::is=>.split i (zff is) (zff is)
theorem zjB {fs:List Flt}(fb:∀ f∈fs,f.worth=0∨f.worth=1){m:Nat}{w:zaq}(wf:WF m w)(never:∀ row:List Int,(row.length:Int)=w.ins→Bits row→zbL w (zaB fs w.gates row w.gates.length)=zbL w (zbZ w.gates row w.gates.length)):
  ∀ (is:List Int) (ks:List (Option Int)),(ks.length:Int)=w.ins→ziz ks→(∀ i∈is,0≤i∧i < w.ins∧ks.getD i.toNat none=none)→is.Nodup→(∀ i:Nat,i < ks.length→ks.getD i none=none→(i:Int)∈is)→zcO w fs ks (zff is)=true
 | [],ks,lk,kb,_,_,al=>by
  have e:ks=(ks.map fun o=>o.getD 0).map some:=by
   refine jM fun i=>?_
   rw [yG,yG]
   cases hz:ks[i]? with
   | none=>rfl
   | some o=>
    cases o with
    | some v=>rfl
    | none=>
     have:=al i (yF.mp hz).1 (by rw [yL,hz];rfl)
     cases this
  have br:Bits (ks.map fun o=>o.getD 0):=fun v hv=>by
   obtain ⟨o,ho,rfl⟩:=yY.mp hv
   cases o with
   | none=>exact .inl rfl
   | some v=>exact kb _ ho v rfl
  have lr:(((ks.map fun o=>o.getD 0).length:Nat):Int)=w.ins:=by rw [yB];exact lk
  generalize (ks.map fun o=>o.getD 0)=row at e br lr
  subst e
  have nv:=never row lr br
  refine yZ.mpr fun o ho=>yZ.mpr fun c hc=>?_
  obtain ⟨o0,o1⟩:=wf.outs o ho
  have hi:o.toNat < row.length+w.gates.length:=by omega
  rw [zkg fb wf lr br hi] at hc
  rw [yE.mp hc]
  have lV:=zdi w.gates row w.gates.length
  have lS:=zbx fs w.gates row w.gates.length
  have bV:=za9 (zdU wf lr br w.gates.length (yN _)) (i:=o.toNat) (by omega)
  have bS:=za9 (zb9 fb wf lr br w.gates.length (yN _)) (i:=o.toNat) (by omega)
  refine decide_eq_true ((znm bV bS).mpr ?_)
  have:=(List.map_inj_left.mp nv) o ho
  exact this.symm
 | i::is,ks,lk,kb,ok,nd,al=>by
  obtain ⟨i0,i1,ik⟩:=ok i (.head _)
  obtain ⟨ni,nd'⟩:=xR.mp nd
  have rest:∀ b:Int,b=0∨b=1→zcO w fs (ks.set i.toNat (some b)) (zff is)=true:=fun b hb=>by
   refine zjB fb wf never is _ (by rw [xZ];exact lk) (kb.set hb _) (fun j hj=>?_) nd' (fun j hj hn=>?_)
   ·obtain ⟨j0,j1,jk⟩:=ok j (.tail _ hj)
    have ne:i.toNat≠j.toNat:=fun e=>ni (by rw [show i=j by omega];exact hj)
    refine ⟨j0,j1,?_⟩
    rw [yL,vG ne,← yL]
    exact jk
   ·rw [xZ] at hj
    by_cases e:i.toNat=j
    ·subst e
     rw [yL,wD hj] at hn
     cases hn
    ·rw [yL,vG e,← yL] at hn
     rcases yR.mp (al j hj hn) with z | z
     ·omega
     ·exact z
  show (decide (0≤i∧i < w.ins∧ks.getD i.toNat none=none) && (zcO w fs (ks.set i.toNat (some 0)) (zff is) && zcO w fs (ks.set i.toNat (some 1)) (zff is)))=true
  rw [rest 0 (.inl rfl),rest 1 (.inr rfl),decide_eq_true ⟨i0,i1,ik⟩]
  rfl
theorem zkV {K:PySem.W.Frag}{H:Hp}{v:V}(h:Rep K H v (pprD .same)):∃ a,v= .ref a∧SqT K H a [.str "same"]:=by
 have h':Rep K H v (.tuple [.str "same"]):=h
 cases h' with
 | tup h r=>
  cases r with
  | cons a b=>
   cases a
   cases b
   exact ⟨_,rfl,h⟩
theorem zjF {K:PySem.W.Frag}{H:Hp}{v:V}{i:Int}{l h:Ppr}(z:Rep K H v (pprD (.split i l h))):∃ a lv hv,v= .ref a∧SqT K H a [.str "split",.int i,lv,hv]∧Rep K H lv (pprD l)∧Rep K H hv (pprD h):=by
 have z':Rep K H v (.tuple [.str "split",.int i,pprD l,pprD h]):=z
 cases z' with
 | tup h r=>
  cases r with
  | cons a b=>
   cases a
   cases b with
   | cons a b=>
    cases a
    cases b with
    | cons c b=>
     cases b with
     | cons d b=>
      cases b
      exact ⟨_,_,_,rfl,h,c,d⟩
theorem zjg (xs:List V){k:Int}(h: 0≤k)(hk:k≤xs.length):cutV xs none (some k)=xs.take k.toNat:=by
 have e1:HT.sIx xs.length 0 none=0:=rfl
 have e2:HT.sIx xs.length xs.length (some k)=k.toNat:=by
  simp only [HT.sIx]
  rw [if_neg (by omega)]
  omega
 unfold cutV
 rw [e1,e2,List.drop_zero,yb1]
theorem zjL (xs:List V){k:Int}(h: 0≤k)(hk:k≤xs.length):cutV xs (some k) none=xs.drop k.toNat:=by
 have e1:HT.sIx xs.length 0 (some k)=k.toNat:=by
  simp only [HT.sIx]
  rw [if_neg (by omega)]
  omega
 have e2:HT.sIx xs.length xs.length none=xs.length:=rfl
 unfold cutV
 rw [e1,e2]
 exact jP (by rw [wB];exact yN _)
theorem zlc (ks:List (Option Int)){i:Int}(h: 0≤i)(hi:i < ks.length)(b:Int):(ks.map optV).take i.toNat++ [V.int b]++(ks.map optV).drop (i+1).toNat=(ks.set i.toNat (some b)).map optV:=by
 rw [show (i+1).toNat=i.toNat+1 by omega,List.set_eq_take_append_cons_drop,if_pos (by omega),yK,qQ,ybS,ybT,xF]
 rfl
theorem zjn:∀ (r:List Int),Bits r→r∈zaQ r.length
 | [],_=>yE.mpr rfl
 | x::r,b=>by
  have ih:=zjn r fun n hn=>b n (.tail _ hn)
  rcases b x (.head _) with rfl | rfl
  ·exact yU.mpr (.inl (yY.mpr ⟨r,ih,rfl⟩))
  ·exact yU.mpr (.inr (yY.mpr ⟨r,ih,rfl⟩))
theorem zj8 {m:Nat}{w:zaq}(wf:WF m w){fs:List Flt}:zbo w fs []=none↔∀ row:List Int,(row.length:Int)=w.ins→Bits row→zbL w (zaB fs w.gates row w.gates.length)=zbL w (zbZ w.gates row w.gates.length):=by
 have i1:=wf.i1
 constructor
 ·intro h row hl b
  have hm:=zjn row b
  rw [show row.length=w.ins.toNat by omega] at hm
  have:=vO.mp h row hm
  rw [← zfW]
  by_cases e:zbL w (zaB fs w.gates row w.gates.length)=zbL w (zaB [] w.gates row w.gates.length)
  ·exact e
  ·exact absurd (decide_eq_true e) this
 ·intro h
  refine zkw fun row hl b=>?_
  rw [zfW]
  exact h row (by omega) b
theorem zlR (row:List Int)(n:Nat):zn9 row (qG n none):=fun i b h=>by
 rw [yan] at h
 split at h
 ·cases qF h
 ·cases h
theorem zlX (n:Nat):ziz (qG n none):=fun o ho b hb=>by
 rw [(yar.mp ho).2] at hb
 cases hb
theorem zkp {fs:List Flt}(fb:∀ f∈fs,f.worth=0∨f.worth=1){m:Nat}{w:zaq}(wf:WF m w){p:Ppr}(h:zcO w fs (qG w.ins.toNat none) p=true):zbo w fs []=none:=by
 have i1:=wf.i1
 refine (zj8 wf).mpr fun row hl b=>zgY fb wf hl b p _ (by rw [vL];omega) (zlX _) (zlR _ _) h
noncomputable def sp_aa:Sp:=fun vs H Q _=>∃ (v:V) (cs:List Nat),vs= [v]∧PL H v cs∧cs.length≤16∧∀ H',Same H H'→Q (.bl (cs.all fun c=>decide (hiV c=loV c))) H'
noncomputable def sp_oal (K:PySem.W.Frag):Sp:=fun vs H Q _=>∃ (x:V) (d p:Addr) (w:zaq) (fs:List Flt) (ks:List (Option Int)),vs= [x,.ref d,.ref p]∧Rep K H x (zbt w)∧WF 20 w∧H d=some (.dT (tabV fs))∧(∀ f∈fs,f.worth=0∨f.worth=1)∧H p=some (.lst (ks.map optV))∧(ks.length:Int)=w.ins∧ziz ks∧
 ∀ H',Same H H'→Q (.bl (zjm w fs ks)) H'
noncomputable def zkY (K:PySem.W.Frag) (n:Nat):Sp:=fun vs H Q _=>∃ (x v:V) (d p:Addr) (w:zaq) (fs:List Flt) (ks:List (Option Int)) (pp:Ppr),vs= [x,.ref d,.ref p,v]∧Rep K H x (zbt w)∧WF 20 w∧H d=some (.dT (tabV fs))∧(∀ f∈fs,f.worth=0∨f.worth=1)∧H p=some (.lst (ks.map optV))∧(ks.length:Int)=w.ins∧ziz ks∧Rep K H v (pprD pp)∧dep pp < n∧
 ∀ H',Same H H'→Q (.bl (zcO w fs ks pp)) H'
noncomputable def sp_ps (K:PySem.W.Frag):Sp:=fun vs H Q _=>∃ (x y v:V) (w:zaq) (fs:List Flt) (pp:Ppr),vs= [x,y,v]∧Rep K H x (zbt w)∧WF 20 w∧Rep K H y (.list (fs.map fltD))∧(∀ f∈fs,zfc w f)∧zdh fs∧fs.length≤1000∧Rep K H v (pprD pp)∧dep pp < 9∧
 ∀ H',Same H H'→Q (.bl (zcO w fs (qG w.ins.toNat none) pp)) H'
noncomputable def pad (n:Nat) (bs:List Int):List (Option Int):=bs.map some++qG n none
theorem zm3 (n:Nat)(bs:List Int):(pad n bs).length=bs.length+n:=by
 unfold pad
 rw [yJ,yB,vL]
theorem zle {n:Nat}{bs:List Int}(b:Bits bs):ziz (pad n bs):=fun o ho v hv=>by
 unfold pad at ho
 rcases yU.mp ho with h | h
 ·obtain ⟨z,hz,rfl⟩:=yY.mp h
  cases hv
  exact b _ hz
 ·rw [(yar.mp h).2] at hv
  cases hv
theorem pad_at (n:Nat)(bs:List Int):(pad (n+1) bs).getD bs.length none=none:=by
 unfold pad
 rw [yL,qV (by rw [yB];exact yN _),yB,ya4]
 rfl
theorem znn (n:Nat)(bs:List Int)(b:Int):(pad (n+1) bs).set bs.length (some b)=pad n (bs++ [b]):=by
 unfold pad
 rw [List.set_append_right _ _ (by rw [yB];exact yN _),yB,ya4,yK,xF]
 rfl
theorem zfC {bs:List Int}{b:Int}(h:Bits bs)(hb:b=0∨b=1):Bits (bs++ [b]):=fun z hz=>by
 rcases yU.mp hz with h' | h'
 ·exact h z h'
 ·rw [yE.mp h']
  exact hb
noncomputable def zbD (w:zaq) (fs:List Flt):Nat→List Int→Ppr
 | 0,_=>.same
 | n+1,bs=>if zjm w fs (pad (n+1) bs)=true then .same else .split bs.length (zbD w fs n (bs++ [0])) (zbD w fs n (bs++ [1]))
theorem zfN (w:zaq)(fs:List Flt):∀ n bs,dep (zbD w fs n bs)≤n
 | 0,_=>yN _
 | n+1,bs=>by
  unfold zbD
  split
  ·exact qL _
  ·have a:=zfN w fs n (bs++ [0])
   have b:=zfN w fs n (bs++ [1])
   show max _ _+1≤_
   omega
theorem zgP {fs:List Flt}(fb:∀ f∈fs,f.worth=0∨f.worth=1){m:Nat}{w:zaq}(wf:WF m w)(nv:zbo w fs []=none){bs:List Int}(b:Bits bs)(hl:(bs.length:Int)=w.ins):zjm w fs (pad 0 bs)=true:=by
 refine zjB fb wf ((zj8 wf).mp nv) [] (pad 0 bs) (by rw [zm3];exact hl) (zle b) (fun _ z=>nomatch z) xL (fun i hi hn=>?_)
 unfold pad at hn hi
 rw [List.replicate_zero,jW] at hn hi
 rw [yB] at hi
 rw [yL,yG,yC hi] at hn
 cases hn
theorem zed {fs:List Flt}(fb:∀ f∈fs,f.worth=0∨f.worth=1){m:Nat}{w:zaq}(wf:WF m w)(nv:zbo w fs []=none):∀ (n:Nat) (bs:List Int),Bits bs→((bs.length+n:Nat):Int)=w.ins→zcO w fs (pad n bs) (zbD w fs n bs)=true
 | 0,bs,b,hl=>zgP fb wf nv b hl
 | n+1,bs,b,hl=>by
  unfold zbD
  by_cases c:zjm w fs (pad (n+1) bs)=true
  ·rw [if_pos c]
   exact c
  ·rw [if_neg c]
   show (decide (0≤(bs.length:Int)∧(bs.length:Int) < w.ins∧(pad (n+1) bs).getD ((bs.length:Int)).toNat none=none) && (zcO w fs ((pad (n+1) bs).set ((bs.length:Int)).toNat (some 0)) _ && zcO w fs ((pad (n+1) bs).set ((bs.length:Int)).toNat (some 1)) _))=true
   rw [jN,pad_at,znn,znn,zed fb wf nv n _ (zfC b (.inl rfl)) (by rw [yJ,yX];omega),zed fb wf nv n _ (zfC b (.inr rfl)) (by rw [yJ,yX];omega),decide_eq_true ⟨by omega,by omega,rfl⟩]
   rfl
theorem zkP (bs:List Int):bs.map V.int=(bs.map some).map optV:=by
 rw [kY]
 rfl
theorem zoF (n:Nat):(qG n [V.non]).flatten=(qG n (none:Option Int)).map optV:=by
 rw [ybX]
 induction n with
 | zero=>rfl
 | succ n ih=>rw [xK,kO,ih,xK];rfl
noncomputable def zlr (K:PySem.W.Frag) (m:Nat):Sp:=fun vs H Q _=>∃ (x:V) (d p:Addr) (w:zaq) (fs:List Flt) (bs:List Int) (n:Nat),vs= [x,.ref d,.ref p]∧Rep K H x (zbt w)∧WF 20 w∧H d=some (.dT (tabV fs))∧(∀ f∈fs,f.worth=0∨f.worth=1)∧zbo w fs []=none∧H p=some (.lst (bs.map V.int))∧Bits bs∧((bs.length+n:Nat):Int)=w.ins∧n < m∧
 ∀ (v:V) (H':Hp),Same H H'→Rep K H' v (pprD (zbD w fs n bs))→Q v H'
noncomputable def ToldAt (K:PySem.W.Frag) (H H':Hp) (w:zaq) (fs:List Flt) (t:Addr):Prop:=
 (zbo w fs []=none∧∃ v,H' t=some (.tup [.str "paper",v])∧Rep K H' v (pprD (zbD w fs w.ins.toNat [])))∨
 ∃ row q,zbo w fs []=some row∧H' t=some (.tup [.str "row",.ref q])∧H q=none∧H' q=some (.lst (row.map V.int))
noncomputable def sp_tt (K:PySem.W.Frag):Sp:=fun vs H Q _=>∃ (x y:V) (w:zaq) (fs:List Flt),vs= [x,y]∧Rep K H x (zbt w)∧WF 20 w∧Rep K H y (.list (fs.map fltD))∧(∀ f∈fs,zfc w f)∧zdh fs∧fs.length≤1000∧
 ∀ (t:Addr) (H':Hp),Same H H'→H t=none→ToldAt K H H' w fs t→Q (.ref t) H'
noncomputable def ziv (K:PySem.W.Frag) (c:Addr):Sp:=fun vs H Q _=>∃ (a:Addr) (ns:List Int),vs= [.ref a]∧SqL K H a (ns.map V.int)∧ns.length≤63∧RdT H c [.str "well"]∧∀ H',Q (.bl true) H'
noncomputable def nmF:Option Flt→List Flt
 | none=>[]
 | some f=>[f]
noncomputable def nmK:Option Flt→List Key
 | none=>[Sum.inr "well"]
 | some f=>fkK f
noncomputable def nmD:Option Flt→Dat
 | none=>.tuple [.str "well"]
 | some f=>fltD f
theorem zpG {a b:Option Flt}(h:nmK a=nmK b):a=b:=by
 have no:∀ f:Flt,fkK f≠[(Sum.inr ("well" :Str):Key)]:=fun f e=>by
  have:=congrArg List.getLast? e
  unfold fkK at this
  rw [List.getLast?_concat] at this
  exact nomatch (qF this)
 cases a with
 | none=>cases b with
  | none=>rfl
  | some g=>exact absurd h.symm (no g)
 | some f=>cases b with
  | none=>exact absurd h (no f)
  | some g=>rw [zid h]
noncomputable abbrev zdp (H:Hp) (w:zaq):List (List Key×V)→List (Option Flt)→Prop:=Paired fun kv nm=>kv.1=nmK nm∧∃ l,kv.2= .ref l∧H l=some (.lst ((zav w (nmF nm)).map V.int))
theorem zdp.mono {H H':Hp}{w:zaq}{kvs:List (List Key×V)}{nms:List (Option Flt)}(h:zdp H w kvs nms)(s:Same H H'):zdp H' w kvs nms:=Paired.mapP h fun _ _ ⟨a,l,b,c⟩=>⟨a,l,b,s _ _ c⟩
theorem zdp.keys {H:Hp}{w:zaq}:∀ {kvs:List (List Key×V)} {nms:List (Option Flt)},zdp H w kvs nms→kvs.map (·.1)=nms.map nmK
 | _,_,.nil=>rfl
 | _,_,.cons h r=>by rw [qQ,qQ,zdp.keys r,h.1]
noncomputable def allN (w:zaq):List (Option Flt):=none::(allF w).map some
theorem zmA (w:zaq):(allN w).Nodup:=by
 refine xR.mpr ⟨fun h=>?_,?_⟩
 ·obtain ⟨_,_,e⟩:=yY.mp h
  cases e
 ·rw [List.Nodup,ybZ]
  exact (zfJ w).imp fun h e=>h (qF e)
theorem znx {nms:List (Option Flt)}(h:nms.Nodup):(nms.map nmK).Nodup:=by
 rw [List.Nodup,ybZ]
 exact h.imp fun n e=>n (zpG e)
theorem zoM {kvs:List (List Key×V)}{k:List Key}(h:k∉kvs.map (·.1)):valV kvs k=none:=by
 induction kvs with
 | nil=>rfl
 | cons p r ih=>
  rw [qQ,yR,not_or] at h
  rw [zcl (fun z=>h.1 z.symm)]
  exact ih h.2
theorem zg4:∀ (more kvs:List (List Key×V)),((kvs++more).map (·.1)).Nodup→zef kvs more=kvs++more
 | [],kvs,_=>by rw [jW];rfl
 | p::r,kvs,h=>by
  have no:p.1∉kvs.map (·.1):=fun z=>by
   rw [yK,jG] at h
   exact h.2.2 _ z _ (.head _) rfl
  show zef (putK kvs p.1 p.2) r=_
  rw [zev _ (zoM no)]
  have e:kvs++ [(p.1,p.2)]++r=kvs++p::r:=by rw [xF];rfl
  rw [zg4 r _ (by rw [e];exact h),e]
noncomputable def numR (row:List Int):Nat:=row.foldl (fun a b=>a * 2+b.toNat) 0
theorem zfw:∀ (row:List Int) (a:Nat),row.foldl (fun a b=>a * 2+b.toNat) a=a * 2 ^ row.length+numR row
 | [],a=>by show a=a * 1+0;omega
 | b::r,a=>by
  have e1:=zfw r (a * 2+b.toNat)
  have e2:=zfw r (0 * 2+b.toNat)
  show r.foldl _ (a * 2+b.toNat)=a * 2 ^ (r.length+1)+r.foldl _ (0 * 2+b.toNat)
  rw [e1,e2,yaE]
  rw [Nat.add_mul,ybF,ybG,Nat.mul_assoc,ybz 2,Nat.add_assoc]
theorem zgr:∀ (row:List Int),Bits row→(zaQ row.length)[numR row]? =some row∧numR row < 2 ^ row.length
 | [],_=>⟨rfl,by decide⟩
 | b::r,h=>by
  obtain ⟨e,l⟩:=zgr r fun x hx=>h x (.tail _ hx)
  have hb:=h b (.head _)
  have en:numR (b::r)=b.toNat * 2 ^ r.length+numR r:=(show numR (b::r)=r.foldl (fun a b=>a * 2+b.toNat) (0 * 2+b.toNat) from rfl).trans (by
   rw [ybF,ybG]
   exact zfw r _)
  have lm:(zaQ r.length).length=2 ^ r.length:=zbe _
  rw [en,qY]
  show ((zaQ r.length).map (0:: ·)++(zaQ r.length).map (1:: ·))[_]? =_∧_
  rcases hb with rfl | rfl
  ·refine ⟨?_,by rw [yaE];show 0 * _+_ < _;omega⟩
   show (_:List (List Int))[0 * 2 ^ r.length+numR r]? =_
   rw [ybF,ybG,qU (by rw [yB,lm];exact l),yG,e]
   rfl
  ·refine ⟨?_,by rw [yaE];show 1 * _+_ < _;omega⟩
   show (_:List (List Int))[1 * 2 ^ r.length+numR r]? =_
   rw [Nat.one_mul,qV (by rw [yB,lm];omega),yB,lm,Nat.add_sub_cancel_left,yG,e]
   rfl
theorem zqb {R:Nat}{u:Int}(h:za2 R u)(j:Nat):qT (u / 2 ^ ((j:Int)).toNat) 1=bitI j u:=by
 have k:=znc h j
 have b:=zfB j u
 obtain ⟨m,e,_⟩:=za6 h
 have e1:qT (u / 2 ^ ((j:Int)).toNat) 1=((m / 2 ^ j % 2:Nat):Int):=by
  rw [e,jN]
  have e3:((m:Int) / 2 ^ j)=((m / 2 ^ j:Nat):Int):=by norm_cast
  rw [e3,show (1:Int)=((1:Nat):Int) from rfl,zh9,ybV]
 rw [e1] at k ⊢
 have m2:m / 2 ^ j % 2 < 2:=Nat.mod_lt _ (by decide)
 rcases b with b | b
 ·rw [b]
  have:¬(m / 2 ^ j % 2=1):=fun z=>by
   have:=k.mp (by rw [z];rfl)
   rw [b] at this
   cases this
  omega
 ·rw [b]
  have:=V.int.inj (k.mpr b)
  exact this
theorem zls:∀ {xs ys:List Int},xs.map Dat.int=ys.map Dat.int→xs=ys
 | [],[],_=>rfl
 | [],_::_,h=>by cases h
 | _::_,[],h=>by cases h
 | x::xs,y::ys,h=>by
  rw [qQ,qQ] at h
  injection h with h1 h2
  injection h1 with h1
  rw [h1,zls h2]
noncomputable def sp_oi:Sp:=fun vs H Q _=>∃ (l:Addr) (xs:List Int) (k R:Nat),vs= [.ref l,.int k]∧H l=some (.lst (xs.map V.int))∧(∀ x∈xs,za2 R x)∧xs.length≤1000∧∀ (r:Addr) (H':Hp),Same H H'→H r=none→H' r=some (.lst ((xs.map (bitI k)).map V.int))→Q (.ref r) H'
noncomputable def sp_rn (K:PySem.W.Frag):Sp:=fun vs H Q _=>∃ (p:Addr) (row:List Int),vs= [.ref p]∧SqL K H p (row.map V.int)∧Bits row∧row.length≤6∧Q (.int (numR row:Nat)) H
noncomputable def fitV (w:zaq) (k:Nat) (said:List Int) (nms:List (Option Flt)):List (Option Flt):=nms.filter fun nm=>decide ((zav w (nmF nm)).map (bitI k)=said)
noncomputable def sp_lbR (K:PySem.W.Frag):Sp:=fun vs H Q _=>∃ (d o:Addr) (w:zaq) (k:Nat) (said:List Int) (kvs:List (List Key×V)) (nms:List (Option Flt)) (G:Hp),vs= [.ref d,.int k,.ref o]∧Off [d] G H∧H d=some (.dT kvs)∧zdp G w kvs nms∧nms.Nodup∧nms.length≤1000∧WF 20 w∧(∀ nm∈nms,∀ f∈nmF nm,f.worth=0∨f.worth=1)∧SqL K G o (said.map V.int)∧
 ∀ (d2:Addr) (ob:Obj) (kvs2:List (List Key×V)) (H':Hp),Same G H'→G d2=none→H' d=some (.frz ob (.dT kvs))→H' d2=some (.dT kvs2)→zdp H' w kvs2 (fitV w k said nms)→Q (.ref d2) H'
noncomputable def sp_lb (K:PySem.W.Frag):Sp:=fun vs H Q _=>∃ (d o:Addr) (w:zaq) (k:Nat) (said:List Int) (kvs:List (List Key×V)) (nms:List (Option Flt)),vs= [.ref d,.int k,.ref o]∧H d=some (.dT kvs)∧zdp H w kvs nms∧nms.Nodup∧nms.length≤1000∧WF 20 w∧(∀ nm∈nms,∀ f∈nmF nm,f.worth=0∨f.worth=1)∧SqL K H o (said.map V.int)∧
 ∀ (d2:Addr) (kvs2:List (List Key×V)) (H':Hp),Same H H'→H d2=none→H' d2=some (.dT kvs2)→zdp H' w kvs2 (fitV w k said nms)→Q (.ref d2) H'
noncomputable def sp_soa (K:PySem.W.Frag) (c:Addr):Sp:=fun vs H Q _=>∃ (x:V) (w:zaq),vs= [x]∧Rep K H x (zbt w)∧WF 20 w∧RdT H c [.str "well"]∧∀ (d:Addr) (kvs:List (List Key×V)) (H':Hp),Same H H'→H d=none→H' d=some (.dT kvs)→zdp H' w kvs (allN w)→Q (.ref d) H'
noncomputable def askD (a:List Int×List Int):Dat:=.tuple [.list (a.1.map Dat.int),.list (a.2.map Dat.int)]
theorem znR {K:PySem.W.Frag}{H:Hp}{v:V}{ns:List Int}(h:Rep K H v (.list (ns.map Dat.int))):∃ p,v= .ref p∧SqL K H p (ns.map V.int):=by
 cases h with
 | lst a r=>rw [zee r] at a;exact ⟨_,rfl,a⟩
theorem zo5 {K:PySem.W.Frag}{H:Hp}{v:V}{a:List Int×List Int}(h:Rep K H v (askD a)):∃ T R S,v= .ref T∧SqT K H T [.ref R,.ref S]∧SqL K H R (a.1.map V.int)∧SqL K H S (a.2.map V.int):=by
 cases h with
 | tup t r=>
  cases r with
  | cons r1 r=>
   cases r with
   | cons r2 r=>
    cases r
    obtain ⟨R,rfl,h1⟩:=znR r1
    obtain ⟨S,rfl,h2⟩:=znR r2
    exact ⟨_,R,S,rfl,t,h1,h2⟩
theorem zll {K:PySem.W.Frag}{H:Hp}:∀ {vs:List V} {ds:List Dat},Reps K H vs ds→∀ (i:Nat) (v:V),vs[i]? =some v→∃ d,ds[i]? =some d∧Rep K H v d
 | _,_,.nil,i,v,h=>by cases i <;> cases h
 | _,_,.cons a _,0,v,h=>by cases h;exact ⟨_,rfl,a⟩
 | _,_,.cons _ r,i+1,v,h=>zll r i v h
noncomputable def zgT (w:zaq) (asked:List (List Int×List Int)) (nms:List (Option Flt)):List (Option Flt):=asked.foldl (fun l a=>fitV w (numR a.1) a.2 l) nms
theorem zkX (w:zaq):∀ (asked:List (List Int×List Int)) (nms:List (Option Flt)),(zgT w asked nms).Sublist nms
 | [],nms=>List.Sublist.refl _
 | a::r,nms=>(zkX w r (fitV w (numR a.1) a.2 nms)).trans List.filter_sublist
noncomputable def zoW (w:zaq) (asked:List (List Int×List Int)):Prop:=∀ a∈asked,(a.1.length:Int)=w.ins∧Bits a.1
theorem zfA {w:zaq}:∀ nm∈allN w,∀ f∈nmF nm,f.worth=0∨f.worth=1:=fun nm h f hf=>by
 rcases yR.mp h with rfl | h
 ·cases hf
 ·obtain ⟨g,hg,rfl⟩:=yY.mp h
  rw [yE.mp hf]
  exact (zbl hg).2
theorem zoY {w:zaq}(wf:WF 20 w):(allN w).length≤500:=by
 have:=zdY wf
 unfold allN
 rw [qY,yB]
 omega
noncomputable def sp_sof (K:PySem.W.Frag) (c:Addr):Sp:=fun vs H Q _=>∃ (x y:V) (w:zaq) (asked:List (List Int×List Int)),vs= [x,y]∧Rep K H x (zbt w)∧WF 20 w∧Rep K H y (.list (asked.map askD))∧zoW w asked∧RdT H c [.str "well"]∧
 ∀ (d:Addr) (kvs:List (List Key×V)) (H':Hp),Same H H'→H d=none→H' d=some (.dT kvs)→zdp H' w kvs (zgT w asked (allN w))→Q (.ref d) H'
noncomputable def sp_wf (K:PySem.W.Frag) (c:Addr):Sp:=fun vs H Q _=>∃ (x y:V) (w:zaq) (asked:List (List Int×List Int)),vs= [x,y]∧Rep K H x (zbt w)∧WF 20 w∧Rep K H y (.list (asked.map askD))∧zoW w asked∧RdT H c [.str "well"]∧
 ∀ (L:Addr) (vs:List V) (H':Hp),Same H H'→H L=none→H' L=some (.lst vs)→Reps K H' vs ((zgT w asked (allN w)).map nmD)→Q (.ref L) H'
theorem nm_rep {K:PySem.W.Frag}{H:Hp}{b:Addr}{nm:Option Flt}(h:RdT H b ((nmK nm).map kV)):Rep K H (.ref b) (nmD nm):=by
 cases nm with
 | none=>exact .tup h.tup (.cons (.str _) .nil)
 | some f=>
  refine zdG ?_
  have h':RdT H b ((fkK f).map kV):=h
  rw [zkK] at h'
  exact h'.tup
theorem zjj {K:PySem.W.Frag}{H H2:Hp}{w:zaq}:∀ {bs:List Addr} {kvs:List (List Key×V)} {nms:List (Option Flt)},Paired (fun b (kv:List Key×V)=>RdT H b (kv.1.map kV)) bs kvs→zdp H2 w kvs nms→Reps K H (bs.map V.ref) (nms.map nmD)
 | _,_,_,.nil,.nil=>.nil
 | _,_,_,.cons a r,.cons b s=>.cons (nm_rep (by rw [← b.1];exact a)) (zjj r s)
theorem zgu:∀ (n i:Nat) (row:List Int),(zaQ n)[i]? =some row→numR row=i
 | 0,i,row,h=>by
  cases i with
  | zero=>cases h;rfl
  | succ i=>cases h
 | n+1,i,row,h=>by
  have e:zaQ (n+1)=(zaQ n).map (0:: ·)++(zaQ n).map (1:: ·):=rfl
  have lm:=zbe n
  have en:∀ (b:Int) (r:List Int),numR (b::r)=b.toNat * 2 ^ r.length+numR r:=fun b r=>(show numR (b::r)=r.foldl (fun a b=>a * 2+b.toNat) (0 * 2+b.toNat) from rfl).trans (by
   rw [ybF,ybG]
   exact zfw r _)
  rw [e] at h
  by_cases hi:i < 2 ^ n
  ·rw [qU (by rw [yB,lm];exact hi),yG] at h
   cases hr:(zaQ n)[i]? with
   | none=>rw [hr] at h;cases h
   | some r=>
    rw [hr] at h
    cases h
    rw [en,zgu n i r hr]
    show 0 * _+i=i
    omega
  ·rw [qV (by rw [yB,lm];omega),yB,lm,yG] at h
   cases hr:(zaQ n)[i - 2 ^ n]? with
   | none=>rw [hr] at h;cases h
   | some r=>
    rw [hr] at h
    cases h
    have lr:=(zb4 n r (yH hr)).1
    rw [en,zgu n _ r hr,lr]
    show 1 * _+(i - 2 ^ n)=i
    omega
noncomputable def fitM (w:zaq) (asked:List (List Int×List Int)) (nm:Option Flt):Bool:=asked.all fun a=>decide ((zan w (nmF nm)).getD (numR a.1) []=a.2)
theorem zoA {w:zaq}{fs:List Flt}{row:List Int}(hl:(row.length:Int)=w.ins)(hb:Bits row):(zan w fs)[numR row]? =some (zbL w (zaB fs w.gates row w.gates.length)):=by
 have e:row.length=w.ins.toNat:=by omega
 have:=(zgr row hb).1
 rw [e] at this
 unfold zan
 rw [yG,this]
 rfl
theorem zn6 {w:zaq}(wf:WF 20 w){nm:Option Flt}(fb:∀ f∈nmF nm,f.worth=0∨f.worth=1){row:List Int}(hl:(row.length:Int)=w.ins)(hb:Bits row):(zav w (nmF nm)).map (bitI (numR row))=(zan w (nmF nm)).getD (numR row) []:=by
 obtain ⟨_,_,h3⟩:=zb2 fb wf
 have e:row.length=w.ins.toNat:=by omega
 have:=(zgr row hb).1
 rw [e] at this
 rw [h3 _ row this,yL,zoA hl hb]
 rfl
theorem zhN {w:zaq}(wf:WF 20 w):∀ (asked:List (List Int×List Int)) (nms:List (Option Flt)),zoW w asked→(∀ nm∈nms,∀ f∈nmF nm,f.worth=0∨f.worth=1)→zgT w asked nms=nms.filter (fitM w asked)
 | [],nms,_,_=>by
  exact (List.filter_eq_self.mpr fun nm _=>rfl).symm
 | a::r,nms,ok,fb=>by
  have h:=ok a (.head _)
  show zgT w r (fitV w (numR a.1) a.2 nms)=_
  rw [zhN wf r (fitV w (numR a.1) a.2 nms) (fun b hb=>ok b (.tail _ hb)) (fun nm hn=>fb nm (vU.mp hn).1)]
  unfold fitV
  rw [List.filter_filter]
  refine kW fun nm hn=>?_
  rw [zn6 wf (fb nm hn) h.1 h.2]
  unfold fitM
  rw [ybO,Bool.and_comm]
theorem atI_in {α :Type}{l:List α}{r:Int}(h0: 0≤r)(h1:r < l.length):∃ c,atI l r=some c∧l[r.toNat]? =some c:=by
 have hj:r.toNat < l.length:=by omega
 refine ⟨l[r.toNat],?_,yC hj⟩
 have:=zb7 (xs:=l) (j:=r.toNat) (yC hj)
 rw [vY h0] at this
 exact this
theorem joinXW {α :Type}{A:Prop}{C: α→Hp→Prop}{st: α→St}{P:St→Hp→Prop}(h:(∀ v H4,C v H4→P (st v) H4)→A)(r:∀ v H4,C v H4→P (st v) H4):A:=h r
theorem zdn {fs gs:List Flt}(fb:∀ f∈fs,f.worth=0∨f.worth=1)(gb:∀ f∈gs,f.worth=0∨f.worth=1){w:zaq}(wf:WF 20 w):zav w fs=zav w gs↔zan w fs=zan w gs:=by
 obtain ⟨f1,f2,f3⟩:=zb2 fb wf
 obtain ⟨g1,g2,g3⟩:=zb2 gb wf
 constructor
 ·intro e
  unfold zan
  refine xC fun row hr=>?_
  obtain ⟨j,hj⟩:=jQ hr
  rw [← f3 j row hj,← g3 j row hj,e]
 ·intro e
  refine jM fun k=>?_
  by_cases hk:k < w.outs.length
  ·have k1:k < (zav w fs).length:=by rw [f2];exact hk
   have k2:k < (zav w gs).length:=by rw [g2];exact hk
   rw [yC k1,yC k2,kU]
   obtain ⟨a,ea,ha⟩:=za6 (f1 _ (jC k1))
   obtain ⟨b,eb,hb⟩:=za6 (g1 _ (jC k2))
   rw [ea,eb,Int.natCast_inj]
   refine Nat.eq_of_testBit_eq fun j=>?_
   by_cases hj:j < 2 ^ w.ins.toNat
   ·have lj:j < (zaQ w.ins.toNat).length:=by rw [zbe];exact hj
    have row:=yC lj
    have em:zbL w (zaB fs w.gates (zaQ w.ins.toNat)[j] w.gates.length)=zbL w (zaB gs w.gates (zaQ w.ins.toNat)[j] w.gates.length):=by
     have:=congrArg (fun l=>l[j]?) e
     unfold zan at this
     simp only [yG,row,yaV,kU] at this
     exact this
    rw [← f3 j _ row,← g3 j _ row] at em
    have:=congrArg (fun l=>l[k]?) em
    simp only [yG,yC k1,yC k2,yaV,kU,ea,eb,za8] at this
    cases c1:a.testBit j <;> cases c2:b.testBit j <;> simp [c1,c2] at this ⊢
   ·have up:∀ {n:Nat},n < 2 ^ 2 ^ w.ins.toNat→n.testBit j=false:=fun {n} h=>yax (qN h (jT (by decide) (by omega)))
    rw [up ha,up hb]
  ·rw [xX (by omega),xX (by omega)]
noncomputable def zmk (w:zaq) (nm:Option Flt):List (Option Flt):=(allN w).filter fun x=>decide (zav w (nmF x)=zav w (nmF nm))
structure zjv (w:zaq) (M:List (List Int)) (asked:List (List Int×List Int)):Prop where
 each:∀ a∈asked,∃ k:Nat,(zaQ w.ins.toNat)[k]? =some a.1∧M[k]? =some a.2
 all:∀ (k:Nat) (row said:List Int),(zaQ w.ins.toNat)[k]? =some row→M[k]? =some said→(row,said)∈asked
theorem zjv.ok {w:zaq}{M:List (List Int)}{asked:List (List Int×List Int)}(wf:WF 20 w)(h:zjv w M asked):zoW w asked:=fun a ha=>by
 obtain ⟨k,h1,_⟩:=h.each a ha
 obtain ⟨lr,br⟩:=zb4 _ _ (yH h1)
 have:=wf.i1
 exact ⟨by omega,br⟩
theorem zqi {w:zaq}{nm x:Option Flt}{asked:List (List Int×List Int)}(h:zjv w (zan w (nmF nm)) asked):fitM w asked x=decide (zan w (nmF x)=zan w (nmF nm)):=by
 unfold fitM
 rw [xJ,yZ,decide_eq_true_iff]
 have lm:=zgQ w (nmF nm)
 have lx:=zgQ w (nmF x)
 constructor
 ·intro z
  refine jM fun k=>?_
  by_cases hk:k < 2 ^ w.ins.toNat
  ·obtain ⟨row,hr⟩:∃ row,(zaQ w.ins.toNat)[k]? =some row:=⟨_,yC (by rw [zbe];exact hk)⟩
   obtain ⟨said,hs⟩:∃ said,(zan w (nmF nm))[k]? =some said:=⟨_,yC (by rw [lm];exact hk)⟩
   obtain ⟨sx,hx⟩:∃ sx,(zan w (nmF x))[k]? =some sx:=⟨_,yC (by rw [lx];exact hk)⟩
   have:=of_decide_eq_true (z _ (h.all k row said hr hs))
   rw [zgu _ _ _ hr,yL,hx] at this
   rw [hx,hs]
   exact congrArg some this
  ·rw [xX (by omega),xX (by omega)]
 ·intro z a ha
  obtain ⟨k,h1,h2⟩:=h.each a ha
  rw [zgu _ _ _ h1,yL,z,h2]
  exact decide_eq_true rfl
theorem znV {w:zaq}(wf:WF 20 w){nm:Option Flt}(hn:nm∈allN w){asked:List (List Int×List Int)}(h:zjv w (zan w (nmF nm)) asked):zgT w asked (allN w)=zmk w nm:=by
 rw [zhN wf asked (allN w) (h.ok wf) zfA]
 unfold zmk
 refine kW fun x hx=>?_
 rw [zqi h]
 have:=zdn (w:=w) (zfA x hx) (zfA nm hn) wf
 rw [xJ,decide_eq_true_iff,decide_eq_true_iff]
 exact this.symm
theorem ok_nm {w:zaq}{nm:Option Flt}(h:nm∈allN w):kqdOk 8 (nmD nm)=true∧kqdOk 7 (nmD nm)=true:=by
 rcases yR.mp h with rfl | h
 ·exact ⟨by decide+kernel,by decide+kernel⟩
 ·obtain ⟨f,hf,rfl⟩:=yY.mp h
  exact ⟨zig 7 (zbl hf),zig 6 (zbl hf)⟩
theorem zo2 {w:zaq}{nms:List (Option Flt)}(h:∀ nm∈nms,nm∈allN w):kqdOk 8 (.list (nms.map nmD))=true:=by
 show (nms.map nmD).all (kqdOk 7)=true
 refine yZ.mpr fun d hd=>?_
 obtain ⟨nm,hn,rfl⟩:=yY.mp hd
 exact (ok_nm (h nm hn)).2
noncomputable def zbf (w:zaq) (fs:List Flt):Dat:=.list ((zan w fs).map rowD)
theorem zlE {S T:Type}[DecidableEq S][DecidableEq T]{s:Flt→S}{t:Flt→T}{A:List Flt}(h:∀ f∈A,∀ g∈A,s f=s g↔t f=t g){f:Flt}(hf:f∈A):∀ {g:List Flt},(∀ x∈g,x∈A)→hitG s f g=hitG t f g
 | [],_=>rfl
 | x::_,hg=>by
  show decide (s x=s f)=decide (t x=t f)
  rw [decide_eq_decide]
  exact h x (hg x (.head _)) f hf
theorem zfZ {S T:Type}[DecidableEq S][DecidableEq T]{s:Flt→S}{t:Flt→T}{A:List Flt}(h:∀ f∈A,∀ g∈A,s f=s g↔t f=t g){f:Flt}(hf:f∈A):∀ {gs:List (List Flt)},(∀ g∈gs,∀ x∈g,x∈A)→putG s f gs=putG t f gs
 | [],_=>rfl
 | g::gs,hg=>by
  show (if hitG s f g then _ else _)=(if hitG t f g then _ else _)
  rw [zlE h hf (hg g (.head _)),zfZ h hf fun g' hg'=>hg g' (.tail _ hg')]
theorem zmr {S:Type}[DecidableEq S]{s:Flt→S}{A:List Flt}{f:Flt}(hf:f∈A):∀ {gs:List (List Flt)},(∀ g∈gs,∀ x∈g,x∈A)→∀ g∈putG s f gs,∀ x∈g,x∈A
 | [],_=>fun g hg x hx=>by
  cases yE.mp hg
  rw [yE.mp hx]
  exact hf
 | g0::gs,h=>fun g hg x hx=>by
  have hg':g∈(if hitG s f g0 then (g0++ [f])::gs else g0::putG s f gs):=hg
  by_cases c:hitG s f g0=true
  ·rw [if_pos c] at hg'
   rcases yR.mp hg' with z | z
   ·rw [z] at hx
    rcases yU.mp hx with y | y
    ·exact h g0 (.head _) x y
    ·rw [yE.mp y];exact hf
   ·exact h g (.tail _ z) x hx
  ·rw [if_neg c] at hg'
   rcases yR.mp hg' with z | z
   ·rw [z] at hx;exact h g0 (.head _) x hx
   ·exact zmr hf (fun g' h'=>h g' (.tail _ h')) g z x hx
theorem zfQ {S T:Type}[DecidableEq S][DecidableEq T]{s:Flt→S}{t:Flt→T}{r:S}{r':T}{A:List Flt}(h:∀ f∈A,∀ g∈A,s f=s g↔t f=t g)(hr:∀ f∈A,s f=r↔t f=r'):
  ∀ i,i≤A.length→grpV s r (A.take i)=grpV t r' (A.take i)∧∀ g∈(grpV s r (A.take i)).1,∀ x∈g,x∈A
 | 0,_=>⟨rfl,fun g hg=>by cases hg⟩
 | i+1,hi=>by
  obtain ⟨e,m⟩:=zfQ h hr i (by omega)
  have ei:=yC (l:=A) (i:=i) (by omega)
  have hm:A[i]∈A:=jC _
  rw [yO,ei]
  show grpV s r (A.take i++ [A[i]])=grpV t r' (A.take i++ [A[i]])∧∀ g∈(grpV s r (A.take i++ [A[i]])).1,∀ x∈g,x∈A
  rw [zcq,zcq,← e]
  unfold zl5
  by_cases c:s A[i]=r
  ·rw [if_pos c,if_pos ((hr _ hm).mp c)]
   exact ⟨rfl,m⟩
  ·rw [if_neg c,if_neg (fun z=>c ((hr _ hm).mpr z)),zfZ h hm m]
   exact ⟨rfl,by rw [← zfZ h hm m];exact zmr hm m⟩
theorem zjS {w:zaq}(wf:WF 20 w):zdg w=(grpV (fun f=>zan w [f]) (zan w []) (allF w)).1++ [(grpV (fun f=>zan w [f]) (zan w []) (allF w)).2]:=by
 have ok:∀ f∈allF w,∀ g∈[f],g.worth=0∨g.worth=1:=fun f hf g hg=>by rw [yE.mp hg];exact (zbl hf).2
 have:=(zfQ (s:=fun f=>zav w [f]) (t:=fun f=>zan w [f]) (r:=zav w []) (r':=zan w []) (A:=allF w) (fun f hf g hg=>zdn (ok f hf) (ok g hg) wf) (fun f hf=>zdn (ok f hf) (gs:=[]) (fun g hg=>by cases hg) wf) (allF w).length (yN _)).1
 rw [yQ] at this
 unfold zdg
 rw [this]
theorem zmP {S:Type}[DecidableEq S]{s:Flt→S}{f:Flt}:∀ {gs:List (List Flt)} {j:Nat} {g:List Flt},gs[j]? =some g→hitG s f g=true→(∀ (i:Nat) g',i < j→gs[i]? =some g'→hitG s f g'=false)→putG s f gs=gs.set j (g++ [f])
 | [],_,_,e,_,_=>by cases e
 | g0::gs,0,g,e,h,_=>by
  cases e
  show (if hitG s f g0 then _ else _)=_
  rw [if_pos h]
  rfl
 | g0::gs,j+1,g,e,h,n=>by
  show (if hitG s f g0 then _ else _)=_
  rw [if_neg (by rw [n 0 g0 (Nat.succ_pos _) rfl];exact yS),zmP (j:=j) e h fun i g' hi hg=>n (i+1) g' (Nat.succ_lt_succ hi) hg]
  rfl
theorem zli {S:Type}[DecidableEq S]{s:Flt→S}{f:Flt}:∀ {gs:List (List Flt)},(∀ (i:Nat) g',gs[i]? =some g'→hitG s f g'=false)→putG s f gs=gs++ [[f]]
 | [],_=>rfl
 | g0::gs,n=>by
  show (if hitG s f g0 then _ else _)=_
  rw [if_neg (by rw [n 0 g0 rfl];exact yS),zli fun i g' hg=>n (i+1) g' hg]
  rfl
theorem zdk {w:zaq}{fs gs:List Flt}(h:zbf w fs=zbf w gs):zan w fs=zan w gs:=by
 unfold zbf at h
 refine wI (fun x y e=>?_) |>.mp (Dat.list.inj h)
 unfold rowD at e
 exact wI (fun x y e=>Dat.int.inj e) |>.mp (Dat.list.inj e)
noncomputable def gD (g:List Flt):Dat:=.list (g.map fltD)
theorem zik {K:PySem.W.Frag}{H:Hp}:∀ {gas:List (Addr×List Flt)},(∀ ag∈gas,Rep K H (.ref ag.1) (gD ag.2))→Reps K H (gas.map fun ag=>V.ref ag.1) ((gas.map (·.2)).map gD)
 | [],_=>.nil
 | ag::gas,h=>.cons (h ag (.head _)) (zik fun bg hb=>h bg (.tail _ hb))
theorem zk1 {α :Type}{v: α}:∀ {xs:List α} {j:Nat},xs[j]? =some v→xs.set j v=xs
 | _::_,0,h=>by cases h;rfl
 | x::xs,j+1,h=>by rw [ybW,zk1 (xs:=xs) (j:=j) h]
theorem zlu {α :Type}{x: α}:∀ {xs:List α},x∈xs→∃ j:Nat,xs[j]? =some x∧∀ i,i < j→xs[i]?≠some x
 | y::xs,h=>by
  by_cases z:y=x
  ·exact ⟨0,by rw [z];rfl,fun i hi=>absurd hi (yas _)⟩
  ·rcases yR.mp h with q | q
   ·exact absurd q.symm z
   ·obtain ⟨j,h1,h2⟩:=zlu q
    refine ⟨j+1,h1,fun i hi e=>?_⟩
    cases i with
    | zero=>exact z (qF e)
    | succ i=>exact h2 i (by omega) e
theorem zkZ {S:Type}[DecidableEq S]{s:Flt→S}{f:Flt}{n:Nat}:∀ {gs:List (List Flt)},(∀ g∈gs,g.length≤n)→(∀ g∈putG s f gs,g.length≤n+1)∧(putG s f gs).length≤gs.length+1
 | [],_=>⟨fun g hg=>by cases yE.mp hg;show 1≤n+1;omega,yN _⟩
 | g0::gs,h=>by
  obtain ⟨h1,h2⟩:=zkZ (s:=s) (f:=f) (gs:=gs) fun g hg=>h g (.tail _ hg)
  have e:putG s f (g0::gs)=if hitG s f g0 then (g0++ [f])::gs else g0::putG s f gs:=rfl
  have l0:=h g0 (.head _)
  rw [e]
  by_cases c:hitG s f g0=true
  ·rw [if_pos c]
   refine ⟨fun g hg=>?_,by simp⟩
   rcases yR.mp hg with z | z
   ·rw [z,yJ,yX];omega
   ·have:=h g (.tail _ z);omega
  ·rw [if_neg c]
   refine ⟨fun g hg=>?_,by simp only [qY];omega⟩
   rcases yR.mp hg with z | z
   ·rw [z];omega
   ·exact h1 g z
theorem zlg {S:Type}[DecidableEq S](s:Flt→S)(r:S)(A:List Flt):∀ i,i≤A.length→(∀ g∈(grpV s r (A.take i)).1,g.length≤i)∧(grpV s r (A.take i)).1.length≤i∧(grpV s r (A.take i)).2.length≤i∧∀ x∈(grpV s r (A.take i)).2,x∈A
 | 0,_=>⟨(fun g hg=>by cases hg),yN _,yN _,(fun x hx=>by cases hx)⟩
 | i+1,hi=>by
  obtain ⟨h1,h2,h3,h4⟩:=zlg s r A i (by omega)
  have ei:=yC (l:=A) (i:=i) (by omega)
  have hm:A[i]∈A:=jC _
  have e:A.take (i+1)=A.take i++ [A[i]]:=by rw [yO,ei];rfl
  rw [e,zcq]
  unfold zl5
  by_cases c:s A[i]=r
  ·rw [if_pos c]
   refine ⟨fun g hg=>vT (h1 g hg),vT h2,by rw [yJ,yX];omega,fun x hx=>?_⟩
   rcases yU.mp hx with z | z
   ·exact h4 x z
   ·rw [yE.mp z];exact hm
  ·rw [if_neg c]
   obtain ⟨p1,p2⟩:=zkZ (s:=s) (f:=A[i]) h1
   exact ⟨p1,jB p2 (Nat.succ_le_succ h2),vT h3,h4⟩
theorem zim {w:zaq}:(zdg w).length≤(allF w).length+1∧∀ g∈zdg w,g.length≤(allF w).length∧∀ x∈g,x∈allF w:=by
 obtain ⟨h1,h2,h3,h4⟩:=zlg (fun f=>zav w [f]) (zav w []) (allF w) _ (yN _)
 have h5:=(zfQ (s:=fun f=>zav w [f]) (t:=fun f=>zav w [f]) (r:=zav w []) (r':=zav w []) (A:=allF w) (fun _ _ _ _=>Iff.rfl) (fun _ _=>Iff.rfl) _ (yN _)).2
 rw [yQ] at h1 h2 h3 h4 h5
 unfold zdg
 refine ⟨by rw [yJ,yX];omega,fun g hg=>?_⟩
 rcases yU.mp hg with z | z
 ·exact ⟨h1 g z,h5 g z⟩
 ·rw [yE.mp z];exact ⟨h3,h4⟩
theorem zjP (w:zaq):kqdOk 8 (.list ((zdg w).map gD))=true:=by
 show ((zdg w).map gD).all (kqdOk 7)=true
 rw [yZ]
 intro d hd
 obtain ⟨g,hg,rfl⟩:=yY.mp hd
 exact zoj (n:=5) fun f hf=>zbl ((zim.2 g hg).2 f hf)
noncomputable def sp_st5:Sp:=fun vs H Q _=>∃ (c k:Int),vs= [.int c,.int k]∧0≤k∧k≤1000∧∀ r:Int,0≤r→Q (.int r) H
noncomputable def sp_di5:Sp:=fun vs H Q _=>∃ (c k m:Int),vs= [.int c,.int k,.int m]∧0≤k∧k≤1000∧0 < m∧∀ r:Int,0≤r→r < m→Q (.int r) H
theorem zfR {n:Int}(h: 0≤n∧n < 2 ^ 600):qS n≤2 ^ 20:=zit (k:=600) (by decide) (by omega) (by omega)
noncomputable def sp_gt5:Sp:=fun vs H Q _=>∃ (c wires:Int),vs= [.int c,.int wires]∧1≤wires∧wires < 1073741824∧
 ∀ (r la:Addr) (x:Str) (ls:List Int) (H':Hp),Same H H'→H r=none→H la=none→H' r=some (.tup [.str x,.ref la])→H' la=some (.tup (ls.map V.int))→zbn x ls.length→(∀ l∈ls,0≤l∧l < wires)→Q (.ref r) H'
theorem manyD {x:Str}(k:zmu x){m:Int}(h0: 2≤m∧m≤4):∃ n:Nat,(valV (zfi [] [(Sum.inr "not",V.int 1),(Sum.inr "choose",.int 3),(Sum.inr "zero",.int 0),(Sum.inr "one",.int 0)]:List (Key×V)) (Sum.inr x)).getD (.int m)= .int (n:Int)∧zbn x n:=by
 unfold zbn
 rcases k with rfl | rfl | rfl | rfl | rfl | rfl | rfl
 ·exact ⟨m.toNat,by rw [vY (by omega)];rfl,.inl ⟨.inl rfl,by omega,by omega⟩⟩
 ·exact ⟨m.toNat,by rw [vY (by omega)];rfl,.inl ⟨.inr (.inl rfl),by omega,by omega⟩⟩
 ·exact ⟨m.toNat,by rw [vY (by omega)];rfl,.inl ⟨.inr (.inr rfl),by omega,by omega⟩⟩
 ·exact ⟨1,rfl,.inr (.inl ⟨rfl,rfl⟩)⟩
 ·exact ⟨3,rfl,.inr (.inr (.inl ⟨rfl,rfl⟩))⟩
 ·exact ⟨0,rfl,.inr (.inr (.inr ⟨.inl rfl,rfl⟩))⟩
 ·exact ⟨0,rfl,.inr (.inr (.inr ⟨.inr rfl,rfl⟩))⟩
theorem kinds5 {c:Int}(h0: 0≤c)(h1:c < 10):∃ x,atI [V.str "and",V.str "or",V.str "odd",V.str "not",V.str "choose",V.str "and",V.str "or",V.str "zero",V.str "one",V.str "odd"] c=some (.str x)∧zmu x:=by
 have:c=0∨c=1∨c=2∨c=3∨c=4∨c=5∨c=6∨c=7∨c=8∨c=9:=by omega
 unfold zmu
 rcases this with rfl | rfl | rfl | rfl | rfl | rfl | rfl | rfl | rfl | rfl
 ·exact ⟨_,rfl,.inl rfl⟩
 ·exact ⟨_,rfl,.inr (.inl rfl)⟩
 ·exact ⟨_,rfl,.inr (.inr (.inl rfl))⟩
 ·exact ⟨_,rfl,.inr (.inr (.inr (.inl rfl)))⟩
 ·exact ⟨_,rfl,.inr (.inr (.inr (.inr (.inl rfl))))⟩
 ·exact ⟨_,rfl,.inl rfl⟩
 ·exact ⟨_,rfl,.inr (.inl rfl)⟩
 ·exact ⟨_,rfl,.inr (.inr (.inr (.inr (.inr (.inl rfl)))))⟩
 ·exact ⟨_,rfl,.inr (.inr (.inr (.inr (.inr (.inr rfl)))))⟩
 ·exact ⟨_,rfl,.inr (.inr (.inl rfl))⟩
noncomputable def sp_wk5 (K:PySem.W.Frag):Sp:=fun vs H Q _=>∃ (a:Addr) (ns:List Int) (mi mg:Nat),vs= [.ref a,.int mi,.int mg]∧SqL K H a (ns.map V.int)∧1≤mi∧mi≤6∧mg≤20∧
 ∀ (r:Addr) (w:zaq) (H':Hp),Same H H'→Rep K H' (.ref r) (zbt w)→WF 20 w→w.ins≤mi→Q (.ref r) H'
noncomputable def sp_lg5:Sp:=fun vs H Q _=>∃ (R:Addr) (qs:List Addr) (rs:List (List Int)),vs= [.ref R]∧H R=some (.lst (qs.map V.ref))∧At H qs rs∧rs.length≤64∧(∀ r∈rs,r.length≤10)∧
 ∀ (R':Addr) (ps:List Addr) (H':Hp),Same H H'→H' R'=some (.lst (ps.map V.ref))→At H' ps (rs.flatMap (fun r=>[r++ [0],r++ [1]]))→Q (.ref R') H'
theorem zlb:∀ rs:List (List Int),(rs.flatMap (fun r=>[r++ [0],r++ [1]])).length=2 * rs.length
 | []=>rfl
 | r::rs=>by
  have:=zlb rs
  simp only [vR,yJ,qY,vW,this]
  omega
noncomputable def FL (H:Hp) (w:zaq) (F:Addr) (fs:List Flt):Prop:=(fs= []∧H F=some (.lst []))∨∃ (b:Addr) (f:Flt),fs= [f]∧zfc w f∧H F=some (.lst [.ref b])∧H b=some (.tup (f.place.map kV++ [.int f.worth]))
theorem FL.bits {H:Hp}{w:zaq}{F:Addr}{fs:List Flt}(h:FL H w F fs):∀ f∈fs,f.worth=0∨f.worth=1:=by
 rcases h with ⟨e,_⟩ | ⟨b,f,e,g,_⟩ <;> subst e <;> intro x hx
 ·cases hx
 ·rw [yE.mp hx];exact g.2
noncomputable def zpT (K:PySem.W.Frag):Sp:=fun vs H Q _=>∃ (x:V) (F p:Addr) (w:zaq) (fs:List Flt) (row:List Int),vs= [x,.ref F,.ref p]∧Rep K H x (zbt w)∧WF 20 w∧FL H w F fs∧SqL K H p (row.map V.int)∧(row.length:Int)=w.ins∧Bits row∧
 ∀ (r:Addr) (H':Hp),Same H H'→H r=none→H' r=some (.lst ((zbL w (zaB fs w.gates row w.gates.length)).map V.int))→Q (.ref r) H'
theorem zcd {K:PySem.W.Frag}{H:Hp}{m:Addr}{w:zaq}{fs:List Flt}(h:zc2 H m (zan w fs)):Rep K H (.ref m) (zbf w fs):=by
 obtain ⟨xs,a,b⟩:=h
 have:∀ {xs:List V} {rs:List (List Int)},Paired (fun v row=>∃ q,v= .ref q∧H q=some (.lst (row.map V.int))) xs rs→Reps K H xs (rs.map rowD):=by
  intro xs rs p
  induction p with
  | nil=>exact .nil
  | cons a _ ih=>
   obtain ⟨q,rfl,e⟩:=a
   exact .cons (.lst (.of e) (Reps.ints _)) ih
 exact .lst (.of a) (this b)
noncomputable def MkD (H:Hp) (w:zaq) (kvs:List (List Key×V)):Prop:=∀ f∈allF w,∃ m,valV kvs (fkK f)=some (.ref m)∧zc2 H m (zan w [f])
noncomputable abbrev MkP (H:Hp) (w:zaq):List (List Key×V)→List Flt→Prop:=Paired fun kv f=>kv.1=fkK f∧∃ m,kv.2= .ref m∧zc2 H m (zan w [f])
theorem MkP.hit {H:Hp}{w:zaq}:∀ {kvs:List (List Key×V)} {fs:List Flt},MkP H w kvs fs→∀ f∈fs,∃ m,valV kvs (fkK f)=some (.ref m)∧zc2 H m (zan w [f])
 | _,_,.nil,_,h=>nomatch h
 | _,_,.cons (b:=g) ⟨e,m,em,a⟩ r,f,h=>by
  by_cases z:g=f
  ·subst z
   exact ⟨m,by rw [zdC e,em],a⟩
  ·rw [zcl (fun y=>z (zid (e.symm.trans y)))]
   rcases yR.mp h with q | q
   ·exact absurd q.symm z
   ·exact MkP.hit r f q
theorem MkP.miss {H:Hp}{w:zaq}{f:Flt}:∀ {kvs:List (List Key×V)} {fs:List Flt},MkP H w kvs fs→f∉fs→valV kvs (fkK f)=none
 | _,_,.nil,_=>rfl
 | _,_,.cons ⟨e,_⟩ r,n=>by
  rw [zcl (fun z=>n (by rw [zid (e.symm.trans z)];exact .head _))]
  exact MkP.miss r fun z=>n (.tail _ z)
theorem zpk {K:PySem.W.Frag}{H H':Hp}{A a:Addr}{xs ys:List V}(s:ziG A H H')(hA:H A=some (.lst xs))(h:SqT K H a ys):SqT K H' a ys:=by
 rcases h with h | h
 ·rcases h with h | ⟨o,h⟩
  ·exact .inl (.inl (s _ _ (fun z=>by rw [z,hA] at h;cases h) h))
  ·exact .inl (.inr ⟨o,s _ _ (fun z=>by rw [z,hA] at h;cases h) h⟩)
 ·exact .inr h
theorem zlB {K:PySem.W.Frag}{H H':Hp}{A:Addr}{xs:List V}(s:ziG A H H')(hA:H A=some (.lst xs)):∀ {pp:Ppr} {v:V},Rep K H v (pprD pp)→Rep K H' v (pprD pp)
 | .same,v,h=>by
  obtain ⟨a,rfl,e⟩:=zkV h
  exact .tup (zpk s hA e) (.cons (.str _) .nil)
 | .split i l r,v,h=>by
  obtain ⟨a,lv,hv,rfl,e,rl,rh⟩:=zjF h
  exact .tup (zpk s hA e) (.cons (.str _) (.cons (.int _) (.cons (zlB s hA rl) (.cons (zlB s hA rh) .nil))))
theorem znf {H:Hp}{m d:Addr}{ms:List (List Int)}{kvs:List (List Key×V)}(h:zc2 H m ms)(e:H d=some (.dT kvs)):zc2 (hole d H) m ms:=by
 obtain ⟨xs,a,b⟩:=h
 exact ⟨xs,by rw [zaR (fun z=>by rw [z,e] at a;cases a)];exact a,Paired.mapP b fun _ _ ⟨q,c,f⟩=>⟨q,c,by rw [zaR (fun z=>by rw [z,e] at f;cases f)];exact f⟩⟩
theorem zg5 {w:zaq}{fs:List Flt}{i:Nat}{row:List Int}(hrow:(zaQ w.ins.toNat)[i]? =some row):(zan w fs).take (i+1)=(zan w fs).take i++ [zbL w (zaB fs w.gates row w.gates.length)]:=by
 unfold zan
 rw [yO,yG,hrow]
 rfl
theorem znH {w:zaq}(wf:WF 20 w): 0 < (allF w).length:=by
 have h1:=zfV (zbF w)
 have e2:zeD (zbF w)=allF w:=rfl
 rw [e2] at h1
 have h2: 0 < (zbF w).length:=by
  unfold zbF
  have:=zhJ (w.ins.toNat+w.gates.length)
  have:=wf.i1
  rw [yJ]
  omega
 omega
noncomputable def optD:Option (List Int)→Dat
 | none=>.none
 | some row=>rowD row
theorem ziU {K:PySem.W.Frag}{H:Hp}{o:Option (List Int)}{v:V}(h:zkH H o v):Rep K H v (optD o):=by
 cases o with
 | none=>rw [show v= .non from h];exact .non
 | some row=>
  obtain ⟨q,rfl,e⟩:=h
  exact .lst (.of e) (Reps.ints _)
theorem zkT {H H':Hp}{o:Option (List Int)}{v:V}(h:zjy H H' o v):zkH H' o v:=by
 cases o with
 | none=>exact h
 | some row=>obtain ⟨q,a,_,b⟩:=h;exact ⟨q,a,b⟩
theorem zk3 (o:Option (List Int)):kqdOk 8 (optD o)=true:=by
 cases o with
 | none=>rfl
 | some row=>exact zdy row
theorem zhE (f:Flt):zdh [f]:=by unfold zdh;simp
theorem same9 {w:zaq}(wf:WF 20 w){f0:Flt}(h0:f0∈allF w):zmk w (some f0)=(if zan w [f0]=zan w [] then [none] else [])++((allF w).filter fun f=>decide (zan w [f]=zan w [f0])).map some:=by
 have b:∀ f∈allF w,∀ g∈[f],g.worth=0∨g.worth=1:=fun f hf g hg=>by rw [yE.mp hg];exact (zbl hf).2
 have sm0:=zdn (w:=w) (fs:=[]) (gs:=[f0]) (fun _ h=>nomatch h) (b f0 h0) wf
 have tl:((allF w).map some).filter (fun x=>decide (zav w (nmF x)=zav w (nmF (some f0))))=((allF w).filter fun f=>decide (zan w [f]=zan w [f0])).map some:=by
  rw [List.filter_map]
  congr 1
  refine kW fun f hf=>?_
  show decide (zav w [f]=zav w [f0])=_
  exact decide_eq_decide.mpr (zdn (b f hf) (b f0 h0) wf)
 unfold zmk allN
 by_cases c:zan w [f0]=zan w []
 ·rw [if_pos c,ycf,if_pos (show decide (zav w (nmF none)=zav w (nmF (some f0)))=true from decide_eq_true (sm0.mpr c.symm)),tl]
  rfl
 ·rw [if_neg c,ycf,if_neg (show ¬decide (zav w (nmF none)=zav w (nmF (some f0)))=true from fun z=>c (sm0.mp (of_decide_eq_true z)).symm),tl]
  rfl
theorem zmB (row:List Int):kqdOk 8 (.tuple [.str "row",rowD row])=true:=by
 show (yb0 (kH "row") && (((row.map Dat.int).all (kqdOk 6)) && true))=true
 rw [zkJ]
 decide+kernel
theorem zmS (xs:List V):cutV xs none (some 3)=xs.take 3:=by
 unfold cutV
 have e:HT.sIx xs.length 0 none=0:=rfl
 have e2:HT.sIx xs.length xs.length (some 3)=min 3 xs.length:=by
  unfold HT.sIx
  simp
 rw [e,e2,List.drop_zero,yb1]
 by_cases h: 3≤xs.length
 ·rw [Nat.min_eq_left h]
 ·rw [Nat.min_eq_right (by omega),yQ,jP (by omega)]
theorem zkn {w:zaq}{f:Flt}(h:zbo w [f] []=none):zan w [f]=zan w []:=by
 unfold zbo at h
 rw [vO] at h
 unfold zan
 refine xC fun row hrow=>?_
 have:=h row hrow
 simpa using this
noncomputable def zqj:Sp:=fun vs H Q _=>∃ (R A B:Addr) (qs:List Addr) (w:zaq) (fs gs:List Flt),vs= [.ref R,.ref A,.ref B]∧H R=some (.lst (qs.map V.ref))∧At H qs (zaQ w.ins.toNat)∧zc2 H A (zan w fs)∧zc2 H B (zan w gs)∧WF 20 w∧∀ v,zkH H (zbo w fs gs) v→Q v H
noncomputable def zpo (K:PySem.W.Frag):Sp:=fun vs H Q _=>∃ (fl d rt:Addr) (xs:List V) (kvs:List (List Key×V)) (w:zaq),vs= [.ref fl,.ref d,.ref rt]∧H fl=some (.lst xs)∧FAll H xs (allF w)∧H d=some (.dT kvs)∧MkD H w kvs∧zc2 H rt (zan w [])∧WF 20 w∧
 ∀ (r:Addr) (H':Hp),Same H H'→Rep K H' (.ref r) (.list ((zdg w).map gD))→Q (.ref r) H'
theorem zjR {S:Type}[DecidableEq S](s:Flt→S)(r:S):∀ (n:Nat) (A:List Flt),A.length=n→(grpV s r A).2=A.filter fun f=>decide (s f=r)
 | 0,A,h=>by rw [vA.mp h];rfl
 | n+1,A,h=>by
  obtain ⟨B,f,rfl⟩:∃ B f,A=B++ [f]:=⟨A.dropLast,A.getLast (fun z=>by rw [z] at h;cases h),(yaR _).symm⟩
  rw [yJ] at h
  rw [zcq,vF]
  have ih:=zjR s r n B (by simpa using h)
  by_cases c:s f=r
  ·rw [show zl5 s r (grpV s r B) f=((grpV s r B).1,(grpV s r B).2++ [f]) from if_pos c,ih,vD (by simpa using c)]
   rfl
  ·rw [show zl5 s r (grpV s r B) f=(putG s f (grpV s r B).1,(grpV s r B).2) from if_neg c,ih,vC (by simpa using c),yat,jW]
structure D9 (K:PySem.W.Frag) (G:Hp) (mk gp:Addr) (w:zaq) (i:Nat) (H:Hp) (ms:List V) (ds:List Dat) (gas:List (Addr×List Flt)):Prop where
 off:Off [mk,gp] G H
 em:H mk=some (.lst ms)
 fm:Reps K G ms ds
 ld:ds.length=gas.length
 hd:∀ (j:Nat) ag,gas[j]? =some ag→∃ x,ds[j]? =some (zbf w [x])∧∀ y r,ag.2=y::r→y=x
 ep:H gp=some (.lst (gas.map fun ag=>V.ref ag.1))
 each:∀ (j:Nat) ag,gas[j]? =some ag→G ag.1=none∧ag.1≠mk∧ag.1≠gp∧(∃ xs,H ag.1=some (.lst xs)∧Reps K G xs (ag.2.map fltD))∧ag.2.length≤i
 one:∀ (i j:Nat) a b,gas[i]? =some a→gas[j]? =some b→a.1=b.1→i=j
 l1:gas.length≤i+1
section
variable {P:Program} {w:World} {K:PySem.W.Frag} {mg:Str→Option Value} {base:Heap} {t:Adr}
theorem zbJ:zat ["kind","worths","ones","told","worth"] ["kind","worths","ones"] (zak zcp):=⟨rfl,rfl,rfl,by decide+kernel,rfl,by decide+kernel,by decide+kernel⟩
theorem zeB (T:Txt K mg t):FnOk P w K mg base CX0 1 t.f_gate_worth t.fd_gate_worth ["kind","worths","ones"] (sp_gwI K):=by
 refine T.d_gate_worth.F.okB zbJ (fun vs H Q E h=>?_) (fun cdv A outer s H vs Q E hr h=>?_)
 ·obtain ⟨x,p,ns,o,rfl,_⟩:=h
  rfl
 obtain ⟨x,p,ns,o,rfl,hS,lk,q⟩:=h
 refine ⟨_,(zae (zaP (zax zdS (bpv 0) zay (zaO _)) (zaf (zap (zao zla (bpv 2) (zas za0 (bpv 1) zag (fun _ _=>rfl))))) zaA)
  (zae (zaP (zax zdS (bpv 0) zay (zaO _)) (zaf (zap (zao zp1 (zao zkc (zas za0 (bpv 1) zag (fun _ _=>rfl)) (zas za0 (bpv 1) zag (fun _ _=>rfl))) (zao zkc (zao zla (bpv 2) (zas za0 (bpv 1) zag (fun _ _=>rfl))) (zas za0 (bpv 1) zag (fun _ _=>rfl)))))) zaA)
  (zae (zal (k:=3) zbJ.nd rfl (Or.inl rfl) (zgF (zax zeY (bpv 0) (zaG (zaa zay (zaa zay (zac)))) rfl) (bpv 2) zag))
  (zae (zaE qA rfl (zaz (bpv 1)) (zah (k:=4) zbJ.nd rfl (Or.inl rfl)) (zaf (zaP (zax zdS (bpv 0) zay (zaO _)) (zaf (zal (k:=3) zbJ.nd rfl (Or.inl rfl) (zao zkc (bpv 3) (bpv 4)))) (zaf (zaP (zax zdS (bpv 0) zay (zaO _)) (zaf (zal (k:=3) zbJ.nd rfl (Or.inl rfl) (zao zp1 (bpv 3) (bpv 4)))) (zaf (zal (k:=3) zbJ.nd rfl (Or.inl rfl) (zao zla (bpv 3) (bpv 4)))))))))
  (zaf (zap (bpv 3))))))),?_⟩
 by_cases hn:x="not"
 ·subst hn
  have l1:=zoI lk
  refine ⟨_,rfl,rfl,_,rfl,ifY rfl ⟨_,rfl,_,rfl,p,_,0,_,rfl,rfl,hS,zbQ (ybp 0) (by omega),_,_,rfl,rfl,?_⟩⟩
  rw [gi_not] at q
  exact q H (.refl H)
 refine ⟨_,rfl,rfl,_,rfl,ifN hn ?_⟩
 by_cases hc:x="choose"
 ·subst hc
  have l1:=zkL lk
  refine ⟨_,rfl,rfl,_,rfl,ifY rfl ?_⟩
  rw [zm2] at q
  exact ⟨_,rfl,p,_,0,_,rfl,rfl,hS,zbQ (ybp 0) (by omega),_,rfl,p,_,1,_,rfl,rfl,hS,zbQ (by decide) (by omega),_,_,rfl,rfl,_,rfl,_,rfl,p,_,0,_,rfl,rfl,hS,zbQ (ybp 0) (by omega),_,_,rfl,rfl,
   _,rfl,p,_,2,_,rfl,rfl,hS,zbQ (by decide) (by omega),_,_,rfl,rfl,_,_,rfl,rfl,q H (.refl H)⟩
 refine ⟨_,rfl,rfl,_,rfl,ifN hc ?_⟩
 rw [zpz hn hc] at q
 refine ⟨_,rfl,(by show 2≤yM;decide),fun T1 h1=>⟨T1,_,rfl,.inr (.of zab),rfl,rfl,?_⟩⟩
 have s1:=zad h1 (.tup [.str "and",.str "one"])
 refine ⟨_,rfl,?_⟩
 have hin:(if false=true then !inV (V.str x) [.str "and",.str "one"] else inV (V.str x) [.str "and",.str "one"])=decide (x="and"∨x="one"):=in_two x "and" "one"
 rw [hin]
 generalize hf:(fun a b:Int=>if x="and" then qT a b else if x="or" then jF a b else qX a b)=f at q
 have hf1:x="and"→∀ a b,f a b=qT a b:=fun e a b=>by rw [← hf];exact if_pos e
 have hf2:x≠"and"→x="or"→∀ a b,f a b=jF a b:=fun e e2 a b=>by rw [← hf];show (if x="and" then _ else _)=_;rw [if_neg e,if_pos e2]
 have hf3:x≠"and"→x≠"or"→∀ a b,f a b=qX a b:=fun e e2 a b=>by rw [← hf];show (if x="and" then _ else _)=_;rw [if_neg e,if_neg e2]
 refine ite2 (fun c=>?_) (fun c=>?_)
 ·rw [if_pos (of_decide_eq_true c)] at q
  refine ⟨_,rfl,?_⟩
  refine ⟨_,rfl,p,rfl,⟨_,s1.seq hS⟩,zaV (K:=K) (a:=p) (xs:=ns.map V.int)
   (fun i σ H3=>∃ o4:Option V,σ = [some (.str x),some (.ref p),some (.int o),some (.int ((ns.take i).foldl f o)),o4]∧Same H H3) ⟨_,rfl,s1⟩ (fun i σ H3 _ ⟨_,_,s3⟩=>s3.seq hS) ?_ ?_⟩
  ·rintro i y σ H3 hy ⟨o4,rfl,s3⟩
   rw [yG] at hy
   cases hz:ns[i]? with
   | none=>rw [hz] at hy;cases hy
   | some n=>
    rw [hz] at hy
    cases hy
    have ef:(ns.take (i+1)).foldl f o=f ((ns.take i).foldl f o) n:=by rw [yO,hz];show (ns.take i++ [n]).foldl f o=_;rw [xU];rfl
    rw [ef]
    refine ⟨_,rfl,rfl,_,rfl,?_⟩
    by_cases e1:x="and"
    ·rw [hf1 e1]
     exact ifY e1 ⟨_,rfl,_,rfl,_,_,rfl,rfl,_,rfl,s3⟩
    ·refine ifN e1 ⟨_,rfl,rfl,_,rfl,?_⟩
     by_cases e2:x="or"
     ·rw [hf2 e1 e2]
      exact ifY e2 ⟨_,rfl,_,rfl,_,_,rfl,rfl,_,rfl,s3⟩
     ·rw [hf3 e1 e2]
      exact ifN e2 ⟨_,rfl,_,rfl,_,_,rfl,rfl,_,rfl,s3⟩
  ·rintro σ H3 ⟨o4,rfl,s3⟩
   have et:ns.take (ns.map V.int).length=ns:=by rw [yB,yQ]
   rw [et]
   exact ⟨_,rfl,q H3 s3⟩
 ·rw [if_neg (fun z=>c (decide_eq_true z))] at q
  refine ⟨_,rfl,p,rfl,⟨_,s1.seq hS⟩,zaV (K:=K) (a:=p) (xs:=ns.map V.int)
   (fun i σ H3=>∃ o4:Option V,σ = [some (.str x),some (.ref p),some (.int o),some (.int ((ns.take i).foldl f 0)),o4]∧Same H H3) ⟨_,rfl,s1⟩ (fun i σ H3 _ ⟨_,_,s3⟩=>s3.seq hS) ?_ ?_⟩
  ·rintro i y σ H3 hy ⟨o4,rfl,s3⟩
   rw [yG] at hy
   cases hz:ns[i]? with
   | none=>rw [hz] at hy;cases hy
   | some n=>
    rw [hz] at hy
    cases hy
    have ef:(ns.take (i+1)).foldl f 0=f ((ns.take i).foldl f 0) n:=by rw [yO,hz];show (ns.take i++ [n]).foldl f 0=_;rw [xU];rfl
    rw [ef]
    refine ⟨_,rfl,rfl,_,rfl,?_⟩
    by_cases e1:x="and"
    ·rw [hf1 e1]
     exact ifY e1 ⟨_,rfl,_,rfl,_,_,rfl,rfl,_,rfl,s3⟩
    ·refine ifN e1 ⟨_,rfl,rfl,_,rfl,?_⟩
     by_cases e2:x="or"
     ·rw [hf2 e1 e2]
      exact ifY e2 ⟨_,rfl,_,rfl,_,_,rfl,rfl,_,rfl,s3⟩
     ·rw [hf3 e1 e2]
      exact ifN e2 ⟨_,rfl,_,rfl,_,_,rfl,rfl,_,rfl,s3⟩
  ·rintro σ H3 ⟨o4,rfl,s3⟩
   have et:ns.take (ns.map V.int).length=ns:=by rw [yB,yQ]
   rw [et]
   exact ⟨_,rfl,q H3 s3⟩
theorem zfp (T:Txt K mg t):FnOk P w K mg base CX0 1 t.f_gate_worth t.fd_gate_worth ["kind","worths","ones"] (sp_gw K):=(zeB T).imp fun vs H Q E ⟨x,p,ns,e,hS,b,lk,q⟩=>⟨x,p,ns,1,e,hS,lk,by rw [zjO b lk];exact q⟩
theorem zjf:zat ["works","row"] ["works","row"] (zak zdB):=⟨rfl,rfl,rfl,by decide+kernel,rfl,by decide+kernel,by decide+kernel⟩
theorem zje (T:Txt K mg t):FnOk P w K mg base CX0 1 t.f_check_row t.fd_check_row ["works","row"] (sp_cr K):=by
 refine T.d_check_row.F.okB zjf (fun vs H Q E h=>?_) (fun cdv A outer s H vs Q E hr h=>?_)
 ·obtain ⟨a,ga,oa,p,i,row,rfl,_⟩:=h
  rfl
 obtain ⟨a,ga,oa,p,i,row,rfl,ha,hS,hl,b,few,q⟩:=h
 refine ⟨_,(zae (zaP (zax op_ne (zaK zaD rfl T.z_len xA (zaa (bpv 1) (zac))) (zas zaL (bpv 0) zag (fun _ _=>rfl)) (zaO _)) (zaf ze7) zaA)
  (zaf (zaP (zke (zij (zaK (zgK rfl) rfl T.z_all yaG (zaa (zaJ rfl (N:=["worth"]) (n:=1) (cap:=[]) (zbc rfl rfl) (zaz (bpv 1)) (zaF (by decide)) (fun _ _ _ _=>(zah (k:=0) (show (["worth"]:List Str).Nodup by decide+kernel) rfl (Or.inl rfl))) (fun _ _ _ _=>zaI) (fun _ _ _ _=>(zes (zl3 (K:=K)) (bpv 0) (zaG (zaa zag (zaa zag (zac)))) rfl))) (zac))))) (zaf ze7) zaA))),?_⟩
 have el:(((row.map V.int).length:Nat):Int)=i:=by rw [yB];exact hl
 refine ⟨_,rfl,p,_,rfl,.inl hS,_,rfl,a,_,_,_,rfl,rfl,ha,rfl,rfl,_,rfl,iteNS (congrArg V.int el) ?_⟩
 refine ⟨_,rfl,p,rfl,⟨_,hS⟩,fun D hD=>zaN (K:=K) (a:=p) (xs:=row.map V.int) (fun j H2=>Same H H2∧H2 D=some (.lst ((qG j true).map V.bl))) ⟨zad hD _,zab⟩
  (fun j H2 _ z=>z.1.seq hS) ?_ ?_⟩
 ·rintro j x H2 hx ⟨s2,eD⟩
  obtain ⟨n,hn,rfl⟩:∃ n,n∈row∧x= .int n:=by
   obtain ⟨n,h1,h2⟩:=yY.mp (yH hx)
   exact ⟨n,h1,h2.symm⟩
  have hj:j < (row.map V.int).length:=(yF.mp hx).1
  rw [yB] at hj
  refine ⟨_,rfl,(by show 2≤yM;decide),fun T1 h1=>⟨T1,_,rfl,.inr (.of zab),rfl,rfl,?_⟩⟩
  have dT:D≠T1:=zam eD h1
  refine ⟨_,by rw [zai dT];exact eD,big (by simp;omega),(s2.upd h1 _).write hD _,?_⟩
  have e1:(if false=true then !inV (V.int n) [.int 0,.int 1] else inV (V.int n) [.int 0,.int 1])=true:=by
   rcases b n hn with e | e <;> (rw [e];decide)
  rw [zab,e1,List.replicate_succ',yK]
  rfl
 ·rintro H2 ⟨s2,eD⟩
  refine ⟨D,qG (row.map V.int).length true,rfl,.of eD,_,rfl,?_⟩
  have e2:(qG (row.map V.int).length true).all id=true:=by
   refine yZ.mpr fun z hz=>?_
   rw [(yar.mp hz).2]
   rfl
  rw [e2]
  exact iteF (q H2 s2)
theorem zc4:zat ["works","rows","place"] ["works"] (zak zdF):=⟨rfl,rfl,rfl,by decide+kernel,rfl,by decide+kernel,by decide+kernel⟩
theorem zjY (T:Txt K mg t):FnOk P w K mg base CX0 1 t.f_every_row t.fd_every_row ["works"] (sp_er K):=by
 refine T.d_every_row.F.okB zc4 (fun vs H Q E h=>?_) (fun cdv A outer s H vs Q E hr h=>?_)
 ·obtain ⟨a,ga,oa,i,rfl,_⟩:=h
  rfl
 obtain ⟨a,ga,oa,i,rfl,ha,i0,i6,q⟩:=h
 refine ⟨_,(zae (zal (k:=1) zc4.nd rfl (Or.inl rfl) (zau (zaa (zau zac) (zac))))
  (zae (zaE qA rfl (zaW rfl T.z_range (zaa (zas zaL (bpv 0) zag (fun _ _=>rfl)) (zac))) (zah (k:=2) zc4.nd rfl (Or.inl rfl)) (zaf (zal (k:=1) zc4.nd rfl (Or.inl rfl) (zao zbS (zaJ rfl (N:=["row"]) (n:=1) (cap:=[]) (zbc rfl rfl) (zaz (bpv 1)) (zaF (by decide)) (fun _ _ _ _=>(zah (k:=0) (show (["row"]:List Str).Nodup by decide+kernel) rfl (Or.inl rfl))) (fun _ _ _ _=>zaI) (fun _ _ _ _=>(zao zbS (zau (zaa zag (zac))) (bpv 0)))) (zaJ rfl (N:=["row"]) (n:=1) (cap:=[]) (zbc rfl rfl) (zaz (bpv 1)) (zaF (by decide)) (fun _ _ _ _=>(zah (k:=0) (show (["row"]:List Str).Nodup by decide+kernel) rfl (Or.inl rfl))) (fun _ _ _ _=>zaI) (fun _ _ _ _=>(zao zbS (zau (zaa zag (zac))) (bpv 0))))))))
  (zaf (zap (bpv 1))))),?_⟩
 refine ⟨(by show 0≤yM;decide),fun e0 he0=>⟨(by show 1≤yM;decide),fun R0 hR0=>?_⟩⟩
 have s0:Same H (upd H e0 (.lst [])):=zad he0 _
 have start:Rows H R0 [e0] (zaQ 0) (upd (upd H e0 (.lst [])) R0 (.lst [.ref e0])):=by
  have ne:e0≠R0:=zam zab hR0
  refine ⟨s0.upd hR0 _,s0.free hR0,zab,.cons (by rw [zai ne,zab];rfl) .nil,xR.mpr ⟨(fun z=>nomatch z),xL⟩,fun z hz=>?_⟩
  rw [yE.mp hz]
  exact ⟨he0,ne⟩
 refine ⟨_,rfl,a,_,_,_,rfl,rfl,start.same.seqT ha,rfl,_,rfl,by omega,by omega,zeg (fun j σ H3=>∃ (R:Addr) (qs:List Addr) (o2:Option V),σ = [some (.ref a),some (.ref R),o2]∧Rows H R qs (zaQ j) H3) ⟨_,_,_,rfl,start⟩ ?_ ?_⟩
 ·rintro i σ H3 hi ⟨R,qs,o2,rfl,rw3⟩
  have few:(zaQ i).length≤64:=zlh (by omega)
  have lq:=rw3.rows.len
  have comp:∀ (c:Int) (Ha:Hp) (D:Addr) (j:Nat) (x:V) (H4:Hp),Same H3 Ha→(qs.map V.ref)[j]? =some x→(∃ ps,Rows Ha D ps (((zaQ i).take j).map (c:: ·)) H4)→∃ (q:Addr) (row:List Int) (ps:List Addr),x= .ref q∧H4 q=some (.lst (row.map V.int))∧row.length=i∧Rows Ha D ps (((zaQ i).take j).map (c:: ·)) H4∧ps.length≤64∧(∀ (T r':Addr) (vs:List V),H4 T=none→(upd H4 T (.lst [.int c])) r'=none→vs= .int c::row.map V.int→Rows Ha D (ps++ [r']) (((zaQ i).take (j+1)).map (c:: ·)) (upd (upd (upd H4 T (.lst [.int c])) r' (.lst vs)) D (.lst (ps.map V.ref++ [.ref r'])))):=by
   rintro c Ha D j x H4 sa hx ⟨ps,rw4⟩
   rw [yG] at hx
   cases hz:qs[j]? with
   | none=>rw [hz] at hx;cases hx
   | some q=>
    rw [hz] at hx
    cases hx
    obtain ⟨row,hrow,hq⟩:=rw3.rows.get hz
    have lp:=rw4.rows.len
    refine ⟨q,row,ps,rfl,rw4.same _ _ (sa _ _ hq),(zb4 i row (yH hrow)).1,rw4,?_,fun T r' vs hT hr' e=>?_⟩
    ·rw [lp,yB,yP]
     omega
    ·rw [ziD _ hrow]
     exact rw4.push hT hr' e
  refine ⟨_,rfl,R,rfl,⟨_,rw3.sq⟩,fun D hD=>zaN (K:=K) (a:=R) (xs:=qs.map V.ref) (fun j H4=>∃ ps,Rows H3 D ps (((zaQ i).take j).map (0:: ·)) H4) ⟨[],Rows.start (Same.refl _) hD⟩ (fun j H4 _ ⟨ps,z⟩=>z.same.seq rw3.sq) ?_ ?_⟩
  ·intro j x H4 hx h4
   obtain ⟨q,row,ps,rfl,hq,lr,rw4,lp,push⟩:=comp 0 H3 D j x H4 (Same.refl _) hx h4
   refine ⟨(by show 1≤yM;decide),fun T hT=>⟨_,rfl,T,q,_,_,rfl,rfl,zab,by rw [zai (zam hq hT)];exact hq,bigE (by rw [yX,yB];omega),fun r' hr'=>?_⟩⟩
   have eD:(upd (upd H4 T (.lst [.int 0])) r' (.lst ([.int 0]++row.map V.int))) D=some (.lst (ps.map V.ref)):=(((zad hT _).upd hr' _) _ _ rw4.at_)
   exact ⟨_,eD,big (by rw [yB];omega),_,push T r' _ hT hr' rfl⟩
  rintro H4 ⟨ps,rw4⟩
  have et:(zaQ i).take (qs.map V.ref).length=zaQ i:=by rw [yB,lq,yQ]
  rw [et] at rw4
  refine ⟨_,rfl,R,rfl,⟨_,rw4.same.seq rw3.sq⟩,fun D2 hD2=>zaN (K:=K) (a:=R) (xs:=qs.map V.ref) (fun j H5=>∃ ps',Rows H4 D2 ps' (((zaQ i).take j).map (1:: ·)) H5) ⟨[],Rows.start (Same.refl _) hD2⟩ (fun j H5 _ ⟨ps',z⟩=>(rw4.same.trans z.same).seq rw3.sq) ?_ ?_⟩
  ·intro j x H5 hx h5
   obtain ⟨q,row,ps',rfl,hq,lr,rw5,lp,push⟩:=comp 1 H4 D2 j x H5 rw4.same hx h5
   refine ⟨(by show 1≤yM;decide),fun T hT=>⟨_,rfl,T,q,_,_,rfl,rfl,zab,by rw [zai (zam hq hT)];exact hq,bigE (by rw [yX,yB];omega),fun r' hr'=>?_⟩⟩
   have eD:(upd (upd H5 T (.lst [.int 1])) r' (.lst ([.int 1]++row.map V.int))) D2=some (.lst (ps'.map V.ref)):=(((zad hT _).upd hr' _) _ _ rw5.at_)
   exact ⟨_,eD,big (by rw [yB];omega),_,push T r' _ hT hr' rfl⟩
  rintro H5 ⟨ps',rw5⟩
  rw [et] at rw5
  have l1:=rw4.rows.len
  have l2:=rw5.rows.len
  rw [yB] at l1 l2
  refine ⟨D,D2,_,_,rfl,rfl,rw5.same _ _ rw4.at_,rw5.at_,bigE (by rw [yB,yB];omega),fun R' hR'=>?_⟩
  have c:=rw4.cat rw5 hR'
  exact ⟨R',ps++ps',_,rfl,⟨rw3.same.trans c.same,rw3.same.free c.out,c.at_,c.rows,c.nd,fun q hq=>⟨rw3.same.free (c.new q hq).1,(c.new q hq).2⟩⟩⟩
 ·rintro σ H3 ⟨R,qs,o2,rfl,rw3⟩
  exact ⟨_,rfl,q R qs H3 rw3⟩
theorem zio:zat ["stuck","gate","worths"] ["stuck","gate","worths"] (zak zcY):=⟨rfl,rfl,rfl,by decide+kernel,rfl,by decide+kernel,by decide+kernel⟩
theorem zh3 (T:Txt K mg t):FnOk P w K mg base CX0 1 t.f_leg_worths t.fd_leg_worths ["stuck","gate","worths"] (sp_lgw K):=by
 refine T.d_leg_worths.F.okB zio (fun vs H Q E h=>?_) (fun cdv A outer s H vs Q E hr h=>?_)
 ·obtain ⟨d,p,k,fs,ns,rfl,_⟩:=h
  rfl
 obtain ⟨d,p,k,fs,ns,rfl,hd,hS,l4,q⟩:=h
 have hu1:=zgn hr
 refine ⟨_,(zaf (zap (zaJ rfl (N:=["leg","worth","stuck","gate"]) (n:=2) (cap:=[0,1]) (zbc rfl rfl) (zdQ rfl T.z_enumerate (zaa (bpv 2) (zac))) (zcs (by decide) (by decide)) (fun _ _ _ _=>(zc6 (K:=K) (n:=2) rfl (zar (zah (k:=0) (show (["leg","worth","stuck","gate"]:List Str).Nodup by decide+kernel) rfl (Or.inl rfl)) (zar (zah (k:=1) (show (["leg","worth","stuck","gate"]:List Str).Nodup by decide+kernel) rfl (Or.inl rfl)) za1)))) (fun _ _ _ _=>zaI) (fun _ _ _ _=>(ze5 hu1 (bpv 2) (zaG (zaa zay (zaa (bpv 3) (zaa (bpv 0) (zac))))) (bpv 1) ⟨rfl,rfl,rfl,rfl⟩))))),?_⟩
 refine ⟨_,rfl,p,rfl,⟨_,hS⟩,fun D hD=>zhc (K:=K) (a:=p) (xs:=ns.map V.int) (fun j H2=>Same H H2∧H2 D=some (.lst ((zb8 fs k (ns.take j)).map V.int))) ⟨zad hD _,zab⟩ (fun j H2 _ z=>z.1.seq hS) ?_ ?_⟩
 ·rintro j y H2 T1 hy ⟨s2,eD⟩ h1
  rw [yG] at hy
  cases hz:ns[j]? with
  | none=>rw [hz] at hy;cases hy
  | some n=>
   rw [hz] at hy
   cases hy
   have lj:j < ns.length:=(yF.mp hz).1
   have s3:=s2.upd h1 (.tup [.int j,.int n])
   refine ⟨T1,_,rfl,.of zab,rfl,_,_,rfl,_,_,rfl,rfl,?_⟩
   refine ⟨_,rfl,d,rfl,.inr ⟨_,.inl (s3 _ _ hd)⟩,_,rfl,_,rfl,(by show 3≤yM;decide),fun T2 h2=>?_⟩
   have s4:=s3.upd h2 (.tup [.str "leg",.int k,.int j])
   refine ⟨_,rfl,_,DGet.t (k:=legK k j) (s4 _ _ hd) zab,?_⟩
   have eD4:=((zad h1 (.tup [.int j,.int n])).upd h2 (.tup [.str "leg",.int k,.int j])) _ _ eD
   refine ⟨_,eD4,big (by rw [yB,zd9,yP];omega),s4.write hD _,?_⟩
   have lt:(ns.take j).length=j:=by rw [yP];omega
   rw [zab,yO,hz]
   show _=some (HO.lst ((zb8 fs k (ns.take j++ [n])).map V.int))
   rw [zlH,yK,lt,ziL]
   rfl
 ·rintro H2 ⟨s2,eD⟩
  have et:ns.take (ns.map V.int).length=ns:=by rw [yB,yQ]
  rw [et] at eD
  exact q D H2 s2 hD eD
theorem zby:zat ["works","stuck","row","ones","worths","gate","body","read","worth"] ["works","stuck","row","ones"] (zak zb3):=⟨rfl,rfl,rfl,by decide+kernel,rfl,by decide+kernel,by decide+kernel⟩
theorem zgS (T:Txt K mg t):FnOk P w K mg base CX0 2 t.f_worths_with t.fd_worths_with ["works","stuck","row","ones"] (sp_wwG K):=by
 refine T.d_worths_with.F.okB zby (fun vs H Q E h=>?_) (fun cdv A outer s H vs Q E hr h=>?_)
 ·obtain ⟨x,d,p,w,fs,row,o,rfl,_⟩:=h
  rfl
 obtain ⟨x,d,p,w,fs,row,o,rfl,hx,wf,hd,hS,hl,q⟩:=h
 obtain ⟨a,ga,oa,gs,os,rfl,ha,hg,ho,rg,ro⟩:=zbr hx
 have hu1:=zgn hr
 have lg:gs.length=w.gates.length:=by rw [rg.length,yB]
 have i1:=wf.i1
 have i6:=wf.i6
 have few:=wf.few
 refine ⟨_,(zae (zal (k:=4) zby.nd rfl (Or.inr rfl) (zaJ rfl (N:=["wire","worth","stuck"]) (n:=2) (cap:=[1]) (zbc rfl rfl) (zdQ rfl T.z_enumerate (zaa (bpv 2) (zac))) (zcs (by decide) (by decide)) (fun _ _ _ _=>(zc6 (K:=K) (n:=2) rfl (zar (zah (k:=0) (show (["wire","worth","stuck"]:List Str).Nodup by decide+kernel) rfl (Or.inl rfl)) (zar (zah (k:=1) (show (["wire","worth","stuck"]:List Str).Nodup by decide+kernel) rfl (Or.inl rfl)) za1)))) (fun _ _ _ _=>zaI) (fun _ _ _ _=>(ze5 hu1 (bpv 2) (zaG (zaa zay (zaa (bpv 0) (zac)))) (bpv 1) ⟨rfl,rfl,rfl,rfl⟩))))
  (zae (zaE qA rfl (zdQ rfl T.z_enumerate (zaa (zas zaL (bpv 0) zag (fun _ _=>rfl)) (zac))) (zcK rfl (zar (zah (k:=5) zby.nd rfl (Or.inl rfl)) (zar (zah (k:=6) zby.nd rfl (Or.inl rfl)) za1))) (zae (zal (k:=7) zby.nd rfl (Or.inl rfl) (zaj (zh3 T) (hr.mono (by decide)) rfl T.d_leg_worths.m T.d_leg_worths.F.kp T.d_leg_worths.b .nil zaC (zaa (bpv 1) (zaa (bpv 5) (zaa (zaJ rfl (N:=["leg","worths"]) (n:=1) (cap:=[4]) (zbc rfl rfl) (zkz (zas zaL (bpv 6) zag (fun _ _=>rfl))) (zaF (by decide)) (fun _ _ _ _=>(zah (k:=0) (show (["leg","worths"]:List Str).Nodup by decide+kernel) rfl (Or.inl rfl))) (fun _ _ _ _=>zaI) (fun _ _ _ _=>(zas (zep (K:=K)) (bpv 1) (bpv 0) (fun _ _=>rfl)))) (zac))))))
  (zae (zal (k:=8) zby.nd rfl (Or.inl rfl) (zaj (zeB T) (hr.mono (by decide)) rfl T.d_gate_worth.m T.d_gate_worth.F.kp T.d_gate_worth.b .nil zaC (zaa (zas zaL (bpv 6) zag (fun _ _=>rfl)) (zaa (bpv 7) (zaa (bpv 3) (zac))))))
  (zaf (zba (zbW qJ qO qP zaY (bpv 4) (zaa (ze5 hu1 (bpv 1) (zaG (zaa zay (zaa (zao zbE (zas zaL (bpv 0) zag (fun _ _=>rfl)) (bpv 5)) (zac)))) (bpv 8) ⟨rfl,rfl,rfl,rfl⟩) (zac))))))))
  (zaf (zap (bpv 4))))),?_⟩
 refine ⟨_,rfl,p,rfl,⟨_,hS⟩,fun r hr1=>zhc (K:=K) (a:=p) (xs:=row.map V.int) (fun j H2=>Same H H2∧H2 r=some (.lst ((rowS fs (row.take j)).map V.int))) ⟨zad hr1 _,zab⟩ (fun j H2 _ z=>z.1.seq hS) ?_ ?_⟩
 ·rintro j y H2 T1 hy ⟨s2,eD⟩ h1
  rw [yG] at hy
  cases hz:row[j]? with
  | none=>rw [hz] at hy;cases hy
  | some n=>
   rw [hz] at hy
   cases hy
   have lj:j < row.length:=(yF.mp hz).1
   have s3:=s2.upd h1 (.tup [.int j,.int n])
   refine ⟨T1,_,rfl,.of zab,rfl,_,_,rfl,_,_,rfl,rfl,?_⟩
   refine ⟨_,rfl,d,rfl,.inr ⟨_,.inl (s3 _ _ hd)⟩,_,rfl,(by show 2≤yM;decide),fun T2 h2=>?_⟩
   have s4:=s3.upd h2 (.tup [.str "wire",.int j])
   refine ⟨_,rfl,_,DGet.t (k:=zbk j) (s4 _ _ hd) zab,?_⟩
   have eD4:=((zad h1 (.tup [.int j,.int n])).upd h2 (.tup [.str "wire",.int j])) _ _ eD
   refine ⟨_,eD4,big (by rw [yB,zir,yP];omega),s4.write hr1 _,?_⟩
   have lt:(row.take j).length=j:=by rw [yP];omega
   rw [zab,yO,hz]
   show _=some (HO.lst ((rowS fs (row.take j++ [n])).map V.int))
   rw [zmM,yK,lt,ziL]
   rfl
 rintro H1 ⟨s1,e1⟩
 have et:row.take (row.map V.int).length=row:=by rw [yB,yQ]
 rw [et] at e1
 refine ⟨_,rfl,a,_,_,_,rfl,rfl,s1.seqT ha,rfl,ga,rfl,⟨_,s1.seq hg⟩,zgv (K:=K) (a:=ga) (xs:=gs)
  (fun i σ H3=>∃ (o4 o5 o6 o7:Option V),σ = [some (.ref a),some (.ref d),some (.ref p),some (.int o),some (.ref r),o4,o5,o6,o7]∧Same H H3∧H3 r=some (.lst ((zcr o fs w.gates row i).map V.int)))
  ⟨_,_,_,_,rfl,s1,e1⟩ (fun i σ H3 _ ⟨_,_,_,_,_,s3,_⟩=>s3.seq hg) ?_ ?_⟩
 ·rintro i x σ H3 T1 hx ⟨o4,o5,o6,o7,rfl,s3,e3⟩ h1
  have hi:i < gs.length:=(yF.mp hx).1
  obtain ⟨g,hgk⟩:∃ g,w.gates[i]? =some g:=⟨_,yC (by omega)⟩
  obtain ⟨dd,hdd,rv⟩:=rg.get hx
  rw [yG,hgk] at hdd
  cases hdd
  obtain ⟨a1,la,rfl,hA,hL⟩:=zgL rv
  obtain ⟨lk,lb⟩:=wf.legs i g hgk
  have lw:=zf0 o fs w.gates row i
  have l4:=lk.le
  refine ⟨T1,_,rfl,.of zab,rfl,_,_,rfl,_,_,rfl,rfl,?_⟩
  have k1:=zad h1 (.tup [.int i,.ref a1])
  have s4:=s3.trans k1
  have e4:=k1 _ _ e3
  generalize upd H3 T1 (.tup [.int i,.ref a1])=H4 at k1 s4 e4
  refine ⟨_,rfl,_,rfl,_,rfl,a1,_,_,_,rfl,rfl,s4.seqT hA,rfl,la,rfl,⟨_,s4.seqT hL⟩,fun D hD=>ziX (K:=K) (a:=la) (xs:=g.2.map V.int)
   (fun j H5=>Same H4 H5∧H5 D=some (.lst (((g.2.take j).map fun l=>(zcr o fs w.gates row i).getD l.toNat 0).map V.int))) ⟨zad hD _,zab⟩ (fun j H5 _ z=>(s4.trans z.1).seqT hL) ?_ ?_⟩
  ·rintro j y H5 hy ⟨s5,eD⟩
   rw [yG] at hy
   cases hz:g.2[j]? with
   | none=>rw [hz] at hy;cases hy
   | some l=>
    rw [hz] at hy
    cases hy
    have lj:j < g.2.length:=(yF.mp hz).1
    have bl:=lb l (yH hz)
    refine ⟨_,rfl,_,rfl,r,_,_,_,rfl,rfl,.of (s5 _ _ e4),zbQ bl.1 (by rw [lw];omega),?_⟩
    refine ⟨_,eD,big (by simp;omega),s5.write hD _,?_⟩
    rw [zab,yO,hz]
    simp
  rintro H5 ⟨s5,eD⟩
  have et:g.2.take (g.2.map V.int).length=g.2:=by rw [yB,yQ]
  rw [et] at eD
  have s45:=s4.trans s5
  refine ⟨d,D,_,fs,g.2.map fun l=>(zcr o fs w.gates row i).getD l.toNat 0,rfl,s45 _ _ hd,.of eD,by rw [yB];exact l4,fun R H6 s6 nR eR=>?_⟩
  have s46:=s45.trans s6
  refine ⟨_,rfl,a1,_,_,_,rfl,rfl,s46.seqT hA,rfl,_,rfl,_,rfl,g.1,R,_,o,rfl,.of eR,by rw [zd9,yB];exact lk,fun H7 s7=>?_⟩
  replace s46:=s46.trans s7
  have e6:=((s5.trans s6).trans s7) _ _ e4
  refine ⟨_,rfl,.inl ⟨rfl,_,.of e6⟩,_,rfl,d,rfl,.inr ⟨_,.inl (s46 _ _ hd)⟩,_,rfl,a,_,_,_,rfl,rfl,s46.seqT ha,rfl,_,rfl,_,_,rfl,rfl,(by show 2≤yM;decide),fun T2 h2=>?_⟩
  have rT:r≠T2:=zam e6 h2
  have ei:w.ins+(i:Int)=((row.length+i:Nat):Int):=by omega
  refine ⟨_,rfl,_,DGet.t (k:=zbk ((row.length+i:Nat):Int)) ((s46.upd h2 _) _ _ hd) (by rw [zab];show some (HO.tup [V.str "wire",V.int (w.ins+(i:Int))])=_;rw [ei];rfl),?_⟩
  refine ⟨r,_,_,rfl,rfl,by rw [zai rT];exact e6,big (by rw [yB,lw];omega),_,_,_,_,rfl,(s46.upd h2 _).write hr1 _,?_⟩
  rw [zab,zcr,hgk,yK,ziL]
  rfl
 ·rintro σ H3 ⟨o4,o5,o6,o7,rfl,s3,e3⟩
  rw [lg] at e3
  exact ⟨_,rfl,q r H3 s3 hr1 e3⟩
theorem zea:zat ["works","stuck","row","ones","worths"] ["works","stuck","row","ones"] (zak zbO):=⟨rfl,rfl,rfl,by decide+kernel,rfl,by decide+kernel,by decide+kernel⟩
theorem zgo (T:Txt K mg t):FnOk P w K mg base CX0 3 t.f_outputs_with t.fd_outputs_with ["works","stuck","row","ones"] (sp_owG K):=by
 refine T.d_outputs_with.F.okB zea (fun vs H Q E h=>?_) (fun cdv A outer s H vs Q E hr h=>?_)
 ·obtain ⟨x,d,p,w,fs,row,o,rfl,_⟩:=h
  rfl
 obtain ⟨x,d,p,w,fs,row,o,rfl,hx,wf,hd,hS,hl,q⟩:=h
 refine ⟨_,(zae (zal (k:=4) zea.nd rfl (Or.inr rfl) (zaj (zgS T) (hr.mono (by decide)) rfl T.d_worths_with.m T.d_worths_with.F.kp T.d_worths_with.b .nil zaC (zaa (bpv 0) (zaa (bpv 1) (zaa (bpv 2) (zaa (bpv 3) (zac)))))))
  (zaf (zap (zaJ rfl (N:=["wire","worths"]) (n:=1) (cap:=[4]) (zbc rfl rfl) (zaz (zas zaL (bpv 0) zag (fun _ _=>rfl))) (zaF (by decide)) (fun _ _ _ _=>(zah (k:=0) (show (["wire","worths"]:List Str).Nodup by decide+kernel) rfl (Or.inl rfl))) (fun _ _ _ _=>zaI) (fun _ _ _ _=>(zas (zep (K:=K)) (bpv 1) (bpv 0) (fun _ _=>rfl))))))),?_⟩
 refine ⟨_,rfl,_,rfl,_,rfl,_,rfl,x,d,p,w,fs,row,o,rfl,hx,wf,hd,hS,hl,fun r H1 s1 n1 e1=>?_⟩
 obtain ⟨a,ga,oa,gs,os,rfl,ha,hg,ho,rg,ro⟩:=zbr (hx.mono s1)
 have eo:=zee ro
 subst eo
 have lw:=zf0 o fs w.gates row w.gates.length
 have o3:=wf.o3
 refine ⟨_,rfl,a,_,_,_,rfl,rfl,ha,rfl,oa,rfl,⟨_,ho⟩,fun D hD=>zaN (K:=K) (a:=oa) (xs:=w.outs.map V.int)
   (fun j H4=>Same H1 H4∧H4 D=some (.lst (((w.outs.take j).map fun u=>(zcr o fs w.gates row w.gates.length).getD u.toNat 0).map V.int))) ⟨zad hD _,zab⟩ (fun j H4 _ z=>z.1.seq ho) ?_ ?_⟩
 ·rintro j y H4 hy ⟨s4,eD⟩
  rw [yG] at hy
  cases hz:w.outs[j]? with
  | none=>rw [hz] at hy;cases hy
  | some ou=>
   rw [hz] at hy
   cases hy
   have lj:j < w.outs.length:=(yF.mp hz).1
   have bo:=wf.outs ou (yH hz)
   refine ⟨_,rfl,_,rfl,r,_,_,_,rfl,rfl,.of (s4 _ _ e1),zbQ bo.1 (by rw [lw];omega),?_⟩
   refine ⟨_,eD,big (by simp;omega),s4.write hD _,?_⟩
   rw [zab,yO,hz]
   simp
 ·rintro H4 ⟨s4,eD⟩
  have et:w.outs.take (w.outs.map V.int).length=w.outs:=by rw [yB,yQ]
  rw [et] at eD
  exact q D H4 (s1.trans s4) (s1.free hD) eD
theorem zhv:zat ["script","k"] ["script","k"] (zak zcF):=⟨rfl,rfl,rfl,by decide+kernel,rfl,by decide+kernel,by decide+kernel⟩
theorem zdc (T:Txt K mg t):FnOk P w K mg base CX0 1 t.f_law_cell_at t.fd_law_cell_at ["script","k"] (sp_ca K):=by
 refine T.d_law_cell_at.F.okB zhv (fun vs H Q E h=>?_) (fun cdv A outer s H vs Q E hr h=>?_)
 ·obtain ⟨a,ns,k,rfl,_⟩:=h
  rfl
 obtain ⟨a,ns,k,rfl,hS,q⟩:=h
 refine ⟨_,(zae (zaP (zax zpS (bpv 1) (zaK zaD rfl T.z_len xA (zaa (bpv 0) (zac))) (zaO _)) (zaf (zap (zas za0 (bpv 0) (bpv 1) (fun _ _=>rfl)))) zaA)
  (zaf (zap zag))),?_⟩
 refine ⟨_,rfl,_,rfl,a,_,rfl,.inl hS,_,_,rfl,rfl,_,rfl,ite2 (fun c=>?_) (fun c=>q _)⟩
 have c':=of_decide_eq_true c
 rw [yB] at c'
 exact ⟨_,rfl,_,rfl,a,_,_,_,rfl,rfl,hS,zbQ (by omega) (by omega),q _⟩
theorem za5:zat ["inputs","worths","ones","place","behind"] ["inputs"] (zak zcf):=⟨rfl,rfl,rfl,by decide+kernel,rfl,by decide+kernel,by decide+kernel⟩
theorem zhp (T:Txt K mg t):FnOk P w K mg base CX0 1 t.f_rows_at_once t.fd_rows_at_once ["inputs"] sp_rao:=by
 refine T.d_rows_at_once.F.okB za5 (fun vs H Q E h=>?_) (fun cdv A outer s H vs Q E hr h=>?_)
 ·obtain ⟨n,rfl,_⟩:=h
  rfl
 obtain ⟨n,rfl,n6,q⟩:=h
 refine ⟨_,(zae (zal (k:=1) za5.nd rfl (Or.inl rfl) (zau zac))
  (zae (zal (k:=2) za5.nd rfl (Or.inl rfl) zag)
  (zae (zaE qA rfl (zaW rfl T.z_range (zaa (bpv 0) (zac))) (zah (k:=3) za5.nd rfl (Or.inl rfl)) (zae (zal (k:=4) za5.nd rfl (Or.inr rfl) (zao zbE (bpv 2) zag))
  (zae (zal (k:=1) za5.nd rfl (Or.inl rfl) (zao zbS (zau (zaa (zao zd6 (bpv 2) (bpv 4)) (zac))) (zaJ rfl (N:=["worth","behind"]) (n:=1) (cap:=[4]) (zbc rfl rfl) (zaz (bpv 1)) (zaF (by decide)) (fun _ _ _ _=>(zah (k:=0) (show (["worth","behind"]:List Str).Nodup by decide+kernel) rfl (Or.inl rfl))) (fun _ _ _ _=>zaI) (fun _ _ _ _=>(zao zbE (bpv 0) (zao zd6 (bpv 0) (bpv 1)))))))
  (zaf (zal (k:=2) za5.nd rfl (Or.inl rfl) (zao zbE (bpv 2) (zao zd6 (bpv 2) (bpv 4))))))))
  (zaf (zap (zaG (zaa (bpv 1) (zaa (bpv 2) (zac))))))))),?_⟩
 refine ⟨(by show 0≤yM;decide),fun L0 hL0=>?_⟩
 refine ⟨_,rfl,_,rfl,by omega,by omega,?_⟩
 refine zeg (fun i σ H3=>∃ (L:Addr) (o3 o4:Option V),σ = [some (.int n),some (.ref L),some (.int (zaU (2 ^ i))),o3,o4]∧Same H H3∧H L=none∧H3 L=some (.lst ((zdN i).map V.int)))
  ⟨L0,_,_,rfl,zad hL0 _,hL0,zab⟩ ?_ ?_
 ·rintro i σ H3 hi ⟨L,o3,o4,rfl,s3,nL,eL⟩
  have hi6:i < 6:=by omega
  have h64:=pow6 (n:=i) (by omega)
  obtain ⟨c1,c2,c3⟩:=ze4 i
  have bo:=zly (zcG (2 ^ i)) h64
  have bb:qS (zaU (2 ^ i)+1)≤2 ^ 20:=by
   rw [zfj]
   have hq: 2 ^ 2 ^ i≤2 ^ 64:=jT (by decide) h64
   generalize 2 ^ 2 ^ i=q2 at hq
   exact zit (k:=65) (by decide) (by omega) (by omega)
  refine ⟨_,rfl,_,_,rfl,rfl,?_⟩
  refine ⟨_,rfl,_,rfl,_,_,rfl,rfl,⟨bo,bb⟩,(by show 1≤yM;decide),fun A1 hA1=>?_⟩
  have k1:=zad hA1 (.lst [.int (zaU (2 ^ i) * (zaU (2 ^ i)+1))])
  refine ⟨_,rfl,L,rfl,⟨_,.of (k1 _ _ eL)⟩,fun D hD=>zaN (K:=K) (a:=L) (xs:=(zdN i).map V.int) (fun j H4=>Same (upd H3 A1 (.lst [.int (zaU (2 ^ i) * (zaU (2 ^ i)+1))])) H4∧H4 D=some (.lst ((((zdN i).take j).map fun v=>v+v * (zaU (2 ^ i)+1)).map V.int))) ⟨zad hD _,zab⟩ (fun j H4 _ z=>.of (z.1 _ _ (k1 _ _ eL))) ?_ ?_⟩
  ·rintro j y H4 hy ⟨s4,eD⟩
   rw [yG] at hy
   cases hz:(zdN i)[j]? with
   | none=>rw [hz] at hy;cases hy
   | some v=>
    rw [hz] at hy
    cases hy
    have lj:j < (zdN i).length:=(yF.mp hz).1
    refine ⟨_,rfl,_,rfl,_,rfl,_,_,rfl,rfl,⟨zly (c1 v (yH hz)) h64,bb⟩,_,_,rfl,rfl,?_⟩
    refine ⟨_,eD,big (by simp;omega),s4.write hD _,?_⟩
    rw [zab,yO,hz,yK,yK]
    rfl
  rintro H4 ⟨s4,eD⟩
  rw [yB,yQ] at eD
  refine ⟨A1,D,_,_,rfl,rfl,s4 _ _ zab,eD,bigE (by simp;omega),fun A2 hA2=>?_⟩
  have k2:=zad hA2 (.lst ([.int (zaU (2 ^ i) * (zaU (2 ^ i)+1))]++((zdN i).map fun v=>v+v * (zaU (2 ^ i)+1)).map V.int))
  have s34:=k1.trans s4
  refine ⟨_,rfl,_,rfl,_,rfl,_,_,rfl,rfl,⟨bo,bb⟩,_,_,rfl,rfl,A2,some (.int (0+(i:Int))),some (.int (zaU (2 ^ i)+1)),?_,(s3.trans s34).trans k2,(s3.trans s34).free hA2,zab⟩
  show [_,_,some (V.int (zaU (2 ^ i)+zaU (2 ^ i) * (zaU (2 ^ i)+1))),_,_]=_
  rw [zng]
 ·rintro σ H3 ⟨L,o3,o4,rfl,s3,nL,eL⟩
  have en:((n:Int)).toNat=n:=by omega
  rw [en] at eL
  refine ⟨_,rfl,_,rfl,(by show 2≤yM;decide),fun r hr'=>q r L _ (s3.upd hr' _) (s3.free hr') nL ?_ (zad hr' _ _ _ eL)⟩
  rw [zab,en]
theorem zbh:zat ["seen","others","unlike","worth","other"] ["seen","others"] (zak zbP):=⟨rfl,rfl,rfl,by decide+kernel,rfl,by decide+kernel,by decide+kernel⟩
theorem zfK (T:Txt K mg t):FnOk P w K mg base CX0 1 t.f_unlike_numbers t.fd_unlike_numbers ["seen","others"] sp_un:=by
 refine T.d_unlike_numbers.F.okB zbh (fun vs H Q E h=>?_) (fun cdv A outer s H vs Q E hr h=>?_)
 ·obtain ⟨a,b,xs,ys,R,rfl,_⟩:=h
  rfl
 obtain ⟨a,b,xs,ys,R,rfl,ha,hb,hl,l1,h64,bx,by',q⟩:=h
 refine ⟨_,(zae (zal (k:=2) zbh.nd rfl (Or.inr rfl) zag)
  (zae (zaE qA rfl (zmE rfl T.z_zip (zaa (bpv 0) (zaa (bpv 1) (zac)))) (zcK rfl (zar (zah (k:=3) zbh.nd rfl (Or.inl rfl)) (zar (zah (k:=4) zbh.nd rfl (Or.inl rfl)) za1))) (zaf (zal (k:=2) zbh.nd rfl (Or.inr rfl) (zao zp1 (bpv 2) (zao zla (bpv 3) (bpv 4))))))
  (zaf (zap (zaJ rfl (N:=["number","unlike"]) (n:=1) (cap:=[2]) (zbc rfl rfl) (zaW rfl T.z_range (zaa (zql PySem.F.plainAttrs_int PyProof.Rows.slot_int_bit_length PyProof.Rows.type_int_bit_length zmv (bpv 2)) (zac))) (zaF (by decide)) (fun _ _ _ _=>(zah (k:=0) (show (["number","unlike"]:List Str).Nodup by decide+kernel) rfl (Or.inl rfl))) (fun _ _ _ _=>(zgy (zax zdS (zao zkc (zao znU (bpv 1) (bpv 0)) zag) zag (zaO _)))) (fun _ _ _ _=>(bpv 0))))))),?_⟩
 refine ⟨_,rfl,_,rfl,a,b,_,_,rfl,ha,hb,zqd (a:=a) (b:=b) (xs:=xs.map V.int) (ys:=ys.map V.int) (by simp [hl])
  (fun i σ H3=>∃ (o3 o4:Option V),σ = [some (.ref a),some (.ref b),some (.int (((xs.take i).zip (ys.take i)).foldl (fun u p=>jF u (qX p.1 p.2)) 0)),o3,o4]∧Same H H3)
  ⟨_,_,rfl,Same.refl _⟩ (fun i σ H3 _ ⟨_,_,_,s3⟩=>⟨s3 _ _ ha,s3 _ _ hb⟩) ?_ ?_⟩
 ·rintro i x y σ H3 T1 hx hy ⟨o3,o4,rfl,s3⟩ h1
  rw [yG] at hx hy
  cases hzx:xs[i]? with
  | none=>rw [hzx] at hx;cases hx
  | some u=>
   cases hzy:ys[i]? with
   | none=>rw [hzy] at hy;cases hy
   | some v=>
    rw [hzx] at hx
    rw [hzy] at hy
    cases hx
    cases hy
    refine ⟨T1,_,rfl,.of zab,rfl,_,_,rfl,_,_,rfl,rfl,?_⟩
    refine ⟨_,rfl,_,rfl,_,rfl,_,_,rfl,rfl,_,_,rfl,rfl,some (.int u),some (.int v),?_,s3.upd h1 _⟩
    have li:i < xs.length:=(yF.mp hzx).1
    have e:(xs.take (i+1)).zip (ys.take (i+1))=(xs.take i).zip (ys.take i)++ [(u,v)]:=by
     rw [yO,yO,hzx,hzy]
     show (xs.take i++ [u]).zip (ys.take i++ [v])=_
     rw [List.zip_append (by rw [yP,yP];omega)]
     rfl
    rw [e,xU]
    rfl
 ·rintro σ H3 ⟨o3,o4,rfl,s3⟩
  have e1:xs.take (xs.map V.int).length=xs:=by rw [yB,yQ]
  have e2:ys.take (xs.map V.int).length=ys:=by rw [yB,hl,yQ]
  obtain ⟨u1,u2⟩:=zeJ (R:=R) xs ys hl bx by' (zdq R)
  obtain ⟨un,eun⟩:∃ un,zdP xs ys=un:=⟨_,rfl⟩
  have b0:za2 R un:=by rw [← eun];exact u1
  have few:qS un≤2 ^ 20:=zly b0 h64
  rw [e1,e2]
  refine ⟨_,rfl,rfl,_,rfl,rfl,_,rfl,?_,?_,fun D hD=>?_⟩
  ·omega
  ·show ((qS (zdP xs ys):Nat):Int) < 2 ^ 62
   rw [eun]
   omega
  have ll:((qS (zdP xs ys):Nat):Int).toNat=qS un:=by rw [eun];omega
  show zdf (Itr 0 ((qS (zdP xs ys):Nat):Int).toNat) _ _ _ _ _ _ _ _ _
  rw [ll]
  refine zfP (fun j H4=>Same H3 H4∧H4 D=some (.lst (((xO j).filter fun k=>decide (bitI k un=1)).map fun k:Nat=>V.int (k:Int)))) ⟨zad hD _,zab⟩ ?_ ?_
  ·rintro j H4 hj ⟨s4,eD⟩
   rw [yal]
   have sb:=znc (R:=R) b0 j
   rw [← eun] at sb
   have small:(((xO j).filter fun k=>decide (bitI k un=1)).map fun k:Nat=>V.int (k:Int)).length≤2000000:=by
    rw [yB]
    have:=xY (fun k=>decide (bitI k un=1)) (xO j)
    rw [List.length_range] at this
    omega
   refine ⟨_,rfl,_,rfl,_,_,rfl,rfl,wG j,_,_,rfl,rfl,rfl,_,rfl,ite2 (fun c=>⟨_,rfl,_,eD,?_,s4.write hD _,?_⟩) (fun c=>⟨s4,?_⟩)⟩
   ·have:yM=16777216:=by decide
    omega
   ·rw [zab,yck,vF,yK]
    have e:decide (bitI j un=1)=true:=by rw [← eun];exact decide_eq_true (sb.mp (of_decide_eq_true c))
    simp [e]
   ·rw [eD,yck,vF,yK]
    have e:decide (bitI j un=1)=false:=by rw [← eun];exact decide_eq_false fun z=>c (decide_eq_true (sb.mpr z))
    simp [e]
  ·rintro H4 ⟨s4,eD⟩
   refine q D H4 (s3.trans s4) (s3.free hD) ?_
   rw [eD,eun]
   rfl
theorem zb1:zat ["works","stuck","rows","ones","stuck_at_once"] ["works","stuck"] (zak zcc):=⟨rfl,rfl,rfl,by decide+kernel,rfl,by decide+kernel,by decide+kernel⟩
theorem zgg (T:Txt K mg t):FnOk P w K mg base CX0 4 t.f_outputs_seen t.fd_outputs_seen ["works","stuck"] (sp_osR K):=by
 refine T.d_outputs_seen.F.okB zb1 (fun vs H Q E h=>?_) (fun cdv A outer s H vs Q E hr h=>?_)
 ·obtain ⟨x,d,w,fs,G,rfl,_⟩:=h
  rfl
 obtain ⟨x,d,w,fs,G,rfl,off,hx,wf,hd,fb,ap,lf,q⟩:=h
 have hu64:=hr.units
 obtain ⟨a,ga,oa,gs,os,rfl,ha,hg,ho,rg,ro⟩:=zbr hx
 have i1:=wf.i1
 have i6:=wf.i6
 obtain ⟨n,en⟩:∃ n,w.ins.toNat=n:=⟨_,rfl⟩
 have n6:n≤6:=by omega
 have h64:=pow6 n6
 have c:=ze4 n
 refine ⟨_,(zae (zal (k:=2) zb1.nd rfl (Or.inl rfl) (zaj (zhp T) (hr.mono (by decide)) rfl T.d_rows_at_once.m T.d_rows_at_once.F.kp T.d_rows_at_once.b .nil zaC (zaa (zas zaL (bpv 0) zag (fun _ _=>rfl)) (zac))))
  (zae (zal (k:=3) zb1.nd rfl (Or.inr rfl) (zas zaL (bpv 2) zag (fun _ _=>rfl)))
  (zae (zal (k:=4) zb1.nd rfl (Or.inl rfl) (zbw (zh2 rfl hu64) rfl T.z_dict ybu (zaa (zaJ rfl (N:=["place","worth","ones"]) (n:=2) (cap:=[3]) (zbc rfl rfl) (zgH (bpv 1)) (zcs (by decide) (by decide)) (fun _ _ _ _=>(zc6 (K:=K) (n:=2) rfl (zar (zah (k:=0) (show (["place","worth","ones"]:List Str).Nodup by decide+kernel) rfl (Or.inl rfl)) (zar (zah (k:=1) (show (["place","worth","ones"]:List Str).Nodup by decide+kernel) rfl (Or.inl rfl)) za1)))) (fun _ _ _ _=>zaI) (fun _ _ _ _=>(zaG (zaa (bpv 0) (zaa (zao zd6 (bpv 1) (bpv 2)) (zac)))))) (zac))))
  (zaf (zap (zaj (zgo T) (hr.mono (by decide)) rfl T.d_outputs_with.m T.d_outputs_with.F.kp T.d_outputs_with.b .nil zaC (zaa (bpv 0) (zaa (bpv 4) (zaa (zas zaL (bpv 2) zag (fun _ _=>rfl)) (zaa (bpv 3) (zac))))))))))),?_⟩
 refine ⟨_,rfl,a,_,_,_,rfl,rfl,off.same.seqT ha,rfl,n,by rw [← en,vY (by omega)];rfl,n6,fun r L H1 s1 nr nL er eL=>?_⟩
 refine ⟨_,rfl,r,_,1,_,rfl,rfl,.of er,rfl,?_⟩
 have off1:=off.grow s1
 have rd:r≠d:=jL (zam hd nr)
 have Ld:L≠d:=jL (zam hd nL)
 refine ⟨_,rfl,d,_,rfl,s1 _ _ hd,fun ob D hD=>?_⟩
 have off2:=off1.write (.head _) (.frz ob (.dT (tabV fs)))
 have ed2:=zab (H:=H1) (a:=d) (o:=.frz ob (.dT (tabV fs)))
 have er2:(upd H1 d (.frz ob (.dT (tabV fs)))) r=some (.tup [.ref L,.int (zaU (2 ^ n))]):=by rw [zai rd];exact er
 have eL2:(upd H1 d (.frz ob (.dT (tabV fs)))) L=some (.lst ((zdN n).map V.int)):=by rw [zai Ld];exact eL
 generalize upd H1 d (.frz ob (.dT (tabV fs)))=H2 at hD off2 ed2 er2 eL2
 have gD:G D=none:=off2.same.free hD
 have Dd:d≠D:=zam ed2 hD
 have Dr:r≠D:=zam er2 hD
 have DL:L≠D:=zam eL2 hD
 refine zhO (d:=d) (ob:=ob) (kvs:=tabV fs) (fun j H5=>∃ xs,Off [d] G H5∧H5 d=some (.frz ob (.dT (tabV fs)))∧H5 r=some (.tup [.ref L,.int (zaU (2 ^ n))])∧H5 L=some (.lst ((zdN n).map V.int))∧H5 D=some (.lst xs)∧zeI H5 xs (tabV (zcu (2 ^ n) (fs.take j))))
  ⟨[],off2.new hD _,zad hD _ _ _ ed2,zad hD _ _ _ er2,zad hD _ _ _ eL2,zab,.nil⟩ (fun j H5 _ ⟨_,_,e,_⟩=>e) ?_ ?_
 ·rintro j b p H5 T1 hp ⟨xs,off5,ed5,er5,eL5,eD5,pr⟩ hT1 hb
  have hp':(fs.map fun f=>(f.place,V.int f.worth))[j]? =some p:=hp
  rw [yG] at hp'
  cases hz:fs[j]? with
  | none=>rw [hz] at hp';cases hp'
  | some f=>
   rw [hz] at hp'
   cases hp'
   have lj:j < fs.length:=(yF.mp hz).1
   have et:fs.take (j+1)=fs.take j++ [f]:=by rw [yO,hz];rfl
   have fw:=fb f (yH hz)
   have k1:=zad hT1 (.tup [.ref b,.int f.worth])
   refine ⟨T1,_,rfl,.of zab,rfl,_,_,rfl,_,_,rfl,rfl,?_⟩
   have b1:qS f.worth≤2 ^ 20:=zit (k:=2) (by decide) (by omega) (by omega)
   refine ⟨_,rfl,_,rfl,_,rfl,_,_,rfl,rfl,⟨b1,zly (zcG (2 ^ n)) h64⟩,(by show 2≤yM;decide),fun T2 h2=>?_⟩
   have k2:=zad h2 (.tup [.ref b,.int (f.worth * zaU (2 ^ n))])
   have k12:=k1.trans k2
   have lpr:=qI pr
   unfold tabV zcu at lpr
   rw [yB,yB,yP] at lpr
   refine ⟨xs,k12 _ _ eD5,big (by omega),xs++ [.ref T2],?_,by rw [zai Dd];exact k12 _ _ ed5,by rw [zai Dr];exact k12 _ _ er5,by rw [zai DL];exact k12 _ _ eL5,zab,?_⟩
   ·exact ⟨(off5.grow k12).same.write gD _,(off5.grow k12).out,fun m hm=>by rw [yE.mp hm,zai Dd];exact ⟨_,k12 _ _ ed5⟩⟩
   ·rw [et]
    have e1:tabV (zcu (2 ^ n) (fs.take j++ [f]))=tabV (zcu (2 ^ n) (fs.take j))++ [(f.place,V.int (f.worth * zaU (2 ^ n)))]:=by unfold tabV zcu;rw [yK,yK];rfl
    rw [e1]
    exact zgM (k12 _ _ eD5) (yac (zez k12 pr) ⟨T2,b,rfl,zab,hb.same k12⟩)
 rintro H5 ⟨xs,off5,ed5,er5,eL5,eD5,pr⟩
 have lt:(tabV fs).length=fs.length:=by unfold tabV;rw [yB]
 rw [lt,yQ] at pr
 refine ⟨D,xs,tabV (zcu (2 ^ n) fs),rfl,eD5,pr,big (by unfold tabV zcu;rw [yB,yB];omega),fun e he=>?_⟩
 rw [show zef [] (tabV (zcu (2 ^ n) fs))=tabV (zcu (2 ^ n) fs) from zka (zcu (2 ^ n) fs) [] (zml ap)]
 have k6:=zad he (.dT (tabV (zcu (2 ^ n) fs)))
 have s6:=off5.same.trans k6
 refine ⟨_,rfl,_,rfl,_,rfl,r,_,0,_,rfl,rfl,.of (k6 _ _ er5),rfl,_,rfl,.ref a,e,L,w,zcu (2 ^ n) fs,zdN n,zaU (2 ^ n),rfl,hx.mono s6,wf,zab,.of (k6 _ _ eL5),by rw [c.2.1];omega,fun r2 H7 s7 n7 e7=>?_⟩
 exact q r2 ob H7 (s6.trans s7) (s6.free n7) ((k6.trans s7) _ _ ed5) (by rw [e7];unfold zav;rw [en])
theorem zbB (T:Txt K mg t):FnOk P w K mg base CX0 4 t.f_outputs_seen t.fd_outputs_seen ["works","stuck"] (sp_osT K):=by
 refine (zgg T).thaw.imp fun vs H Q E h=>?_
 obtain ⟨x,d,w,fs,rfl,hx,wf,hd,fb,ap,lf,q⟩:=h
 obtain ⟨a,ga,oa,gs,os,rfl,ha,hg,ho,rg,ro⟩:=zbr hx
 refine ⟨.ref a,d,w,fs,hole d H,rfl,zcV hd,zlp hd hx,wf,hd,fb,ap,lf,fun r ob H' s n e1 e2=>⟨d,ob,_,_,hd,e1,?_⟩⟩
 have rd:r≠d:=fun z=>by rw [z,e1] at e2;cases e2
 refine q r _ (fun b o hb=>?_) (by rw [zaR rd] at n;exact n) (by rw [zai rd];exact e2)
 by_cases z:b=d
 ·subst z
  rw [zab]
  rw [hd] at hb
  exact hb
 ·rw [zai z]
  exact s _ _ (by rw [zaR z];exact hb)
theorem zeb:zat ["works","stuck","others","numbers"] ["works","stuck","others"] (zak zcb):=⟨rfl,rfl,rfl,by decide+kernel,rfl,by decide+kernel,by decide+kernel⟩
theorem zcM (T:Txt K mg t):FnOk P w K mg base CX0 5 t.f_first_unlike t.fd_first_unlike ["works","stuck","others"] (sp_fu K):=by
 refine T.d_first_unlike.F.okB zeb (fun vs H Q E h=>?_) (fun cdv A outer s H vs Q E hr h=>?_)
 ·obtain ⟨x,d,e,w,fs,gs,rfl,_⟩:=h
  rfl
 obtain ⟨x,d,e,w,fs,gs,rfl,hx,wf,hd,he,fb,gb,af,ag,lf,lg,q⟩:=h
 obtain ⟨a,ga,oa,gv,os,rfl,ha,hg,ho,rg,ro⟩:=zbr hx
 have hu64:=hr.units
 have i1:=wf.i1
 have i6:=wf.i6
 have n6:w.ins.toNat≤6:=by omega
 have h64:=pow6 n6
 obtain ⟨f1,f2,f3⟩:=zb2 fb wf
 obtain ⟨g1,g2,g3⟩:=zb2 gb wf
 obtain ⟨nn,nj⟩:=zlF fb gb wf
 refine ⟨_,(zae (zal (k:=3) zeb.nd rfl (Or.inl rfl) (zaj (zfK T) (hr.mono (by decide)) rfl T.d_unlike_numbers.m T.d_unlike_numbers.F.kp T.d_unlike_numbers.b .nil zaC (zaa (zaj (zbB T) (hr.mono (by decide)) rfl T.d_outputs_seen.m T.d_outputs_seen.F.kp T.d_outputs_seen.b .nil zaC (zaa (bpv 0) (zaa (bpv 1) (zac)))) (zaa (zaj (zbB T) (hr.mono (by decide)) rfl T.d_outputs_seen.m T.d_outputs_seen.F.kp T.d_outputs_seen.b .nil zaC (zaa (bpv 0) (zaa (bpv 2) (zac)))) (zac)))))
  (zaf (zap (zgF (zax op_gt (zaK zaD rfl T.z_len xA (zaa (bpv 3) (zac))) zag (zaO _)) (zas za0 (zaj (zjY T) (hr.mono (by decide)) rfl T.d_every_row.m T.d_every_row.F.kp T.d_every_row.b .nil zaC (zaa (bpv 0) (zac))) (zas za0 (bpv 3) zag (fun _ _=>rfl)) (fun _ _=>rfl)) ziu)))),?_⟩
 refine ⟨_,rfl,_,rfl,.ref a,d,w,fs,rfl,hx,wf,hd,fb,af,lf,fun r1 H1 s1 n1 e1=>?_⟩
 refine ⟨_,rfl,_,rfl,.ref a,e,w,gs,rfl,hx.mono s1,wf,s1 _ _ he,gb,ag,lg,fun r2 H2 s2 n2 e2=>?_⟩
 have e12:H2 r1=some (.lst ((zav w fs).map V.int)):=s2 _ _ e1
 have sG3:=s1.trans s2
 have lo:w.outs.length≤1000:=by
  have:=wf.o3
  omega
 refine ⟨r1,r2,zav w fs,zav w gs,2 ^ w.ins.toNat,rfl,e12,e2,f2.trans g2.symm,by omega,h64,f1,g1,fun r3 H3 s3 n3 e3=>?_⟩
 have sG4:=sG3.trans s3
 obtain ⟨ns,ens⟩:∃ ns,zj7 (zdP (zav w fs) (zav w gs))=ns:=⟨_,rfl⟩
 rw [ens] at e3 nn nj
 refine ⟨_,rfl,r3,_,rfl,.inl (.of e3),_,_,rfl,rfl,_,rfl,ite2 (fun c=>?_) (fun c=>?_)⟩
 ·cases ns with
  | nil=>exact absurd (of_decide_eq_true c) (by decide)
  | cons j js=>
   obtain ⟨row,hrow,ef⟩:=nj j js rfl
   refine ⟨_,rfl,a,ga,oa,w.ins,rfl,sG4.seqT ha,by omega,i6,fun R qs H4 rws=>?_⟩
   have e34:=rws.same _ _ e3
   obtain ⟨qa,hqa,hz⟩:∃ qa,qs[j]? =some qa∧H4 qa=some (.lst (row.map V.int)):=by
    have lq:=rws.rows.len
    have lj:=(yF.mp hrow).1
    have h1:qs[j]? =some qs[j]:=yC (by omega)
    obtain ⟨row2,h2,h3⟩:=rws.rows.get h1
    rw [hrow] at h2
    cases h2
    exact ⟨_,h1,h3⟩
   have at0:atI ((j::js).map fun j:Nat=>V.int (j:Int)) 0=some (.int (j:Int)):=zb7 (j:=0) rfl
   refine ⟨_,rfl,r3,_,_,_,rfl,rfl,.of e34,at0,R,_,_,_,rfl,rfl,rws.sq,zb7 (by rw [yG,hqa];rfl),?_⟩
   refine q _ _ (sG4.trans rws.same) ?_
   rw [ef]
   exact ⟨qa,rfl,sG4.free (rws.new qa (yH hqa)).1,hz⟩
 ·cases ns with
  | cons j js=>exact absurd (decide_eq_true (by simp)) c
  | nil=>
   refine q _ _ sG4 ?_
   rw [nn rfl]
   rfl
theorem zbg:zat ["works","places","faults","place","gate","body","leg"] ["works"] (zak zcw):=⟨rfl,rfl,rfl,by decide+kernel,rfl,by decide+kernel,by decide+kernel⟩
theorem zeE (T:Txt K mg t):FnOk P w K mg base CX0 1 t.f_every_fault t.fd_every_fault ["works"] (zlU K):=by
 refine T.d_every_fault.F.okB zbg (fun vs H Q E h=>?_) (fun cdv A outer s H vs Q E hr h=>?_)
 ·obtain ⟨x,w,rfl,_⟩:=h
  rfl
 obtain ⟨x,w,rfl,hx,wf,q⟩:=h
 obtain ⟨a,ga,oa,gs,os,rfl,ha,hg,ho,rg,ro⟩:=zbr hx
 have lg:gs.length=w.gates.length:=by rw [rg.length,yB]
 have i1:=wf.i1
 have i6:=wf.i6
 have few:=wf.few
 refine ⟨_,(zae (ze6 (k:=1) rfl (N:=["wire"]) (n:=1) (cap:=[]) (zbc rfl rfl) zbg.nd rfl rfl (zaW rfl T.z_range (zaa (zao zbE (zas zaL (bpv 0) zag (fun _ _=>rfl)) (zaK zaD rfl T.z_len xA (zaa (zas zaL (bpv 0) zag (fun _ _=>rfl)) (zac)))) (zac))) (zaF (by decide)) (fun _ _ _ _=>(zah (k:=0) (show (["wire"]:List Str).Nodup by decide+kernel) rfl (Or.inl rfl))) (fun _ _ _ _=>zaI) (fun _ _ _ _=>(zaG (zaa zay (zaa (bpv 0) (zac))))) rfl)
  (zae (zaE qA rfl (zdQ rfl T.z_enumerate (zaa (zas zaL (bpv 0) zag (fun _ _=>rfl)) (zac))) (zcK rfl (zar (zah (k:=4) zbg.nd rfl (Or.inl rfl)) (zar (zah (k:=5) zbg.nd rfl (Or.inl rfl)) za1))) (zaf (zaE qA rfl (zaW rfl T.z_range (zaa (zaK zaD rfl T.z_len xA (zaa (zas zaL (bpv 5) zag (fun _ _=>rfl)) (zac))) (zac))) (zah (k:=6) zbg.nd rfl (Or.inl rfl)) (zaf (zba (zbW qJ qO qP zaY (bpv 1) (zaa (zaG (zaa zay (zaa (bpv 4) (zaa (bpv 6) (zac))))) (zac))))))))
  (zae (zal (k:=2) zbg.nd rfl (Or.inl rfl) (zau zac))
  (zae (zaE qA rfl (zaz (bpv 1)) (zah (k:=3) zbg.nd rfl (Or.inl rfl)) (zae (zba (zbW qJ qO qP zaY (bpv 2) (zaa (zao zmX (bpv 3) (zaG (zaa zag (zac)))) (zac))))
  (zaf (zba (zbW qJ qO qP zaY (bpv 2) (zaa (zao zmX (bpv 3) (zaG (zaa zag (zac)))) (zac)))))))
  (zaf (zap (bpv 2))))))),?_⟩
 refine ⟨_,rfl,a,_,_,_,rfl,rfl,ha,rfl,_,rfl,a,_,_,_,rfl,rfl,ha,rfl,ga,_,rfl,.inl hg,_,_,rfl,rfl,_,rfl,by omega,by omega,fun pl hpl=>?_⟩
 refine zfP (fun i H2=>∃ xs,Bld K H pl xs ((zc7 i).map .tuple) H2) ⟨[],.start hpl⟩ ?_ ?_
 ·rintro i H2 hi ⟨xs,b⟩
  rw [yal]
  have lx:=b.len
  rw [yB,zcH] at lx
  refine ⟨_,rfl,(by show 2≤yM;decide),fun T1 h1=>⟨xs,(b.new h1 _).at_,big (by omega),xs++ [.ref T1],?_⟩⟩
  have:=b.pushT (es:=[.str "wire",.int i]) h1 (.cons (.str _) (.cons (.int _) .nil))
  simpa [zc7,zms] using this
 rintro H2 ⟨xs,b⟩
 have e2:(w.ins+(gs.length:Int)).toNat=w.ins.toNat+w.gates.length:=by omega
 rw [e2] at b
 refine ⟨_,rfl,a,_,_,_,rfl,rfl,b.same.seqT ha,rfl,ga,rfl,⟨_,b.same.seq hg⟩,zgv (K:=K) (a:=ga) (xs:=gs)
  (fun i σ H2=>∃ (xs:List V) (o1 o2 o3 o4 o5:Option V),σ = [some (.ref a),some (.ref pl),o1,o2,o3,o4,o5]∧Bld K H pl xs ((zc7 (w.ins.toNat+w.gates.length)++zcR w.gates i).map .tuple) H2)
  ⟨xs,_,_,_,_,_,rfl,by simpa [zcR] using b⟩ (fun i σ H2 _ ⟨_,_,_,_,_,_,_,b⟩=>b.same.seq hg) ?_ ?_⟩
 ·rintro i x σ H2 T1 hx ⟨xs,o1,o2,o3,o4,o5,rfl,b⟩ h1
  have hi:i < gs.length:=(yF.mp hx).1
  obtain ⟨g,hgk⟩:∃ g,w.gates[i]? =some g:=⟨_,yC (by omega)⟩
  obtain ⟨d,hd,rv⟩:=rg.get hx
  rw [yG,hgk] at hd
  cases hd
  obtain ⟨a1,la,rfl,hA,hL⟩:=zgL rv
  have lk:=(wf.legs i g hgk).1.le
  have ll:((g.2.map V.int).length:Int)=g.2.length:=by rw [yB]
  have b':=b.new h1 (.tup [.int i,.ref a1])
  refine ⟨T1,_,rfl,.of zab,rfl,_,_,rfl,_,_,rfl,rfl,?_⟩
  refine ⟨_,rfl,a1,_,_,_,rfl,rfl,b'.same.seqT hA,rfl,la,_,rfl,.inr (b'.same.seqT hL),_,rfl,by omega,by omega,?_⟩
  refine zeg (fun j σ H3=>∃ (xs:List V) (o1 o2 o5:Option V),σ = [some (.ref a),some (.ref pl),o1,o2,some (.int i),some (.ref a1),o5]∧
   Bld K H pl xs ((zc7 (w.ins.toNat+w.gates.length)++zcR w.gates i++zfE i j).map .tuple) H3) ⟨xs,_,_,_,rfl,by simpa [zfE] using b'⟩ ?_ ?_
  ·rintro j σ H3 hj ⟨xs,o1,o2,o5,rfl,b⟩
   rw [yal]
   have lx:=b.len
   have g1:=zdu wf i
   rw [yB,yJ,yJ,zfx,zcH] at lx
   refine ⟨_,rfl,.inl ⟨rfl,_,b.sq⟩,_,rfl,_,rfl,(by show 3≤yM;decide),fun T2 h2=>?_⟩
   refine ⟨pl,xs,_,rfl,rfl,(b.new h2 _).at_,big (by omega),xs++ [.ref T2],_,_,_,rfl,?_⟩
   have:=b.pushT (es:=[.str "leg",.int i,.int j]) h2 (.cons (.str _) (.cons (.int _) (.cons (.int _) .nil)))
   simpa [zfE,legP] using this
  ·rintro σ H3 ⟨xs,o1,o2,o5,rfl,b⟩
   have e3:((g.2.map V.int).length:Int).toNat=g.2.length:=by omega
   rw [e3] at b
   exact ⟨xs,_,_,_,_,_,rfl,by simpa [zcR,hgk,xF] using b⟩
 rintro σ H2 ⟨xs,o1,o2,o3,o4,o5,rfl,b⟩
 rw [lg] at b
 have lp:(zbd w).length≤200:=by
  have g1:=zdu wf w.gates.length
  unfold zbd
  rw [yJ,zcH]
  omega
 have rp:Reps K H2 xs ((zbd w).map .tuple):=b.reps
 refine ⟨(by show 0≤yM;decide),fun f hf=>?_⟩
 have s1:Same H2 (upd H2 f (.lst [])):=zad hf _
 refine ⟨_,rfl,pl,rfl,⟨_,s1.seq b.sq⟩,zaV (K:=K) (a:=pl) (xs:=xs)
  (fun i σ H3=>∃ (ys:List V) (o2 o3 o4 o5:Option V),σ = [some (.ref a),some (.ref pl),some (.ref f),o2,o3,o4,o5]∧Bld K H2 f ys (zeA ((zbd w).take i)) H3∧FAll H3 ys (((zbF w).take i).flatMap fun p=>[⟨p,0⟩,⟨p,1⟩]))
  ⟨[],_,_,_,_,rfl,.start hf,.nil⟩ (fun i σ H3 _ ⟨_,_,_,_,_,_,b3,_⟩=>b3.same.seq b.sq) ?_ ?_⟩
 ·rintro i x σ H3 hx ⟨ys,o2,o3,o4,o5,rfl,b3,fa3⟩
  obtain ⟨d,hd,rx⟩:=rp.get hx
  rw [yG] at hd
  cases hp:(zbd w)[i]? with
  | none=>rw [hp] at hd;cases hd
  | some p=>
   rw [hp] at hd
   cases hd
   cases rx with
   | @tup a1 vs _ h1 r1=>
    have hi:i < (zbd w).length:=(yF.mp hp).1
    have et:(zbd w).take (i+1)=(zbd w).take i++ [p]:=by
     rw [yO,hp]
     rfl
    have pne:vs≠[]:=by
     intro z
     subst z
     cases r1
     exact znk hp
    have lv:vs.length≤3:=by
     rw [r1.length]
     exact zmZ hp
    have ly:=b3.len
    rw [zhj,yP] at ly
    obtain ⟨pk,hpk,epk⟩:∃ pk,(zbF w)[i]? =some pk∧p=pk.map kD:=by
     rw [← zfa,yG] at hp
     cases hz:(zbF w)[i]? with
     | none=>rw [hz] at hp;cases hp
     | some pk=>rw [hz] at hp;cases hp;exact ⟨pk,rfl,rfl⟩
    have ek:(zbF w).take (i+1)=(zbF w).take i++ [pk]:=by
     rw [yO,hpk]
     rfl
    have ev0:vs++ [.int 0]=pk.map kV++ [.int 0]:=zen (K:=K) (H:=H2) (by rw [← epk];exact r1.snoc (.int 0))
    have ev1:vs++ [.int 1]=pk.map kV++ [.int 1]:=zen (K:=K) (H:=H2) (by rw [← epk];exact r1.snoc (.int 1))
    refine ⟨_,rfl,.inl ⟨rfl,_,b3.sq⟩,_,rfl,(by show 1≤yM;decide),fun T1 n1=>?_⟩
    have c1:=b3.new n1 (.tup [.int 0])
    refine ⟨a1,T1,vs,_,rfl,rfl,c1.same.seqT h1,.of zab,pne,bigE (by simp;omega),(fun z=>nomatch z),fun _ T2 n2=>?_⟩
    have c2:=c1.pushT n2 (r1.snoc (.int 0))
    refine ⟨f,ys,_,rfl,rfl,(c1.new n2 _).at_,big (by omega),?_⟩
    refine ⟨_,rfl,.inl ⟨rfl,_,c2.sq⟩,_,rfl,(by show 1≤yM;decide),fun T3 n3=>?_⟩
    have c3:=c2.new n3 (.tup [.int 1])
    refine ⟨a1,T3,vs,_,rfl,rfl,c3.same.seqT h1,.of zab,pne,bigE (by simp;omega),(fun z=>nomatch z),fun _ T4 n4=>?_⟩
    have c4:=c3.pushT n4 (r1.snoc (.int 1))
    refine ⟨f,_,_,rfl,rfl,(c3.new n4 _).at_,big (by simp;omega),ys++ [.ref T2]++ [.ref T4],_,_,_,_,rfl,?_⟩
    constructor
    ·rw [et,zbU,zfs]
     simpa [xF] using c4
    ·rw [ek,vX]
     have fa4:=((fa3.new n1 (.tup [.int 0])).new n2 (.tup (vs++ [.int 0]))).write (c1.new n2 _).at_ (.lst (ys++ [.ref T2]))
     have g0:FAt (upd (upd (upd H3 T1 (.tup [.int 0])) T2 (.tup (vs++ [.int 0]))) f (.lst (ys++ [.ref T2]))) ⟨pk,0⟩ (.ref T2):=FAt.write ⟨T2,rfl,by rw [zab,ev0]⟩ (c1.new n2 _).at_ _
     have fa5:=((((show FAll _ _ [_] from .cons g0 .nil)).new n3 (.tup [.int 1])).new n4 (.tup (vs++ [.int 1]))).write (c3.new n4 _).at_ (.lst (ys++ [.ref T2]++ [.ref T4]))
     have fa6:=((fa4.new n3 (.tup [.int 1])).new n4 (.tup (vs++ [.int 1]))).write (c3.new n4 _).at_ (.lst (ys++ [.ref T2]++ [.ref T4]))
     have g1:=FAt.write (f:=⟨pk,1⟩) (v:=.ref T4) ⟨T4,rfl,by rw [zab,ev1]⟩ (c3.new n4 (.tup (vs++ [.int 1]))).at_ (.lst (ys++ [.ref T2]++ [.ref T4]))
     cases fa5 with
     | cons z _=>
      have z2:=FAll.app fa6 (.cons z (.cons g1 .nil))
      rw [show ys++ [V.ref T2,V.ref T4]=ys++ [.ref T2]++ [.ref T4] by simp] at z2
      exact z2
 ·rintro σ H3 ⟨ys,o2,o3,o4,o5,rfl,b3,fa3⟩
  have e5:(zbd w).take xs.length=zbd w:=by
   rw [b.len]
   show (zbd w).take ((zbd w).map Dat.tuple).length=_
   rw [yB,yQ]
  have e6:(zbF w).take xs.length=zbF w:=by
   rw [b.len]
   show (zbF w).take ((zbd w).map Dat.tuple).length=_
   rw [yB,← zfa,yB,yQ]
  rw [e6] at fa3
  exact ⟨_,rfl,q f ys H3 (b.same.trans b3.same) (b.same.free hf) b3.at_ fa3⟩
theorem zcN:zat ["works","seen","fault"] ["works"] (zak zch):=⟨rfl,rfl,rfl,by decide+kernel,rfl,by decide+kernel,by decide+kernel⟩
theorem zd7 (T:Txt K mg t):FnOk P w K mg base CX0 5 t.f_seen_of_each t.fd_seen_of_each ["works"] (sp_soe K):=by
 refine T.d_seen_of_each.F.okB zcN (fun vs H Q E h=>?_) (fun cdv A outer s H vs Q E hr h=>?_)
 ·obtain ⟨x,w,rfl,_⟩:=h
  rfl
 obtain ⟨x,w,rfl,hx,wf,q⟩:=h
 have hu1:=zgn hr
 have hu64:=hr.units
 have lf:=zdY wf
 refine ⟨_,(zae (zal (k:=1) zcN.nd rfl (Or.inl rfl) zcn)
  (zae (zaE qA rfl (zaz (zaj (zeE T) (hr.mono (by decide)) rfl T.d_every_fault.m T.d_every_fault.F.kp T.d_every_fault.b .nil zaC (zaa (bpv 0) (zac)))) (zah (k:=2) zcN.nd rfl (Or.inl rfl)) (zaf (ziV hu1 (bpv 1) (bpv 2) (zaj (zbB T) (hr.mono (by decide)) rfl T.d_outputs_seen.m T.d_outputs_seen.F.kp T.d_outputs_seen.b .nil zaC (zaa (bpv 0) (zaa (zjl hu1 (zco zo8 (bpv 2) zc8 (zcW (zhX zhL zag))) (zas zaL (bpv 2) (zhX zhL zag) (fun _ _=>rfl))) (zac)))) rfl)))
  (zaf (zap (bpv 1))))),?_⟩
 refine fun d hd=>?_
 have s0:=zad hd (.dT [])
 refine ⟨_,rfl,x,w,rfl,hx.mono s0,wf,fun r xs H1 s1 nr er fa=>?_⟩
 have s01:=s0.trans s1
 have lx:=qI fa
 refine ⟨r,rfl,⟨_,.of er⟩,zaV (K:=K) (a:=r) (xs:=xs)
  (fun i σ H3=>∃ (o2:Option V) (kvs:List (List Key×V)),σ = [some x,some (.ref d),o2]∧Same (hole d H1) H3∧H3 d=some (.dT kvs)∧zfh H3 w kvs ((allF w).take i))
  ⟨_,[],rfl,(zcV (s1 _ _ zab)).same,s1 _ _ zab,.nil⟩ (fun i σ H3 _ ⟨_,_,_,s3,_⟩=>.of (s3 _ _ (by rw [zaR (fun z=>by rw [z,s1 _ _ zab] at er;cases er)];exact er))) ?_ ?_⟩
 ·rintro i v σ H3 hv ⟨o2,kvs,rfl,s3,e3,sd⟩
  have ed1:=s1 _ _ (zab (H:=H) (a:=d) (o:=.dT []))
  have offd:=zcV ed1
  have sH:=(zem s01 hd).trans s3
  obtain ⟨f,hf,b,rfl,hb⟩:=zaS fa hv
  have bd:b≠d:=fun z=>by rw [z,ed1] at hb;cases hb
  have hb3:=s3 _ _ (show hole d H1 b=_ by rw [zaR bd];exact hb)
  have li:i < (allF w).length:=(yF.mp hf).1
  have et:(allF w).take (i+1)=(allF w).take i++ [f]:=by rw [yO,hf];rfl
  have nf:f∉(allF w).take i:=fun z=>by
   have nd:=zfJ w
   rw [← kI (i+1) (allF w),et] at nd
   exact (jG.mp (jG.mp nd).1).2.2 _ z _ (yE.mpr rfl) rfl
  have gf:=zbl (yH hf)
  refine ⟨_,rfl,fun p hp=>?_⟩
  have k1:=zad hp (.dT [])
  refine ⟨_,rfl,_,rfl,_,rfl,b,_,rfl,.of (k1 _ _ hb3),zk2 _ _,fun T1 h1=>?_⟩
  rw [show (-(1:Int))= -1 from rfl,zil]
  have k2:=zad h1 (.tup (f.place.map kV))
  refine ⟨_,rfl,_,rfl,b,_,_,_,rfl,rfl,.of ((k1.trans k2) _ _ hb3),zkq _ _,k2 _ _ zab,T1,f.place,rfl,.inl zab,?_⟩
  have s36:=(k1.trans k2).write hp (.dT [(f.place,.int f.worth)])
  refine ⟨x,p,w,[f],rfl,hx.mono (sH.trans s36),wf,zab,fun g hg=>by rw [yE.mp hg];exact gf.2,(by unfold zdh;simp),by show 1≤1000;decide,fun r2 H7 s7 n7 e7=>?_⟩
  have s37:=s36.trans s7
  have ed7:=s37 _ _ e3
  have nv:=zfh.miss sd nf
  have lk:kvs.length≤400:=by
   have:=qI sd
   rw [yP] at this
   omega
  refine ⟨_,rfl,_,rfl,d,_,rfl,DPut.t (k:=fkK f) ed7 (by rw [zkK];exact s37 _ _ hb3) (big (by omega)),_,_,rfl,(s3.trans s37).write (offd.out d (.head _)) _,zab,?_⟩
  rw [zev _ nv,et]
  have rd:r2≠d:=fun z=>by rw [z,ed7] at e7;cases e7
  exact zcJ ((sd.mono s37).put ed7 _) ⟨rfl,r2,rfl,by rw [zai rd];exact e7⟩
 ·rintro σ H3 ⟨o2,kvs,rfl,s3,e3,sd⟩
  rw [lx,yQ] at sd
  exact ⟨_,rfl,q d kvs H3 ((zem s01 hd).trans s3) hd e3 sd⟩
theorem zbi:zat ["works","right","never_found","groups","fault","seen"] ["works"] (zak zck):=⟨rfl,rfl,rfl,by decide+kernel,rfl,by decide+kernel,by decide+kernel⟩
theorem zhe (T:Txt K mg t):FnOk P w K mg base CX0 6 t.f_fault_groups t.fd_fault_groups ["works"] (sp_fgR K):=by
 refine T.d_fault_groups.F.okB zbi (fun vs H Q E h=>?_) (fun cdv A outer s H vs Q E hr h=>?_)
 ·obtain ⟨x,w,rfl,_⟩:=h
  rfl
 obtain ⟨x,w,rfl,hx,wf,q⟩:=h
 have hu1:=zgn hr
 have hu64:=hr.units
 have lf:=zdY wf
 refine ⟨_,(zae (zal (k:=1) zbi.nd rfl (Or.inl rfl) (zaj (zbB T) (hr.mono (by decide)) rfl T.d_outputs_seen.m T.d_outputs_seen.F.kp T.d_outputs_seen.b .nil zaC (zaa (bpv 0) (zaa zcn (zac)))))
  (zae (zal (k:=2) zbi.nd rfl (Or.inl rfl) (zau zac))
  (zae (zal (k:=3) zbi.nd rfl (Or.inl rfl) zcn)
  (zae (zaE qA rfl (zgH (zaj (zd7 T) (hr.mono (by decide)) rfl T.d_seen_of_each.m T.d_seen_of_each.F.kp T.d_seen_of_each.b .nil zaC (zaa (bpv 0) (zac)))) (zcK rfl (zar (zah (k:=4) zbi.nd rfl (Or.inl rfl)) (zar (zah (k:=5) zbi.nd rfl (Or.inl rfl)) za1))) (zaf (zaP (zax (zns hu64) (bpv 5) (bpv 1) (zaO _)) (zaf (zba (zbW qJ qO qP zaY (bpv 2) (zaa (bpv 4) (zac))))) (zaf (zba (zbW qJ qO qP zaY (zbW vQ yaO PySem.F.type_dict_setdefault (znL hu1) (bpv 3) (zaa (zbw zfn rfl T.z_tuple ybq (zaa (bpv 5) (zac))) (zaa (zau zac) (zac)))) (zaa (bpv 4) (zac))))))))
  (zaf (zap (zao zbS (zj2 rfl T.z_list (bpv 3)) (zau (zaa (bpv 2) (zac)))))))))),?_⟩
 refine ⟨_,rfl,fun e0 he0=>?_⟩
 have s0:=zad he0 (.dT [])
 refine ⟨x,e0,w,[],rfl,hx.mono s0,wf,zab,(fun f hf=>nomatch hf),(by unfold zdh;simp),by show 0≤1000;decide,fun rt H1 s1 nrt ert=>?_⟩
 have s01:=s0.trans s1
 refine ⟨(by show 0≤yM;decide),fun nv hnv=>?_⟩
 have k1:=zad hnv (.lst [])
 refine fun gd hgd=>?_
 have k2:=zad hgd (.dT [])
 have s02:=(s01.trans k1).trans k2
 refine ⟨_,rfl,x,w,rfl,hx.mono s02,wf,fun d kvS H2 s2 nd ed sd=>?_⟩
 refine ⟨d,kvS,rfl,ed,fun ob=>?_⟩
 have sn:=(k2 _ _ (zab (H:=H1) (a:=nv) (o:=.lst [])))
 have en2:=s2 _ _ sn
 have eg2:=s2 _ _ (zab (H:=upd H1 nv (.lst [])) (a:=gd) (o:=.dT []))
 have ert2:=s2 _ _ (k2 _ _ (k1 _ _ ert))
 have nd0:=zam sn nd
 have nd1:=zam (zab (H:=upd H1 nv (.lst [])) (a:=gd) (o:=.dT [])) nd
 have drt:d≠rt:=fun z=>by rw [z,ert2] at ed;cases ed
 have ed3:=zab (H:=H2) (a:=d) (o:=.frz ob (.dT kvS))
 have en3:(upd H2 d (.frz ob (.dT kvS))) nv=some (.lst []):=by rw [zai nd0];exact en2
 have eg3:(upd H2 d (.frz ob (.dT kvS))) gd=some (.dT []):=by rw [zai nd1];exact eg2
 have ert3:(upd H2 d (.frz ob (.dT kvS))) rt=some (.lst ((zav w []).map V.int)):=by rw [zai (jL drt)];exact ert2
 have sd3:zfh (upd H2 d (.frz ob (.dT kvS))) w kvS (allF w):=sd.put ed _
 have s03:Same H (upd H2 d (.frz ob (.dT kvS))):=fun b o e=>by
  rw [zai (fun z=>by rw [z] at e;have:=s02 _ _ e;rw [nd] at this;cases this)]
  exact s2 _ _ (s02 _ _ e)
 generalize upd H2 d (.frz ob (.dT kvS))=H3 at ed3 en3 eg3 ert3 sd3 s03 ⊢
 have off:=znI en3 eg3
 have notnv:∀ {c:Addr} {ns:List Int},H3 c=some (.lst (ns.map V.int))→ns≠[]→hole gd (hole nv H3) c=some (.lst (ns.map V.int)):=fun {c ns} e ne=>by
  rw [zaR (fun z=>by rw [z,eg3] at e;cases e),zaR (fun z=>by rw [z,en3] at e;cases ns with | nil=>exact ne rfl | cons _ _=>cases e)]
  exact e
 have nseen:∀ fs,(∀ f∈fs,f.worth=0∨f.worth=1)→zav w fs≠[]:=fun fs fb z=>by
  have:=(zb2 fb wf).2.1
  rw [z] at this
  have:=wf.o1
  simp at *
  omega
 have grt:=notnv ert3 (nseen [] (fun f hf=>nomatch hf))
 have ged:hole gd (hole nv H3) d=some (.frz ob (.dT kvS)):=by rw [zaR (jL nd1),zaR (jL nd0)];exact ed3
 have g0:∀ c,H c=none→c≠rt→hole gd (hole nv H3) c=none→True:=fun _ _ _ _=>trivial
 have sG:Same H (hole gd (hole nv H3)):=fun b o e=>by
  have z1:b≠nv:=fun z=>by rw [z] at e;have:=s01 _ _ e;rw [hnv] at this;cases this
  have z2:b≠gd:=fun z=>by rw [z] at e;have:=(s01.trans k1) _ _ e;rw [hgd] at this;cases this
  rw [zaR z2,zaR z1]
  exact s03 _ _ e
 have hnv0:H nv=none:=s01.free hnv
 have lkS:=qI sd3
 generalize hole gd (hole nv H3)=G1 at off grt ged sG notnv
 refine znF (d:=d) (ob:=ob) (kvs:=kvS) (fun i σ H4=>∃ (o4 o5:Option V) (kvs:List (List Key×V)) (gas:List (Addr×List Flt)) (xn:List V),σ = [some x,some (.ref rt),some (.ref nv),some (.ref gd),o4,o5]∧GStR G1 nv gd w i H4 kvs gas xn)
  ⟨_,_,[],[],[],rfl,off,en3,.nil,eg3,.nil,rfl,(fun j ag h=>by simp at h),(fun i j a b h=>by simp at h),qL _,qL _⟩ (fun i σ H4 _ ⟨_,_,_,_,_,_,g⟩=>g.off.same _ _ ged) ?_ ?_
 ·rintro i b p σ H4 T hp ⟨o4,o5,kvs,gas,xn,rfl,g⟩ hT hb
  obtain ⟨f,hf,ep,l,el,hl⟩:=zaS sd3 hp
  have li:i < (allF w).length:=(yF.mp hf).1
  have et:(allF w).take (i+1)=(allF w).take i++ [f]:=by rw [yO,hf];rfl
  have gf:=zbl (yH hf)
  have fb1:∀ h∈[f],h.worth=0∨h.worth=1:=fun h hh=>by rw [yE.mp hh];exact gf.2
  have gl:=notnv hl (nseen [f] fb1)
  rw [ep,zkK] at hb
  rw [el]
  have kT:=zad hT (.tup [.ref b,.ref l])
  refine ⟨T,_,rfl,.of zab,rfl,_,_,rfl,_,_,rfl,rfl,?_⟩
  have el4:=kT _ _ (g.off.same _ _ gl)
  have er4:=kT _ _ (g.off.same _ _ grt)
  have hb5:=hb.same kT
  have fb:FAtR (upd H4 T (.tup [.ref b,.ref l])) f (.ref b):=⟨b,rfl,hb5⟩
  have en5:=kT _ _ g.en
  have eg5:=kT _ _ g.eg
  have off5:=g.off.grow kT
  have fn5:=g.fn.mono kT
  have each5:∀ (j:Nat) ag,gas[j]? =some ag→G1 ag.1=none∧ag.1≠nv∧ag.1≠gd∧GAtR (upd H4 T (.tup [.ref b,.ref l])) ag∧ag.2.length≤i:=fun j ag h=>let ⟨a1,a2,a3,a4,a5⟩:=g.each j ag h;⟨a1,a2,a3,a4.mono kT,a5⟩
  generalize upd H4 T (.tup [.ref b,.ref l])=H5 at el4 er4 hb5 fb en5 eg5 off5 fn5 each5 ⊢
  refine ⟨_,rfl,_,rfl,.list ((zav w [f]).map Dat.int),.list ((zav w []).map Dat.int),.lst (.of el4) (Reps.ints _),.lst (.of er4) (Reps.ints _),zdy _,zdy _,fun e=>⟨_,rfl,iteT ?_⟩,fun ne=>⟨_,rfl,iteF ?_⟩⟩
  ·have e':zav w [f]=zav w []:=wI (fun x y e=>Dat.int.inj e) |>.mp (Dat.list.inj e)
   have l2:=g.l2
   refine ⟨_,rfl,.inl ⟨rfl,_,.of en5⟩,_,rfl,nv,xn,_,rfl,rfl,en5,big (by omega),_,_,kvs,gas,xn++ [.ref b],rfl,?_⟩
   have st:grpV (fun f=>zav w [f]) (zav w []) ((allF w).take (i+1))=((grpV (fun f=>zav w [f]) (zav w []) ((allF w).take i)).1,(grpV (fun f=>zav w [f]) (zav w []) ((allF w).take i)).2++ [f]):=by
    rw [et,zcq]
    exact if_pos e'
   have gn:gd≠nv:=fun z=>by rw [z,en5] at eg5;cases eg5
   refine ⟨off5.write (.head _) _,zab,?_,by rw [zai gn];exact eg5,g.kv,by rw [st];exact g.gs,fun j ag h=>?_,g.one,vT g.l1,by rw [yJ,yX];omega⟩
   ·rw [st]
    exact zcJ (fn5.write en5 _) (fb.write en5 _)
   ·obtain ⟨a1,a2,a3,a4,a5⟩:=each5 j ag h
    exact ⟨a1,a2,a3,a4.write a2 en5 _,vT a5⟩
  ·have ne':¬zav w [f]=zav w []:=fun z=>ne (by rw [z])
   have l1:=g.l1
   have lk:=qI g.kv
   have st:grpV (fun f=>zav w [f]) (zav w []) ((allF w).take (i+1))=(putG (fun f=>zav w [f]) f (grpV (fun f=>zav w [f]) (zav w []) ((allF w).take i)).1,(grpV (fun f=>zav w [f]) (zav w []) ((allF w).take i)).2):=by
    rw [et,zcq]
    exact if_neg ne'
   refine ⟨_,rfl,.inr (.inr (.inl ⟨rfl,.inr ⟨_,eg5⟩⟩)),_,rfl,l,_,rfl,.inl ⟨.of el4,fun T0 h0=>?_⟩⟩
   have j1:=zad h0 (.tup ((zav w [f]).map V.int))
   refine ⟨(by show 0≤yM;decide),fun a0 ha0=>?_⟩
   have j2:=zad ha0 (.lst [])
   have j12:=j1.trans j2
   have eT0:=j2 _ _ (zab (H:=H5) (a:=T0) (o:=.tup ((zav w [f]).map V.int)))
   have ea0:=zab (H:=upd H5 T0 (.tup ((zav w [f]).map V.int))) (a:=a0) (o:=.lst [])
   have a0n:=j1.free ha0
   have en6:=j12 _ _ en5
   have eg6:=j12 _ _ eg5
   have off6:=off5.grow j12
   have fn6:=fn5.mono j12
   have fb6:=fb.mono j12
   have each6:∀ (j:Nat) ag,gas[j]? =some ag→G1 ag.1=none∧ag.1≠nv∧ag.1≠gd∧GAtR (upd (upd H5 T0 (.tup ((zav w [f]).map V.int))) a0 (.lst [])) ag∧ag.2.length≤i:=fun j ag h=>let ⟨a1,a2,a3,a4,a5⟩:=each5 j ag h;⟨a1,a2,a3,a4.mono j12,a5⟩
   have a0g:∀ (j:Nat) ag,gas[j]? =some ag→ag.1≠a0:=fun j ag h=>let ⟨_,_,_,⟨xs,e,_⟩,_⟩:=each5 j ag h;zam e a0n
   have a0nv:=zam en5 a0n
   have a0gd:=zam eg5 a0n
   have a0G:=off5.same.free a0n
   generalize upd (upd H5 T0 (.tup ((zav w [f]).map V.int))) a0 (.lst [])=H6 at eT0 ea0 en6 eg6 off6 fn6 fb6 each6 ⊢
   refine ⟨gd,kvs,T0,sigK (zav w [f]),.ref a0,rfl,rfl,eg6,.inl (by rw [sigK_V];exact eT0),big (by omega),fun v hv=>?_,fun hn=>?_⟩
   ·obtain ⟨j,ag,hj,rfl,epg⟩:=KvG.hit g.kv hv
    obtain ⟨a1,a2,a3,⟨xs,a4,a6⟩,a5⟩:=each6 j ag hj
    have lxs:=qI a6
    have lj:j < gas.length:=(yF.mp hj).1
    refine ⟨.inl ⟨rfl,_,.of a4⟩,_,rfl,ag.1,xs,_,rfl,rfl,a4,big (by omega),_,_,kvs,gas.set j (ag.1,ag.2++ [f]),xn,rfl,?_⟩
    refine ⟨⟨off6.same.write a1 _,off6.out,fun m hm=>?_⟩,by rw [zai (jL a2)];exact en6,?_,by rw [zai (jL a3)];exact eg6,KvG.set g.kv hj,by rw [st,← g.gs];exact epg.symm,fun k bg h=>?_,fun k1 k2 u1 u2 h1 h2 e=>?_,by rw [xZ];omega,vT g.l2⟩
    ·obtain ⟨o,ho⟩:=off6.there m hm
     rcases yR.mp hm with z | z
     ·rw [z,zai (jL a2)];exact ⟨_,en6⟩
     ·rw [yE.mp z,zai (jL a3)];exact ⟨_,eg6⟩
    ·rw [st]
     exact fn6.write a4 _
    ·rw [vS] at h
     by_cases z:j=k
     ·rw [if_pos z,if_pos (by omega)] at h
      cases h
      exact ⟨a1,a2,a3,⟨_,zab,zcJ (a6.write a4 _) (fb6.write a4 _)⟩,by rw [yJ,yX];omega⟩
     ·rw [if_neg z] at h
      obtain ⟨b1,b2,b3,b4,b5⟩:=each6 k bg h
      exact ⟨b1,b2,b3,b4.write (fun y=>z (g.one j k ag bg hj h y.symm)) a4 _,by omega⟩
    ·have back:∀ (k:Nat) u,(gas.set j (ag.1,ag.2++ [f]))[k]? =some u→∃ u',gas[k]? =some u'∧u'.1=u.1:=fun k u h=>by
      rw [vS] at h
      by_cases z:j=k
      ·rw [if_pos z,if_pos (by omega)] at h
       cases h
       exact ⟨ag,by rw [← z];exact hj,rfl⟩
      ·rw [if_neg z] at h
       exact ⟨u,h,rfl⟩
     obtain ⟨v1,g1,q1⟩:=back k1 u1 h1
     obtain ⟨v2,g2,q2⟩:=back k2 u2 h2
     exact g.one k1 k2 v1 v2 g1 g2 (by rw [q1,q2,e])
   ·have epg:=KvG.miss g.kv hn
    have ea7:(upd H6 gd (.dT (putK kvs (sigK (zav w [f])) (.ref a0)))) a0=some (.lst []):=by rw [zai (jL a0gd)];exact ea0
    refine ⟨.inl ⟨rfl,_,.of ea7⟩,_,rfl,a0,[],_,rfl,rfl,ea7,big (by show 0≤100000;decide),_,_,kvs++ [(sigK (zav w [f]),.ref a0)],gas++ [(a0,[f])],xn,rfl,?_⟩
    rw [zev _ hn] at ea7 ⊢
    have en7:(upd H6 gd (.dT (kvs++ [(sigK (zav w [f]),.ref a0)]))) nv=some (.lst xn):=by rw [zai (fun z=>by rw [← z,en6] at eg6;cases eg6)];exact en6
    have off7:=off6.write (m:=gd) (.tail _ (.head _)) (.dT (kvs++ [(sigK (zav w [f]),.ref a0)]))
    refine ⟨⟨off7.same.write a0G _,off7.out,fun m hm=>?_⟩,by rw [zai a0nv];exact en7,?_,by rw [zai a0gd];exact zab,zcJ g.kv ⟨rfl,f,[],rfl,rfl⟩,?_,fun k bg h=>?_,fun k1 k2 u1 u2 h1 h2 e=>?_,by rw [yJ,yX];omega,vT g.l2⟩
    ·rcases yR.mp hm with z | z
     ·rw [z,zai a0nv];exact ⟨_,en7⟩
     ·rw [yE.mp z,zai a0gd];exact ⟨_,zab⟩
    ·rw [st]
     exact (fn6.put eg6 _).write ea7 _
    ·rw [st,yK,← g.gs]
     exact epg.symm
    ·by_cases z:k < gas.length
     ·rw [qU z] at h
      obtain ⟨b1,b2,b3,b4,b5⟩:=each6 k bg h
      exact ⟨b1,b2,b3,(b4.put eg6 _).write (a0g k bg h) ea7 _,by omega⟩
     ·rw [qV (by omega)] at h
      have:k - gas.length=0:=by
       have:=(yF.mp h).1
       simp at this
       omega
      rw [this] at h
      cases h
      exact ⟨a0G,jL a0nv,jL a0gd,⟨_,zab,.cons ((fb6.put eg6 _).write ea7 _) .nil⟩,by show 1≤i+1;omega⟩
    ·have sp:∀ (k:Nat) u,(gas++ [(a0,[f])])[k]? =some u→(gas[k]? =some u∧k < gas.length)∨(k=gas.length∧u.1=a0):=fun k u h=>by
      by_cases z:k < gas.length
      ·rw [qU z] at h
       exact .inl ⟨h,z⟩
      ·rw [qV (by omega)] at h
       have:k - gas.length=0:=by
        have:=(yF.mp h).1
        simp at this
        omega
       rw [this] at h
       cases h
       exact .inr ⟨by omega,rfl⟩
     rcases sp k1 u1 h1 with ⟨g1,_⟩ | ⟨g1,z1⟩ <;> rcases sp k2 u2 h2 with ⟨g2,_⟩ | ⟨g2,z2⟩
     ·exact g.one k1 k2 u1 u2 g1 g2 e
     ·exact absurd (e.trans z2) (a0g k1 u1 g1)
     ·exact absurd (e.symm.trans z1) (a0g k2 u2 g2)
     ·omega
 ·rintro σ H4 ⟨o4,o5,kvs,gas,xn,rfl,g⟩
  rw [lkS] at g
  have lk:=qI g.kv
  have l1:=g.l1
  have ggs:=g.gs
  have gfn:=g.fn
  rw [yQ] at ggs gfn
  refine ⟨_,rfl,gd,kvs,rfl,g.eg,fun L hL=>?_⟩
  have j1:=zad hL (.lst (kvs.map (·.2)))
  refine ⟨_,rfl,(by show 1≤yM;decide),fun T1 h1=>?_⟩
  have j2:=zad h1 (.lst [.ref nv])
  refine ⟨L,T1,_,_,rfl,rfl,j2 _ _ zab,zab,bigE (by rw [yB,yX];omega),fun R hR=>?_⟩
  have j3:=zad hR (.lst (kvs.map (·.2)++ [.ref nv]))
  have jj:=(j1.trans j2).trans j3
  have HR:=(j1.trans j2).free hR
  refine q R (gas++ [(nv,(grpV (fun f=>zav w [f]) (zav w []) (allF w)).2)]) _ ((sG.trans g.off.same).trans jj) (sG.free (g.off.same.free HR)) (by rw [zab,KvG.vals g.kv,yK];rfl) (fun ag hag=>?_) (by rw [yK,ggs];rfl)
  rcases yU.mp hag with z | z
  ·obtain ⟨j,hj⟩:=jQ z
   obtain ⟨a1,a2,a3,a4,_⟩:=g.each j ag hj
   exact ⟨sG.free a1,zam a4.choose_spec.1 HR,a4.mono jj⟩
  ·rw [yE.mp z]
   exact ⟨hnv0,zam g.en HR,⟨xn,jj _ _ g.en,gfn.mono jj⟩⟩
theorem zhs:zat ["worth"] ["worth"] (zak zcy):=⟨rfl,rfl,rfl,by decide+kernel,rfl,by decide+kernel,by decide+kernel⟩
theorem zhB (T:Txt K mg t):FnOk P w K mg base CX0 1 t.f_input_pairs t.fd_input_pairs ["worth"] sp_ip:=by
 refine T.d_input_pairs.F.okB zhs (fun vs H Q E h=>?_) (fun cdv A outer s H vs Q E hr h=>?_)
 ·obtain ⟨o,rfl,_⟩:=h
  rfl
 obtain ⟨o,rfl,hb,q⟩:=h
 have hu64:=hr.units
 refine ⟨_,(zae (zaP (zeT (zkm (bpv 0))) (zaf (zap (zau (zaa (zaG (zaa zag (zaa zag (zac)))) (zaa (zaG (zaa zag (zaa zag (zac)))) (zac)))))) zaA)
  (zaf (zap (zau (zaa (zaG (zaa (bpv 0) (zaa (bpv 0) (zac)))) (zac)))))),?_⟩
 have two:(2:Nat)≤yM:=by rw [sizeLine_eq];omega
 cases o with
 | none=>
  refine ⟨_,rfl,_,rfl,?_⟩
  refine ite2 (fun _=>?_) (fun c=>absurd (decide_eq_true rfl) c)
  refine ⟨two,fun p1 n1=>⟨two,fun p2 n2=>⟨two,fun l nl=>q _ _ (((zad n1 _).trans (zad n2 _)).trans (zad nl _)) ⟨l,[(0,p1),(3,p2)],rfl,((zad n1 _).trans (zad n2 _)).free nl,zab,rfl,?_⟩⟩⟩⟩
  have e1:p1≠p2:=fun z=>by rw [← z,zab] at n2;cases n2
  have e2:p1≠l:=fun z=>by rw [← z,zai e1,zab] at nl;cases nl
  have e3:p2≠l:=fun z=>by rw [← z,zab] at nl;cases nl
  intro p hp
  rcases yR.mp hp with rfl | hp
  ·exact ⟨show 0 < 4 by decide,n1,by rw [zai e2,zai e1,zab,znr]⟩
  ·rw [yE.mp hp]
   exact ⟨show 3 < 4 by decide,(zad n1 _).free n2,by rw [zai e3,zab,znY]⟩
 | some b=>
  have hb':=hb b rfl
  refine ⟨_,rfl,_,rfl,?_⟩
  refine ite2 (fun c=>nomatch (of_decide_eq_true c)) (fun _=>?_)
  refine ⟨_,rfl,_,rfl,two,fun p1 n1=>⟨Nat.le_of_succ_le two,fun l nl=>q _ _ ((zad n1 _).trans (zad nl _)) ⟨l,[(zbA b b,p1)],rfl,(zad n1 _).free nl,zab,rfl,?_⟩⟩⟩
  have e2:p1≠l:=fun z=>by rw [← z,zab] at nl;cases nl
  intro p hp
  rw [yE.mp hp]
  refine ⟨zdj hb' hb',n1,?_⟩
  rw [zai e2,zab]
  rcases hb' with rfl | rfl
  ·exact congrArg some znr.symm
  ·exact congrArg some znY.symm
theorem zde:zat ["kind","choice","right","wrong"] ["kind","choice"] (zak zcB):=⟨rfl,rfl,rfl,by decide+kernel,rfl,by decide+kernel,by decide+kernel⟩
theorem zhr (T:Txt K mg t):FnOk P w K mg base CX0 2 t.f_chosen_pair t.fd_chosen_pair ["kind","choice"] (sp_cp K):=by
 refine T.d_chosen_pair.F.okB zde (fun vs H Q E h=>?_) (fun cdv A outer s H vs Q E hr h=>?_)
 ·obtain ⟨k,l,ps,rfl,_⟩:=h
  rfl
 obtain ⟨k,l,ps,rfl,hl,hp,lk,q⟩:=h
 have hu64:=hr.units
 have cd:zct (ps.map qB):=fun c hc=>by
  obtain ⟨p,hp',rfl⟩:=yY.mp hc
  exact (hp p hp').1
 have lz:ps.length≤4:=by rcases lk with ⟨_,_,z⟩ | ⟨_,z⟩ | ⟨_,z⟩ | ⟨_,z⟩ <;> omega
 have len:∀ f:Nat→Int,((ps.map qB).map f).length=ps.length:=fun f=>by rw [yB,yB]
 have step:∀ (f:Nat→Int) (j:Nat) (p:Nat×Addr),ps[j]? =some p→(((ps.map qB).take (j+1)).map f).map V.int=(((ps.map qB).take j).map f).map V.int++ [V.int (f p.1)]:=fun f j p hj=>by
  rw [yO,yG,hj,yK,yK]
  rfl
 have small:∀ (f:Nat→Int) (j:Nat),((((ps.map qB).take j).map f).map V.int).length≤4:=fun f j=>by
  rw [yB,yB,yP,yB]
  omega
 refine ⟨_,(zae (zal (k:=2) zde.nd rfl (Or.inl rfl) (zaj (zfp T) (hr.mono (by decide)) rfl T.d_gate_worth.m T.d_gate_worth.F.kp T.d_gate_worth.b1 dflt1 zaC (zaa (bpv 0) (zaa (zaJ rfl (N:=["pair"]) (n:=1) (cap:=[]) (zbc rfl rfl) (zaz (bpv 1)) (zaF (by decide)) (fun _ _ _ _=>(zah (k:=0) (show (["pair"]:List Str).Nodup by decide+kernel) rfl (Or.inl rfl))) (fun _ _ _ _=>zaI) (fun _ _ _ _=>(zas (zm7 (K:=K)) (bpv 0) zag (fun _ _=>rfl)))) (zac)))))
  (zae (zal (k:=3) zde.nd rfl (Or.inl rfl) (zaj (zfp T) (hr.mono (by decide)) rfl T.d_gate_worth.m T.d_gate_worth.F.kp T.d_gate_worth.b1 dflt1 zaC (zaa (bpv 0) (zaa (zaJ rfl (N:=["pair"]) (n:=1) (cap:=[]) (zbc rfl rfl) (zaz (bpv 1)) (zaF (by decide)) (fun _ _ _ _=>(zah (k:=0) (show (["pair"]:List Str).Nodup by decide+kernel) rfl (Or.inl rfl))) (fun _ _ _ _=>zaI) (fun _ _ _ _=>(zas (zm7 (K:=K)) (bpv 0) zag (fun _ _=>rfl)))) (zac)))))
  (zaf (zap (zaG (zaa (bpv 2) (zaa (bpv 3) (zac)))))))),?_⟩
 refine ⟨_,rfl,_,rfl,l,rfl,⟨_,.of hl⟩,fun D hD=>zaN (K:=K) (a:=l) (xs:=ps.map fun p=>V.ref p.2) (fun j H4=>Same H H4∧H4 D=some (.lst ((((ps.map qB).take j).map hiV).map V.int))) ⟨zad hD _,zab⟩ (fun j H4 _ z=>.of (z.1 _ _ hl)) ?_ ?_⟩
 ·rintro j y H4 hy ⟨s4,eD⟩
  rw [yG] at hy
  cases hz:ps[j]? with
  | none=>rw [hz] at hy;cases hy
  | some p=>
   rw [hz] at hy
   cases hy
   have hm:=yH hz
   have hpo:=s4 _ _ (hp p hm).2
   refine ⟨_,rfl,p.2,_,0,_,rfl,rfl,.of hpo,rfl,_,eD,big (jB (small hiV j) (by decide)),s4.write hD _,?_⟩
   rw [zab,step hiV j p hz]
   rfl
 rintro H4 ⟨s4,eD⟩
 rw [yB,jP (by rw [yB];exact yN _)] at eD
 refine ⟨k,D,(ps.map qB).map hiV,rfl,.of eD,cd.hi,by rw [len];exact lk,fun H4' s4'=>?_⟩
 replace s4:=s4.trans s4'
 clear eD s4'
 generalize H4'=H4 at s4
 have hl4:=s4 _ _ hl
 refine ⟨_,rfl,_,rfl,l,rfl,⟨_,.of hl4⟩,fun D2 hD2=>zaN (K:=K) (a:=l) (xs:=ps.map fun p=>V.ref p.2) (fun j H5=>Same H4 H5∧H5 D2=some (.lst ((((ps.map qB).take j).map loV).map V.int))) ⟨zad hD2 _,zab⟩ (fun j H5 _ z=>.of (z.1 _ _ hl4)) ?_ ?_⟩
 ·rintro j y H5 hy ⟨s5,eD2⟩
  rw [yG] at hy
  cases hz:ps[j]? with
  | none=>rw [hz] at hy;cases hy
  | some p=>
   rw [hz] at hy
   cases hy
   have hm:=yH hz
   have hpo:=s5 _ _ (s4 _ _ (hp p hm).2)
   refine ⟨_,rfl,p.2,_,1,_,rfl,rfl,.of hpo,rfl,_,eD2,big (jB (small loV j) (by decide)),s5.write hD2 _,?_⟩
   rw [zab,step loV j p hz]
   rfl
 rintro H5 ⟨s5,eD2⟩
 rw [yB,jP (by rw [yB];exact yN _)] at eD2
 refine ⟨k,D2,(ps.map qB).map loV,rfl,.of eD2,cd.lo,by rw [len];exact lk,fun H5' s5'=>?_⟩
 replace s5:=s5.trans s5'
 clear eD2 s5'
 generalize H5'=H5 at s5
 have bh:=zcT cd.hi (show zbn k ((ps.map qB).map hiV).length by rw [len];exact lk)
 have bl:=zcT cd.lo (show zbn k ((ps.map qB).map loV).length by rw [len];exact lk)
 refine ⟨_,rfl,_,rfl,(show (2:Nat)≤yM by rw [sizeLine_eq];omega),fun r nr=>q r _ ((s4.trans s5).upd nr _) ?_ ?_⟩
 ·cases e:H r with
  | none=>rfl
  | some o=>rw [(s4.trans s5) _ _ e] at nr;cases nr
 ·rw [zab]
  unfold zfv zbR
  show some (HO.tup [V.int _,V.int _])=some (HO.tup [V.int (hiV _),V.int (loV _)])
  rw [zec bh bl,zek bh bl]
theorem zh7:zat ["pairs","stuck","place"] ["pairs","stuck","place"] (zak zcX):=⟨rfl,rfl,rfl,by decide+kernel,rfl,by decide+kernel,by decide+kernel⟩
theorem zdz (T:Txt K mg t):FnOk P w K mg base CX0 1 t.f_with_stuck t.fd_with_stuck ["pairs","stuck","place"] sp_ws:=by
 refine T.d_with_stuck.F.okB zh7 (fun vs H Q E h=>?_) (fun cdv A outer s H vs Q E hr h=>?_)
 ·obtain ⟨v,d,pl,cs,fs,place,rfl,_⟩:=h
  rfl
 obtain ⟨v,d,pl,cs,fs,place,rfl,⟨l,ps,rfl,hl,rfl,hp⟩,lz,hd,hpl,fb,q⟩:=h
 have hu64:=hr.units
 have hu1:=zgn hr
 refine ⟨_,(zae (zaP (zeT (zl7 hu1 (bpv 2) (bpv 1))) (zaf (zap (bpv 0))) zaA)
  (zaf (zap (ze1 rfl hu64 rfl T.z_sorted rfl T.z_set (zaJ rfl (N:=["right","wrong","stuck","place"]) (n:=2) (cap:=[1,2]) (zbc rfl rfl) (zaz (bpv 0)) (zcs (by decide) (by decide)) (fun _ _ _ _=>(zc6 (K:=K) (n:=2) rfl (zar (zah (k:=0) (show (["right","wrong","stuck","place"]:List Str).Nodup by decide+kernel) rfl (Or.inl rfl)) (zar (zah (k:=1) (show (["right","wrong","stuck","place"]:List Str).Nodup by decide+kernel) rfl (Or.inl rfl)) za1)))) (fun _ _ _ _=>zaI) (fun _ _ _ _=>(zaG (zaa (bpv 0) (zaa (zbz hu1 (bpv 2) (bpv 3) (fun _ _=>rfl)) (zac)))))))))),?_⟩
 refine ⟨_,rfl,_,rfl,d,_,rfl,DGet.t (k:=place) hd hpl,_,rfl,?_⟩
 rw [zfF]
 cases hk:look fs place with
 | none=>
  refine ite2 (fun _=>⟨_,rfl,q _ _ (Same.refl _) ?_⟩) (fun c=>absurd rfl c)
  exact .inl ⟨rfl,hk⟩
 | some b=>
  refine ite2 (fun c=>kC c) (fun _=>?_)
  have hb:b=0∨b=1:=zlk fb hk
  have lz':ps.length≤16:=by rw [yB] at lz;exact lz
  refine ⟨_,rfl,l,rfl,⟨_,.of hl⟩,fun D hD=>zaN (K:=K) (a:=l) (xs:=ps.map fun p=>V.ref p.2)
   (fun j H4=>Same H H4∧∃ qs:List (Nat×Addr),qs.map qB=((ps.map qB).take j).map (fun c=>zbA (hiV c) b)∧H4 D=some (.lst (qs.map fun p=>V.ref p.2))∧∀ p∈qs,p.1 < 4∧H4 p.2=some (zfv p.1)∧p.2≠D∧H p.2=none)
   ⟨zad hD _,[],rfl,zab,fun _ z=>(qK z).elim⟩ (fun j H4 _ z=>.of (z.1 _ _ hl)) ?_ ?_⟩
  ·rintro j y H4 hy ⟨s4,qs,eq,eD,hq⟩
   rw [yG] at hy
   cases hz:ps[j]? with
   | none=>rw [hz] at hy;cases hy
   | some p=>
    rw [hz] at hy
    cases hy
    have hm:=yH hz
    have hpo:=s4 _ _ (hp p hm).2
    have lq:qs.length≤16:=by
     have:=congrArg vI eq
     rw [yB,yB,yP,yB] at this
     omega
    refine ⟨p.2,_,rfl,.of hpo,rfl,_,_,rfl,_,_,rfl,rfl,?_⟩
    refine ⟨_,rfl,_,rfl,_,rfl,d,.int b,rfl,(by have:=DGet.t (k:=place) (s4 _ _ hd) (s4 _ _ hpl);rw [zfF,hk] at this;exact this),(show (2:Nat)≤yM by rw [sizeLine_eq];omega),fun r nr=>?_⟩
    have nrD:r≠D:=fun z=>by rw [z,eD] at nr;cases nr
    refine ⟨_,by rw [zai (jL nrD)];exact eD,big (by rw [yB];omega),(s4.upd nr _).write hD _,qs++ [(zbA (hiV p.1) b,r)],?_,?_,?_⟩
    ·rw [yK,eq,yO,yG,hz,yK]
     rfl
    ·rw [zab,yK]
     rfl
    ·intro x hx
     rcases yU.mp hx with hx | hx
     ·obtain ⟨a1,a2,a3⟩:=hq x hx
      have xr:x.2≠r:=fun z=>by rw [z,nr] at a2;cases a2
      exact ⟨a1,by rw [zai a3.1,zai xr];exact a2,a3⟩
     ·rw [yE.mp hx]
      refine ⟨zdj (zhF (hp p hm).1) hb,?_,nrD,s4.free nr⟩
      rw [zai nrD,zab,hpO,zec (zhF (hp p hm).1) hb,zek (zhF (hp p hm).1) hb]
      rfl
  ·rintro H4 ⟨s4,qs,eq,eD,hq⟩
   rw [yB,jP (by rw [yB];exact yN _)] at eq
   refine ⟨D,qs,rfl,eD,fun p hp'=>⟨(hq p hp').1,(hq p hp').2.1⟩,fun D2 L nD2 eL hL=>?_⟩
   refine q _ _ (s4.upd nD2 _) (.inr ⟨D2,L,rfl,s4.free nD2,zab,?_,fun p hp'=>⟨(hq p (hL p hp')).1,(hq p (hL p hp')).2.2.2,?_⟩⟩)
   ·rw [eL,eq,hk]
    rfl
   ·have a2:=(hq p (hL p hp')).2.1
    rw [zai (fun z=>by rw [z,nD2] at a2;cases a2)]
    exact a2
theorem zbj:zat ["legs","choices","pairs","longer","choice"] ["legs"] (zak zci):=⟨rfl,rfl,rfl,by decide+kernel,rfl,by decide+kernel,by decide+kernel⟩
theorem zgR (T:Txt K mg t):FnOk P w K mg base CX0 1 t.f_every_choice t.fd_every_choice ["legs"] sp_ec:=by
 refine T.d_every_choice.F.okB zbj (fun vs H Q E h=>?_) (fun cdv A outer s H vs Q E hr h=>?_)
 ·obtain ⟨a,xs,css,rfl,_⟩:=h
  rfl
 obtain ⟨a,xs,css,rfl,ha,hx,l4,hl4,q⟩:=h
 have lx:=hx.len
 refine ⟨_,(zae (zal (k:=1) zbj.nd rfl (Or.inl rfl) (zau (zaa (zau zac) (zac))))
  (zae (zaE qA rfl (zaz (bpv 0)) (zah (k:=2) zbj.nd rfl (Or.inl rfl)) (zae (zal (k:=3) zbj.nd rfl (Or.inl rfl) (zau zac))
  (zae (zaE qA rfl (zaz (bpv 1)) (zah (k:=4) zbj.nd rfl (Or.inr rfl)) (zaf (zba (zbW qJ PySem.F.slot_list_extend PySem.F.type_list_extend znd (bpv 3) (zaa (zaJ rfl (N:=["pair","choice"]) (n:=1) (cap:=[4]) (zbc rfl rfl) (zaz (bpv 2)) (zaF (by decide)) (fun _ _ _ _=>(zah (k:=0) (show (["pair","choice"]:List Str).Nodup by decide+kernel) rfl (Or.inl rfl))) (fun _ _ _ _=>zaI) (fun _ _ _ _=>(zao zbS (bpv 1) (zau (zaa (bpv 0) (zac)))))) (zac))))))
  (zaf (zal (k:=1) zbj.nd rfl (Or.inl rfl) (bpv 3))))))
  (zaf (zap (bpv 1))))),?_⟩
 refine ⟨(by show 0≤yM;decide),fun e0 he0=>⟨(by show 1≤yM;decide),fun R0 hR0=>?_⟩⟩
 have k0:=zad he0 (.lst [])
 have k1:=zad hR0 (.lst [.ref e0])
 refine ⟨_,rfl,a,rfl,⟨_,.of ((k0.trans k1) _ _ ha)⟩,zaV (K:=K) (a:=a) (xs:=xs) (fun i σ H3=>∃ (C:Addr) (ys:List V) (o2 o3 o4:Option V),σ = [some (.ref a),some (.ref C),o2,o3,o4]∧Same H H3∧H C=none∧H3 C=some (.lst ys)∧PLs H3 ys (zbq [[]] (css.take i))∧∀ y∈ys,NewR H y)
  ⟨R0,[.ref e0],_,_,_,rfl,k0.trans k1,k0.free hR0,zab,.cons ⟨e0,[],rfl,k1 _ _ zab,rfl,fun _ z=>(qK z).elim⟩ .nil,fun y hy=>⟨e0,yE.mp hy,he0⟩⟩ (fun i σ H3 _ ⟨_,_,_,_,_,_,s,_⟩=>.of (s _ _ ha)) ?_ ?_⟩
 ·rintro i x σ H3 hxi ⟨C,ys,o2,o3,o4,rfl,s3,nC,eC,hy,ny⟩
  obtain ⟨cs,hcs,hpx⟩:=hx.get hxi
  have few:(zbq [[]] (css.take i)).length≤256:=by
   refine jB (zdV _ _ fun l hl=>hl4 l (yaL hl)) ?_
   have:(css.take i).length≤4:=by rw [yP];omega
   have:=jT (n:=4) (by decide) this
   show 1 * _≤_
   omega
  have c4:cs.length≤4:=hl4 cs (yH hcs)
  refine ⟨(by show 0≤yM;decide),fun L hL=>?_⟩
  have kL:=zad hL (.lst [])
  refine ⟨_,rfl,C,rfl,⟨_,.of (kL _ _ eC)⟩,zaV (K:=K) (a:=C) (xs:=ys) (fun j σ H4=>∃ (G:Hp) (zs:List V) (o4:Option V),σ = [some (.ref a),some (.ref C),some x,some (.ref L),o4]∧Off [L] G H4∧Same H3 G∧H4 L=some (.lst zs)∧PLs G zs (((zbq [[]] (css.take i)).take j).flatMap fun r=>cs.map fun p=>r++ [p])∧∀ y∈zs,NewR H y)
   ⟨H3,[],_,rfl,Off.start hL _,Same.refl _,zab,.nil,fun _ z=>(qK z).elim⟩ (fun j σ H4 _ ⟨_,_,_,_,o,s,_⟩=>.of ((s.trans o.same) _ _ eC)) ?_ ?_⟩
  ·rintro j y σ H4 hyj ⟨G,zs,o4,rfl,off,sG,eL,hz,nz⟩
   obtain ⟨r,hr',ly,psr,rfl,hly,rfl,hpr⟩:=hy.get hyj
   obtain ⟨lx',ps,rfl,hlx,rfl,hps⟩:=hpx
   have s34:=sG.trans off.same
   have s04:=s3.trans s34
   have lps:ps.length≤4:=by rw [yB] at c4;exact c4
   have lpr:psr.length≤4:=by
    have:=(zaX.mp (show psr.map qB∈choices (css.take i) from yH hr')).length
    rw [yB,yP] at this
    omega
   have lzs:zs.length≤1024:=by
    have h1:=hz.len
    have h2:=zkh c4 ((zbq [[]] (css.take i)).take j)
    have h3:((zbq [[]] (css.take i)).take j).length≤256:=by rw [yP];omega
    omega
   refine ⟨_,rfl,.inl ⟨rfl,_,.of eL⟩,_,rfl,lx',rfl,⟨_,.of (s04 _ _ hlx)⟩,fun D hD=>zaN (K:=K) (a:=lx') (xs:=ps.map fun p=>V.ref p.2)
    (fun m H5=>∃ (G2:Hp) (ws:List V),Off [D,L] G2 H5∧Same G G2∧H5 D=some (.lst ws)∧H5 L=some (.lst zs)∧PLs G2 ws (((ps.map qB).take m).map fun p=>psr.map qB++ [p])∧∀ y∈ws,NewR H y)
    ⟨G,[],off.opn hD _,Same.refl _,zab,zad hD _ _ _ eL,.nil,fun _ z=>(qK z).elim⟩ (fun m H5 _ ⟨_,_,o,s,_⟩=>.of ((s3.trans (sG.trans (s.trans o.same))) _ _ hlx)) ?_ ?_⟩
   ·rintro m y H5 hym ⟨G2,ws,off5,sG2,eD,eL5,hw,nw⟩
    rw [yG] at hym
    cases hzm:ps[m]? with
    | none=>rw [hzm] at hym;cases hym
    | some p=>
     rw [hzm] at hym
     cases hym
     have hm:=yH hzm
     have lws:ws.length≤4:=by
      have:=hw.len
      rw [yB,yP,yB] at this
      omega
     have hly5:=(sG.trans (sG2.trans off5.same)) _ _ hly
     refine ⟨_,rfl,_,rfl,(by show 1≤yM;decide),fun Z hZ=>?_⟩
     have of5:=off5.new hZ (.lst [.ref p.2])
     have kz:=zad hZ (.lst [.ref p.2])
     refine ⟨ly,Z,_,_,rfl,rfl,kz _ _ hly5,zab,bigE (by rw [yB,yX];omega),fun A0 hA0=>?_⟩
     have of6:=of5.lay hA0 (.lst ((psr.map fun p=>V.ref p.2)++ [.ref p.2]))
     have k6:=of5.add hA0 (.lst ((psr.map fun p=>V.ref p.2)++ [.ref p.2]))
     have ka:=zad hA0 (.lst ((psr.map fun p=>V.ref p.2)++ [.ref p.2]))
     have hLD:L≠D:=fun z=>by rw [z,hD] at eL;cases eL
     refine ⟨_,ka _ _ (kz _ _ eD),big (by omega),_,ws++ [.ref A0],of6.write (.head _) _,sG2.trans k6,zab,by rw [zai hLD];exact ka _ _ (kz _ _ eL5),?_,fun y hy=>?_⟩
     rotate_left
     ·rcases yU.mp hy with hy | hy
      ·exact nw y hy
      ·exact ⟨A0,yE.mp hy,((s3.trans (sG.trans sG2)).trans of5.same).free hA0⟩
     rw [yO,yG,hzm,yK]
     refine (PLs.mono k6 hw).append (.cons ⟨A0,psr++ [p],rfl,by rw [zab,yK];rfl,by rw [yK];rfl,fun x hx'=>?_⟩ .nil)
     rcases yU.mp hx' with z | z
     ·exact ⟨(hpr x z).1,k6 _ _ (sG2 _ _ (sG _ _ (hpr x z).2))⟩
     ·rw [yE.mp z]
      exact ⟨(hps p hm).1,k6 _ _ (sG2 _ _ (sG _ _ (s3 _ _ (hps p hm).2)))⟩
   ·rintro H5 ⟨G2,ws,off5,sG2,eD,eL5,hw,nw⟩
    rw [yB,jP (by rw [yB];exact yN _)] at hw
    have lws:ws.length≤4:=by
     have:=hw.len
     rw [yB,yB] at this
     omega
    refine ⟨L,D,_,_,rfl,rfl,eL5,eD,bigE (by omega),G2,zs++ws,_,rfl,off5.drop.write (.head _) _,sG.trans sG2,zab,?_,fun y hy=>(yU.mp hy).elim (nz y) (nw y)⟩
    rw [yO,hr',vX]
    refine (PLs.mono sG2 hz).append ?_
    show PLs G2 ws ([psr.map qB].flatMap _)
    rw [vR,List.flatMap_nil,jW]
    exact hw
  ·rintro σ H4 ⟨G,zs,o4,rfl,off,sG,eL,hz,nz⟩
   have et:(zbq [[]] (css.take i)).take ys.length=zbq [[]] (css.take i):=by rw [hy.len,yQ]
   rw [et,← zh6] at hz
   have e2:css.take (i+1)=css.take i++ [cs]:=by rw [yO,hcs];rfl
   rw [← e2] at hz
   exact ⟨_,rfl,L,zs,_,_,_,rfl,s3.trans (sG.trans off.same),s3.free hL,eL,PLs.mono off.same hz,nz⟩
 ·rintro σ H3 ⟨C,ys,o2,o3,o4,rfl,s3,nC,eC,hy,ny⟩
  rw [lx,yQ] at hy
  exact ⟨_,rfl,q C ys H3 s3 nC eC hy ny⟩
theorem zjJ:zat ["stuck","gate","wires"] ["stuck","gate","wires"] (zak zdK):=⟨rfl,rfl,rfl,by decide+kernel,rfl,by decide+kernel,by decide+kernel⟩
theorem zi2 (T:Txt K mg t):FnOk P w K mg base CX0 2 t.f_leg_pairs t.fd_leg_pairs ["stuck","gate","wires"] sp_lp:=by
 refine T.d_leg_pairs.F.okB zjJ (fun vs H Q E h=>?_) (fun cdv A outer s H vs Q E hr h=>?_)
 ·obtain ⟨d,p,k,fs,xs,css,rfl,_⟩:=h
  rfl
 obtain ⟨d,p,k,fs,xs,css,rfl,hd,fb,hp,hx,l4,hl4,q⟩:=h
 have hu1:=zgn hr
 have lx:=hx.len
 refine ⟨_,(zaf (zap (zaJ rfl (N:=["leg","pairs","stuck","gate"]) (n:=2) (cap:=[0,1]) (zbc rfl rfl) (zdQ rfl T.z_enumerate (zaa (bpv 2) (zac))) (zcs (by decide) (by decide)) (fun _ _ _ _=>(zc6 (K:=K) (n:=2) rfl (zar (zah (k:=0) (show (["leg","pairs","stuck","gate"]:List Str).Nodup by decide+kernel) rfl (Or.inl rfl)) (zar (zah (k:=1) (show (["leg","pairs","stuck","gate"]:List Str).Nodup by decide+kernel) rfl (Or.inl rfl)) za1)))) (fun _ _ _ _=>zaI) (fun _ _ _ _=>(zaj (zdz T) (hr.mono (by decide)) rfl T.d_with_stuck.m T.d_with_stuck.F.kp T.d_with_stuck.b .nil zaC (zaa (bpv 1) (zaa (bpv 2) (zaa (zaG (zaa zay (zaa (bpv 3) (zaa (bpv 0) (zac))))) (zac))))))))),?_⟩
 refine ⟨_,rfl,p,rfl,⟨_,.of hp⟩,fun D hD=>zhc (K:=K) (a:=p) (xs:=xs) (fun j H2=>∃ (G:Hp) (ys:List V),Off [D] G H2∧Same H G∧H2 D=some (.lst ys)∧PLs G ys (zeS fs k (css.take j)))
  ⟨H,[],Off.start hD _,Same.refl _,zab,.nil⟩ (fun j H2 _ ⟨_,_,o,s,_⟩=>.of ((s.trans o.same) _ _ hp)) ?_ ?_⟩
 ·rintro j y H2 T1 hy ⟨G,ys,off,sG,eD,hys⟩ h1
  obtain ⟨cs,hcs,hpy⟩:=hx.get hy
  have lj:j < css.length:=(yF.mp hcs).1
  have c4:cs.length≤4:=hl4 cs (yH hcs)
  have k1:=zad h1 (.tup [.int j,y])
  have of1:=off.new h1 (.tup [.int j,y])
  refine ⟨T1,_,rfl,.of zab,rfl,_,_,rfl,_,_,rfl,rfl,?_⟩
  refine ⟨_,rfl,_,rfl,_,rfl,_,rfl,(by show 3≤yM;decide),fun T2 h2=>?_⟩
  have k2:=zad h2 (.tup [.str "leg",.int k,.int j])
  have of2:=of1.new h2 (.tup [.str "leg",.int k,.int j])
  have s02:=sG.trans of2.same
  refine ⟨y,d,T2,cs,fs,legK k j,rfl,hpy.mono s02,by omega,s02 _ _ hd,zab,fb,fun v' H3 s3 res=>?_⟩
  have eD3:=s3 _ _ (k2 _ _ (k1 _ _ eD))
  have lys:ys.length≤4:=by
   have:=hys.len
   unfold zeS at this
   rw [wH,yP] at this
   omega
  have of3:=zdo of2 s3
  have sn:=zcI (H':=H3) of2.same
  refine ⟨_,eD3,big (by omega),_,ys++ [v'],of3.write (.head _) _,sG.trans sn,zab,?_⟩
  have et:css.take (j+1)=css.take j++ [cs]:=by rw [yO,hcs];rfl
  have lt:(css.take j).length=j:=by rw [yP];omega
  rw [et,zlN,lt]
  refine (PLs.mono sn hys).append (.cons ?_ .nil)
  rcases res with ⟨rfl,e⟩ | e
  ·rw [e]
   exact hpy.mono (sG.trans sn)
  ·exact e.pl
 ·rintro H2 ⟨G,ys,off,sG,eD,hys⟩
  rw [lx,yQ] at hys
  exact q D ys H2 (sG.trans off.same) hD eD (PLs.mono off.same hys)
theorem zfq:zat ["kind","legs","ahead"] ["kind","legs"] (zak zcQ):=⟨rfl,rfl,rfl,by decide+kernel,rfl,by decide+kernel,by decide+kernel⟩
theorem zkO {k m:Nat}(T:Txt K mg t)(hk: 2≤k)(rec:FnOk P w K mg base CX0 k t.f_gate_pairs t.fd_gate_pairs ["kind","legs"] (zmt m)):FnOk P w K mg base CX0 (k+1) t.f_gate_pairs t.fd_gate_pairs ["kind","legs"] (zo6 (m+1)):=by
 refine T.d_gate_pairs.F.okB zfq (fun vs H Q E h=>?_) (fun cdv A outer s H vs Q E hr h=>?_)
 ·obtain ⟨k,a,xs,css,rfl,_⟩:=h
  rfl
 obtain ⟨kd,a,xs,css,rfl,ha,hx,lk,lm,c4,q⟩:=h
 have hu64:=hr.units
 have lx:=hx.len
 have l4:=lk.le
 refine ⟨_,(zae (zaP (zgJ (zgV (zax zeY (bpv 0) (zln (v:=.ref t.c_FOLDED_KINDS) rfl T.g_FOLDED_KINDS rfl) rfl) (ze2 (zax op_gt (zaK zaD rfl T.z_len xA (zaa (bpv 1) (zac))) zag (zaO _))))) (zae (zal (k:=2) zfq.nd rfl (Or.inl rfl) (zaj rec hr rfl T.d_gate_pairs.m T.d_gate_pairs.F.kp T.d_gate_pairs.b .nil zaC (zaa (bpv 0) (zaa (zco zfH (bpv 1) zc8 (zcW (zhX zhL zag))) (zac)))))
  (zaf (zap (zaj rec hr rfl T.d_gate_pairs.m T.d_gate_pairs.F.kp T.d_gate_pairs.b .nil zaC (zaa (bpv 0) (zaa (zau (zaa (bpv 2) (zaa (zas za0 (bpv 1) (zhX zhL zag) (fun _ _=>rfl)) (zac)))) (zac))))))) zaA)
  (zaf (zap (ze1 rfl hu64 rfl T.z_sorted rfl T.z_set (zaJ rfl (N:=["choice","kind"]) (n:=1) (cap:=[0]) (zbc rfl rfl) (zaz (zaj (zgR T) (hr.mono (jB (by decide) hk)) rfl T.d_every_choice.m T.d_every_choice.F.kp T.d_every_choice.b .nil zaC (zaa (bpv 1) (zac)))) (zaF (by decide)) (fun _ _ _ _=>(zah (k:=0) (show (["choice","kind"]:List Str).Nodup by decide+kernel) rfl (Or.inl rfl))) (fun _ _ _ _=>zaI) (fun _ _ _ _=>(zaj (zhr T) (hr.mono (jB (by decide) hk)) rfl T.d_chosen_pair.m T.d_chosen_pair.F.kp T.d_chosen_pair.b .nil zaC (zaa (bpv 1) (zaa (bpv 0) (zac)))))))))),?_⟩
 refine ⟨_,rfl,t.c_FOLDED_KINDS,_,rfl,.inr (T.k_FOLDED_KINDS.sq (by decide)),rfl,rfl,_,rfl,?_⟩
 have hin:=zmL kd
 refine ite2 (fun c=>?_) (fun c=>?_)
 ·have fk:zgj kd:=hin.mp c
  have hm:=lm fk
  refine ⟨_,rfl,a,_,rfl,.inl (.of ha),_,_,rfl,rfl,_,rfl,ite2 (fun c2=>?_) (fun c2=>?_)⟩
  ·have l2: 2 < css.length:=by have:=of_decide_eq_true c2;omega
   have hne:css≠[]:=fun z=>by rw [z] at l2;cases l2
   obtain ⟨as,b,rfl⟩:∃ as b,css=as++ [b]:=⟨css.dropLast,css.getLast hne,(yaR hne).symm⟩
   obtain ⟨ys,y,rfl,hys,hyl⟩:=PLs.split hx
   rw [yJ,yX] at l2 hm l4
   have cas:∀ cs∈as,zct cs:=fun cs hc=>hx.codes cs (jV _ hc)
   have cb:zct b:=hyl.codes
   refine ⟨_,rfl,_,rfl,_,rfl,_,rfl,a,_,rfl,.of ha,fun T1 h1=>?_⟩
   rw [show (-(1:Int))= -1 from rfl,zil]
   have k1:=zad h1 (.lst ys)
   refine ⟨kd,T1,ys,as,rfl,zab,PLs.mono k1 hys,fk,by omega,by omega,by omega,fun cs hc=>c4 cs (jV _ hc),fun v1 H2 s2 pn=>?_⟩
   have s02:=k1.trans s2
   refine ⟨_,rfl,_,rfl,_,rfl,_,rfl,a,_,_,_,rfl,rfl,.of (s02 _ _ ha),zkq _ _,(by show 2≤yM;decide),fun L hL=>?_⟩
   have k3:=zad hL (.lst [v1,y])
   refine ⟨kd,L,[v1,y],[zgi kd as,b],rfl,zab,.cons (pn.here.mono k3) (.cons (hyl.mono (s02.trans k3)) .nil),fk,(by show 2≤2;decide),(by show 2≤m;omega),(by show 2≤4;decide),?_,fun v2 H3 s3 pn2=>?_⟩
   ·intro cs hc
    rcases yR.mp hc with rfl | hc
    ·exact zdD _
    ·rw [yE.mp hc]
     exact c4 b (jJ _ (yE.mpr rfl))
   ·refine q v2 H3 ((s02.trans k3).trans s3) ?_
    rw [zlW fk cas cb]
    exact pn2.older (s02.trans k3)
  ·refine ⟨_,rfl,a,xs,css,rfl,ha,hx,l4,c4,fun R ys H1 s1 nR eR hy _=>⟨R,rfl,⟨_,.of eR⟩,fun D hD=>zaN (K:=K) (a:=R) (xs:=ys)
    (fun j H4=>Same H1 H4∧∃ qs:List (Nat×Addr),qs.map qB=((choices css).take j).map (zbR kd)∧H4 D=some (.lst (qs.map fun p=>V.ref p.2))∧∀ p∈qs,p.1 < 4∧H4 p.2=some (zfv p.1)∧p.2≠D∧H p.2=none)
    ⟨zad hD _,[],rfl,zab,fun _ z=>(qK z).elim⟩ (fun j H4 _ z=>.of (z.1 _ _ eR)) ?_ ?_⟩⟩
   ·rintro j y H4 hyj ⟨s4,qs,eq,eD,hq⟩
    obtain ⟨r,hr',ly,psr,rfl,hly,rfl,hpr⟩:=hy.get hyj
    have chn:=zaX.mp (show psr.map qB∈choices css from yH hr')
    have lpr:psr.length=css.length:=by have:=chn.length;rw [yB] at this;exact this
    have lkr:zbn kd (psr.map qB).length:=by rw [yB,lpr];exact lk
    have cdr:zct (psr.map qB):=chn.codes hx.codes
    have lq:qs.length≤256:=by
     have h1:=congrArg vI eq
     have h2:=zdV css [[]] c4
     have h3:=jT (n:=4) (by decide) l4
     rw [yB,yB,yP] at h1
     have h4:(choices css).length≤1 * 4 ^ css.length:=h2
     omega
    refine ⟨_,rfl,_,rfl,kd,ly,psr,rfl,s4 _ _ hly,fun p hp=>⟨(hpr p hp).1,s4 _ _ (hpr p hp).2⟩,by rw [lpr];exact lk,fun rr H5 s5 nr er=>?_⟩
    have nrD:rr≠D:=fun z=>by rw [z,eD] at nr;cases nr
    refine ⟨_,s5 _ _ eD,big (by rw [yB];omega),(s4.trans s5).write hD _,qs++ [(zbR kd (psr.map qB),rr)],?_,?_,?_⟩
    ·rw [yK,eq,yO,hr',yK]
     rfl
    ·rw [zab,yK]
     rfl
    ·intro x hx'
     rcases yU.mp hx' with hx' | hx'
     ·obtain ⟨a1,a2,a3⟩:=hq x hx'
      exact ⟨a1,by rw [zai a3.1];exact s5 _ _ a2,a3⟩
     ·rw [yE.mp hx']
      exact ⟨zgD cdr lkr,by rw [zai nrD];exact er,nrD,s1.free (s4.free nr)⟩
   ·rintro H4 ⟨s4,qs,eq,eD,hq⟩
    rw [hy.len,yQ] at eq
    refine ⟨D,qs,rfl,eD,fun p hp'=>⟨(hq p hp').1,(hq p hp').2.1⟩,fun D2 L nD2 eL hL=>?_⟩
    refine q _ _ ((s1.trans s4).upd nD2 _) ⟨D2,L,rfl,(s1.trans s4).free nD2,zab,by rw [eL,eq];rfl,fun p hp'=>⟨(hq p (hL p hp')).1,(hq p (hL p hp')).2.2.2,?_⟩⟩
    have a2:=(hq p (hL p hp')).2.1
    rw [zai (fun z=>by rw [z,nD2] at a2;cases a2)]
    exact a2
 ·refine ⟨_,rfl,a,xs,css,rfl,ha,hx,l4,c4,fun R ys H1 s1 nR eR hy _=>⟨R,rfl,⟨_,.of eR⟩,fun D hD=>zaN (K:=K) (a:=R) (xs:=ys)
   (fun j H4=>Same H1 H4∧∃ qs:List (Nat×Addr),qs.map qB=((choices css).take j).map (zbR kd)∧H4 D=some (.lst (qs.map fun p=>V.ref p.2))∧∀ p∈qs,p.1 < 4∧H4 p.2=some (zfv p.1)∧p.2≠D∧H p.2=none)
   ⟨zad hD _,[],rfl,zab,fun _ z=>(qK z).elim⟩ (fun j H4 _ z=>.of (z.1 _ _ eR)) ?_ ?_⟩⟩
  ·rintro j y H4 hyj ⟨s4,qs,eq,eD,hq⟩
   obtain ⟨r,hr',ly,psr,rfl,hly,rfl,hpr⟩:=hy.get hyj
   have chn:=zaX.mp (show psr.map qB∈choices css from yH hr')
   have lpr:psr.length=css.length:=by have:=chn.length;rw [yB] at this;exact this
   have lkr:zbn kd (psr.map qB).length:=by rw [yB,lpr];exact lk
   have cdr:zct (psr.map qB):=chn.codes hx.codes
   have lq:qs.length≤256:=by
    have h1:=congrArg vI eq
    have h2:=zdV css [[]] c4
    have h3:=jT (n:=4) (by decide) l4
    rw [yB,yB,yP] at h1
    have h4:(choices css).length≤1 * 4 ^ css.length:=h2
    omega
   refine ⟨_,rfl,_,rfl,kd,ly,psr,rfl,s4 _ _ hly,fun p hp=>⟨(hpr p hp).1,s4 _ _ (hpr p hp).2⟩,by rw [lpr];exact lk,fun rr H5 s5 nr er=>?_⟩
   have nrD:rr≠D:=fun z=>by rw [z,eD] at nr;cases nr
   refine ⟨_,s5 _ _ eD,big (by rw [yB];omega),(s4.trans s5).write hD _,qs++ [(zbR kd (psr.map qB),rr)],?_,?_,?_⟩
   ·rw [yK,eq,yO,hr',yK]
    rfl
   ·rw [zab,yK]
    rfl
   ·intro x hx'
    rcases yU.mp hx' with hx' | hx'
    ·obtain ⟨a1,a2,a3⟩:=hq x hx'
     exact ⟨a1,by rw [zai a3.1];exact s5 _ _ a2,a3⟩
    ·rw [yE.mp hx']
     exact ⟨zgD cdr lkr,by rw [zai nrD];exact er,nrD,s1.free (s4.free nr)⟩
  ·rintro H4 ⟨s4,qs,eq,eD,hq⟩
   rw [hy.len,yQ] at eq
   refine ⟨D,qs,rfl,eD,fun p hp'=>⟨(hq p hp').1,(hq p hp').2.1⟩,fun D2 L nD2 eL hL=>?_⟩
   refine q _ _ ((s1.trans s4).upd nD2 _) ⟨D2,L,rfl,(s1.trans s4).free nD2,zab,by rw [eL,eq];rfl,fun p hp'=>⟨(hq p (hL p hp')).1,(hq p (hL p hp')).2.2.2,?_⟩⟩
   have a2:=(hq p (hL p hp')).2.1
   rw [zai (fun z=>by rw [z,nD2] at a2;cases a2)]
   exact a2
theorem zif (T:Txt K mg t):FnOk P w K mg base CX0 5 t.f_gate_pairs t.fd_gate_pairs ["kind","legs"] sp_gp:=by
 have g1:FnOk P w K mg base CX0 2 t.f_gate_pairs t.fd_gate_pairs ["kind","legs"] (zmt 1):=⟨fun vs H Q E ⟨_,_,_,_,_,_,_,_,l2,l1,_⟩=>absurd l2 (by omega),fun A outer s H args us vs Q E hr a b c ⟨_,_,_,_,_,_,_,_,l2,l1,_⟩=>absurd l2 (by omega)⟩
 have g2:=zkO T (by decide) g1
 have g3:=zkO T (by decide) (g2.imp fun vs H Q E h=>zph h)
 have g4:=zkO T (by decide) (g3.imp fun vs H Q E h=>zph h)
 exact g4.imp fun vs H Q E ⟨k,a,xs,css,e,ha,hx,lk,c4,q⟩=>⟨k,a,xs,css,e,ha,hx,lk,fun _=>lk.le,c4,q⟩
theorem za3:zat ["works","stuck","known","pairs","wire","worth","gate","body","read","told"] ["works","stuck","known"] (zak zcE):=⟨rfl,rfl,rfl,by decide+kernel,rfl,by decide+kernel,by decide+kernel⟩
theorem zhx (T:Txt K mg t):FnOk P w K mg base CX0 6 t.f_every_pairs t.fd_every_pairs ["works","stuck","known"] (sp_ep K):=by
 refine T.d_every_pairs.F.okB za3 (fun vs H Q E h=>?_) (fun cdv A outer s H vs Q E hr h=>?_)
 ·obtain ⟨x,d,p,w,fs,ks,rfl,_⟩:=h
  rfl
 obtain ⟨x,d,p,w,fs,ks,rfl,hx,wf,hd,fb,hp,hl,kb,q⟩:=h
 obtain ⟨a,ga,oa,gs,os,rfl,ha,hg,ho,rg,ro⟩:=zbr hx
 have hu1:=zgn hr
 have lg:gs.length=w.gates.length:=by rw [rg.length,yB]
 have i1:=wf.i1
 have i6:=wf.i6
 have few:=wf.few
 refine ⟨_,(zae (zal (k:=3) za3.nd rfl (Or.inr rfl) (zau zac))
  (zae (zaE qA rfl (zdQ rfl T.z_enumerate (zaa (bpv 2) (zac))) (zcK rfl (zar (zah (k:=4) za3.nd rfl (Or.inl rfl)) (zar (zah (k:=5) za3.nd rfl (Or.inl rfl)) za1))) (zaf (zba (zbW qJ qO qP zaY (bpv 3) (zaa (zaj (zdz T) (hr.mono (by decide)) rfl T.d_with_stuck.m T.d_with_stuck.F.kp T.d_with_stuck.b .nil zaC (zaa (zaj (zhB T) (hr.mono (by decide)) rfl T.d_input_pairs.m T.d_input_pairs.F.kp T.d_input_pairs.b .nil zaC (zaa (bpv 5) (zac))) (zaa (bpv 1) (zaa (zaG (zaa zay (zaa (bpv 4) (zac)))) (zac))))) (zac))))))
  (zae (zaE qA rfl (zdQ rfl T.z_enumerate (zaa (zas zaL (bpv 0) zag (fun _ _=>rfl)) (zac))) (zcK rfl (zar (zah (k:=6) za3.nd rfl (Or.inl rfl)) (zar (zah (k:=7) za3.nd rfl (Or.inl rfl)) za1))) (zae (zal (k:=8) za3.nd rfl (Or.inl rfl) (zaj (zi2 T) (hr.mono (by decide)) rfl T.d_leg_pairs.m T.d_leg_pairs.F.kp T.d_leg_pairs.b .nil zaC (zaa (bpv 1) (zaa (bpv 6) (zaa (zaJ rfl (N:=["leg","pairs"]) (n:=1) (cap:=[3]) (zbc rfl rfl) (zkz (zas zaL (bpv 7) zag (fun _ _=>rfl))) (zaF (by decide)) (fun _ _ _ _=>(zah (k:=0) (show (["leg","pairs"]:List Str).Nodup by decide+kernel) rfl (Or.inl rfl))) (fun _ _ _ _=>zaI) (fun _ _ _ _=>(zas (zep (K:=K)) (bpv 1) (bpv 0) (fun _ _=>rfl)))) (zac))))))
  (zae (zal (k:=9) za3.nd rfl (Or.inl rfl) (zaj (zif T) (hr.mono (by decide)) rfl T.d_gate_pairs.m T.d_gate_pairs.F.kp T.d_gate_pairs.b .nil zaC (zaa (zas zaL (bpv 7) zag (fun _ _=>rfl)) (zaa (bpv 8) (zac)))))
  (zaf (zba (zbW qJ qO qP zaY (bpv 3) (zaa (zaj (zdz T) (hr.mono (by decide)) rfl T.d_with_stuck.m T.d_with_stuck.F.kp T.d_with_stuck.b .nil zaC (zaa (bpv 9) (zaa (bpv 1) (zaa (zaG (zaa zay (zaa (zao zbE (zas zaL (bpv 0) zag (fun _ _=>rfl)) (bpv 6)) (zac)))) (zac))))) (zac))))))))
  (zaf (zap (bpv 3)))))),?_⟩
 refine ⟨(by show 0≤yM;decide),fun R hR=>?_⟩
 have kR:=zad hR (.lst [])
 refine ⟨_,rfl,p,rfl,⟨_,.of (kR _ _ hp)⟩,zgv (K:=K) (a:=p) (xs:=ks.map optV)
  (fun i σ H3=>∃ (G:Hp) (ys:List V) (o4 o5 o6 o7 o8 o9:Option V),σ = [some (.ref a),some (.ref d),some (.ref p),some (.ref R),o4,o5,o6,o7,o8,o9]∧Off [R] G H3∧Same H G∧H3 R=some (.lst ys)∧PLN H G ys (rowP fs (ks.take i)))
  ⟨H,[],_,_,_,_,_,_,rfl,Off.start hR _,Same.refl _,zab,.nil⟩ (fun i σ H3 _ ⟨_,_,_,_,_,_,_,_,_,o,s,_⟩=>.of ((s.trans o.same) _ _ hp)) ?_ ?_⟩
 ·rintro i y σ H3 T1 hy ⟨G,ys,o4,o5,o6,o7,o8,o9,rfl,off,sG,eR,hys⟩ h1
  rw [yG] at hy
  cases hz:ks[i]? with
  | none=>rw [hz] at hy;cases hy
  | some o=>
   rw [hz] at hy
   cases hy
   have li:i < ks.length:=(yF.mp hz).1
   have k1:=zad h1 (.tup [.int i,optV o])
   have of1:=off.new h1 (.tup [.int i,optV o])
   have lys:ys.length≤6:=by
    have:=hys.len
    rw [zlz,yP] at this
    omega
   refine ⟨T1,_,rfl,.of zab,rfl,_,_,rfl,_,_,rfl,rfl,?_⟩
   refine ⟨_,rfl,.inl ⟨rfl,_,.of (k1 _ _ eR)⟩,_,rfl,o,rfl,kb o (yH hz),fun v H4 s4 pv=>?_⟩
   have of4:=zdo of1 s4
   have sn4:=zcI (H':=H4) of1.same
   have pv4:=pv.news (G:=G) (sG.trans of1.same)
   refine ⟨_,rfl,_,rfl,(by show 2≤yM;decide),fun T2 h2=>?_⟩
   have k2:=zad h2 (.tup [.str "wire",.int i])
   have of5:=of4.new h2 (.tup [.str "wire",.int i])
   have s05:=(sG.trans sn4).trans of5.same
   refine ⟨v,d,T2,inP o,fs,zbk i,rfl,pv4.here.mono of5.same,jB (zpg o) (by decide),s05 _ _ hd,zab,fb,fun v' H6 s6 res=>?_⟩
   have of6:=zdo of5 s6
   have sn6:=zcI (H':=H6) of5.same
   have eR6:=s6 _ _ (k2 _ _ (s4 _ _ (k1 _ _ eR)))
   refine ⟨R,_,_,rfl,rfl,eR6,big (by omega),_,ys++ [v'],_,_,_,_,_,_,rfl,of6.write (.head _) _,(sG.trans sn4).trans sn6,zab,?_⟩
   have et:ks.take (i+1)=ks.take i++ [o]:=by rw [yO,hz];rfl
   have lt:(ks.take i).length=i:=by rw [yP];omega
   rw [et,zmp,lt]
   refine (PLN.mono (sn4.trans sn6) hys).append (.cons ?_ .nil)
   rcases res with ⟨rfl,e⟩ | e
   ·rw [e]
    exact pv4.mono sn6
   ·exact e.news s05
 rintro σ H3 ⟨G,ys,o4,o5,o6,o7,o8,o9,rfl,off,sG,eR,hys⟩
 rw [yB,yQ] at hys
 have s3:=sG.trans off.same
 refine ⟨_,rfl,a,_,_,_,rfl,rfl,s3.seqT ha,rfl,ga,rfl,⟨_,s3.seq hg⟩,zgv (K:=K) (a:=ga) (xs:=gs)
  (fun i σ H3=>∃ (G:Hp) (ys:List V) (o4 o5 o6 o7 o8 o9:Option V),σ = [some (.ref a),some (.ref d),some (.ref p),some (.ref R),o4,o5,o6,o7,o8,o9]∧Off [R] G H3∧Same H G∧H3 R=some (.lst ys)∧PLN H G ys (zaZ fs w.gates ks i))
  ⟨G,ys,_,_,_,_,_,_,rfl,off,sG,eR,hys⟩ (fun i σ H3 _ ⟨_,_,_,_,_,_,_,_,_,o,s,_⟩=>(s.trans o.same).seq hg) ?_ ?_⟩
 ·clear hys eR s3 sG off
  rintro i y σ H3 T1 hy ⟨G,ys,o4,o5,o6,o7,o8,o9,rfl,off,sG,eR,hys⟩ h1
  have hi:i < gs.length:=(yF.mp hy).1
  obtain ⟨g,hgk⟩:∃ g,w.gates[i]? =some g:=⟨_,yC (by omega)⟩
  obtain ⟨dd,hdd,rv⟩:=rg.get hy
  rw [yG,hgk] at hdd
  cases hdd
  obtain ⟨a1,la,rfl,hA,hL⟩:=zgL rv
  obtain ⟨lk,lb⟩:=wf.legs i g hgk
  have l4:=lk.le
  have lw:=zex fs w.gates ks i
  have lys:ys.length=ks.length+i:=hys.len.trans lw
  have k1:=zad h1 (.tup [.int i,.ref a1])
  have of1:=off.new h1 (.tup [.int i,.ref a1])
  have e1:=k1 _ _ eR
  have s1:=sG.trans of1.same
  refine ⟨T1,_,rfl,.of zab,rfl,_,_,rfl,_,_,rfl,rfl,?_⟩
  refine ⟨_,rfl,_,rfl,_,rfl,a1,_,_,_,rfl,rfl,s1.seqT hA,rfl,la,rfl,⟨_,s1.seqT hL⟩,fun D hD=>ziX (K:=K) (a:=la) (xs:=g.2.map V.int)
   (fun j H5=>Same (upd H3 T1 (.tup [.int i,.ref a1])) H5∧H5 D=some (.lst ((g.2.take j).map fun l=>ys.getD l.toNat V.non))) ⟨zad hD _,zab⟩ (fun j H5 _ z=>(s1.trans z.1).seqT hL) ?_ ?_⟩
  ·rintro j z H5 hzj ⟨s5,eD⟩
   rw [yG] at hzj
   cases hz:g.2[j]? with
   | none=>rw [hz] at hzj;cases hzj
   | some l=>
    rw [hz] at hzj
    cases hzj
    have bl:=lb l (yH hz)
    have lj:j < g.2.length:=(yF.mp hz).1
    have at':atI ys l=some (ys.getD l.toNat V.non):=by
     have hk:l.toNat < ys.length:=by omega
     have q1:atI ys ((l.toNat:Nat):Int)=some ys[l.toNat]:=zb7 (yC hk)
     rw [show ((l.toNat:Nat):Int)=l by omega] at q1
     rw [q1,yL,yC hk]
     rfl
    refine ⟨_,rfl,_,rfl,R,_,_,_,rfl,rfl,.of (s5 _ _ e1),at',?_⟩
    refine ⟨_,eD,big (by simp;omega),s5.write hD _,?_⟩
    rw [zab,yO,hz]
    simp
  rintro H5 ⟨s5,eD⟩
  have et:g.2.take (g.2.map V.int).length=g.2:=by rw [yB,yQ]
  rw [et] at eD
  have of5:=of1.grow s5
  have s05:=sG.trans of5.same
  have c4:∀ cs∈g.2.map (fun l=>(zaZ fs w.gates ks i).getD l.toNat []),cs.length≤4:=fun cs hc=>by
   obtain ⟨l,hl',rfl⟩:=yY.mp hc
   have bl:=lb l hl'
   have hk:l.toNat < (zaZ fs w.gates ks i).length:=by omega
   rw [yL,yC hk]
   exact zgG fs w.gates ks i _ (jC hk)
  refine ⟨d,D,(i:Int),fs,_,_,rfl,s05 _ _ hd,fb,eD,PLs.mono of5.same ((PLN.pls hys).pick fun l hl'=>by have:=lb l hl';omega),by rw [yB];exact l4,c4,fun R2 ys2 H6 s6 nR2 eR2 hys2=>?_⟩
  have of6:=of5.grow s6
  have s06:=sG.trans of6.same
  refine ⟨_,rfl,a1,_,_,_,rfl,rfl,s06.seqT hA,rfl,_,rfl,g.1,R2,ys2,_,rfl,eR2,hys2,by rw [zjW,yB];exact lk,zos c4,fun v7 H7 s7 pn=>?_⟩
  have of7:=zdo of6 s7
  have sn7:=zcI (H':=H7) of6.same
  have pv7:=pn.news (G:=G) s06
  have s07:=(sG.trans sn7).trans of7.same
  have eR7:=s7 _ _ (s6 _ _ (s5 _ _ e1))
  refine ⟨_,rfl,.inl ⟨rfl,_,.of eR7⟩,_,rfl,_,rfl,_,rfl,a,_,_,_,rfl,rfl,s07.seqT ha,rfl,_,rfl,_,_,rfl,rfl,(by show 2≤yM;decide),fun T2 h2=>?_⟩
  have k2:=zad h2 (.tup [.str "wire",.int (w.ins+(i:Int))])
  have of8:=of7.new h2 (.tup [.str "wire",.int (w.ins+(i:Int))])
  have s08:=(sG.trans sn7).trans of8.same
  have ei:w.ins+(i:Int)=((ks.length+i:Nat):Int):=by omega
  refine ⟨v7,d,T2,_,fs,zbk ((ks.length+i:Nat):Int),rfl,pv7.here.mono of8.same,jB (zdD _) (by decide),s08 _ _ hd,(by rw [zab];show some (HO.tup [V.str "wire",V.int (w.ins+(i:Int))])=_;rw [ei];rfl),fb,fun v' H9 s9 res=>?_⟩
  have of9:=zdo of8 s9
  have sn9:=zcI (H':=H9) of8.same
  refine ⟨R,_,_,rfl,rfl,s9 _ _ (k2 _ _ eR7),big (by omega),_,ys++ [v'],_,_,_,_,_,_,rfl,of9.write (.head _) _,(sG.trans sn7).trans sn9,zab,?_⟩
  rw [zaZ,hgk]
  refine (PLN.mono (sn7.trans sn9) hys).append (.cons ?_ .nil)
  rcases res with ⟨rfl,e⟩ | e
  ·show PLn H _ _ (zgp (look fs _) _)
   rw [e]
   exact pv7.mono sn9
  ·exact e.news s08
 ·clear hys eR s3 sG off
  rintro σ H3 ⟨G,ys,o4,o5,o6,o7,o8,o9,rfl,off,sG,eR,hys⟩
  rw [lg] at hys
  exact ⟨_,rfl,q R ys H3 (sG.trans off.same) hR eR (PLN.mono off.same hys)⟩
theorem zbI:zat ["works","faults","known_faults","stuck","fault","place"] ["works","faults"] (zak zcm):=⟨rfl,rfl,rfl,by decide+kernel,rfl,by decide+kernel,by decide+kernel⟩
theorem zbH (T:Txt K mg t):FnOk P w K mg base CX0 2 t.f_stuck_places t.fd_stuck_places ["works","faults"] (sp_spl K):=by
 refine T.d_stuck_places.F.okB zbI (fun vs H Q E h=>?_) (fun cdv A outer s H vs Q E hr h=>?_)
 ·obtain ⟨x,y,w,fs,rfl,_⟩:=h
  rfl
 obtain ⟨x,y,w,fs,rfl,hx,wf,hy,gd,ap,lf,q⟩:=h
 have hu1:=zgn hr
 have hu64:=hr.units
 refine ⟨_,(zae (zal (k:=2) zbI.nd rfl (Or.inl rfl) (zaj (zeE T) (hr.mono (by decide)) rfl T.d_every_fault.m T.d_every_fault.F.kp T.d_every_fault.b .nil zaC (zaa (bpv 0) (zac))))
  (zae (zal (k:=3) zbI.nd rfl (Or.inl rfl) zcn)
  (zae (zaE qA rfl (zaz (bpv 1)) (zah (k:=4) zbI.nd rfl (Or.inl rfl)) (zae (zaP (zax (zja hu64) (bpv 4) (bpv 2) rfl) (zaf ze7) zaA)
  (zae (zal (k:=5) zbI.nd rfl (Or.inl rfl) (zco zo8 (bpv 4) zc8 (zcW (zhX zhL zag))))
  (zae (zaP (zeT (zpE hu1 (bpv 5) (bpv 3))) (zaf ze7) zaA)
  (zaf (ziV hu1 (bpv 3) (bpv 5) (zas zaL (bpv 4) (zhX zhL zag) (fun _ _=>rfl)) rfl))))))
  (zaf (zap (bpv 3)))))),?_⟩
 refine ⟨_,rfl,x,w,rfl,hx,wf,fun kr xs H1 sk nk ek fk=>?_⟩
 have bk:=bld_of (K:=K) sk nk ek fk
 refine fun d hd=>?_
 have s1:=bk.same.upd hd (.dT [])
 have hd0:=bk.same.free hd
 have okk:∀ e∈zdO w,kqdOk 8 e=true:=fun e he=>zia 7 he
 cases hy with
 | @lst fa ys _ hq rq=>
  have ly:ys.length=fs.length:=by rw [rq.length,yB]
  refine ⟨_,rfl,fa,rfl,⟨_,s1.seq hq⟩,zaV (K:=K) (a:=fa) (xs:=ys)
   (fun i σ H3=>∃ (o4 o5:Option V),σ = [some x,some (.ref fa),some (.ref kr),some (.ref d),o4,o5]∧Same H1 H3∧H3 d=some (.dT (tabV (fs.take i))))
   ⟨_,_,rfl,zad hd _,zab⟩ (fun i σ H3 _ ⟨_,_,_,s3,_⟩=>(bk.same.trans s3).seq hq) ?_ ?_⟩
  ·rintro i v σ H3 hv ⟨o4,o5,rfl,s13,e3⟩
   have s3:=bk.same.trans s13
   obtain ⟨dd,hdd,rv⟩:=rq.get hv
   rw [yG] at hdd
   cases hz:fs[i]? with
   | none=>rw [hz] at hdd;cases hdd
   | some f=>
    rw [hz] at hdd
    cases hdd
    have gf:=gd f (yH hz)
    obtain ⟨fa1,rfl,hf⟩:=flt_at rv
    have li:i < fs.length:=(yF.mp hz).1
    have et:fs.take (i+1)=fs.take i++ [f]:=by rw [yO,hz];rfl
    have nl:look (fs.take i) f.place=none:=zj4 fun z=>by
     unfold zdh at ap
     have e1:fs.map (·.place)=(fs.take (i+1)).map (·.place)++(fs.drop (i+1)).map (·.place):=by rw [← yK,kI]
     rw [e1,et,yK] at ap
     exact (jG.mp (jG.mp ap).1).2.2 _ z _ (yE.mpr rfl) rfl
    have nv:valV (tabV (fs.take i)) f.place=none:=by rw [zfF,nl];rfl
    refine ⟨_,rfl,_,rfl,fltD f,zdO w,rv.mono s3,bk.rep.mono s13,zia 7 (zib gf),okk,fun _=>⟨_,rfl,iteF ?_⟩,fun z=>absurd (zib gf) z⟩
    refine ⟨_,rfl,_,rfl,_,rfl,fa1,_,rfl,s3.seqT hf,zk2 _ _,fun T1 h1=>?_⟩
    rw [show (-(1:Int))= -1 from rfl,zil]
    have k1:=zad h1 (.tup (f.place.map kV))
    have s4:=s3.trans k1
    refine ⟨_,rfl,_,rfl,d,_,rfl,DGet.t (k:=f.place) (k1 _ _ e3) zab,_,rfl,?_⟩
    rw [nv]
    refine iteF ?_
    have lt:(tabV (fs.take i)).length≤1000:=by unfold tabV;rw [yB,yP];omega
    refine ⟨_,rfl,_,rfl,fa1,_,_,_,rfl,rfl,s4.seqT hf,zkq _ _,_,rfl,_,rfl,d,_,rfl,DPut.t (k:=f.place) (k1 _ _ e3) zab (big (by omega)),?_⟩
    refine ⟨_,_,rfl,(s13.trans k1).write hd _,?_⟩
    rw [zab,zev _ nv,et]
    unfold tabV
    rw [yK]
    rfl
  ·rintro σ H3 ⟨o4,o5,rfl,s13,e3⟩
   rw [ly,yQ] at e3
   exact ⟨_,rfl,q d H3 (bk.same.trans s13) hd0 e3⟩
theorem ziR:zat ["works","faults"] ["works","faults"] (zak zda):=⟨rfl,rfl,rfl,by decide+kernel,rfl,by decide+kernel,by decide+kernel⟩
theorem zii (T:Txt K mg t):FnOk P w K mg base CX0 6 t.f_first_test t.fd_first_test ["works","faults"] (sp_ft K):=by
 refine T.d_first_test.F.okB ziR (fun vs H Q E h=>?_) (fun cdv A outer s H vs Q E hr h=>?_)
 ·obtain ⟨x,y,w,fs,rfl,_⟩:=h
  rfl
 obtain ⟨x,y,w,fs,rfl,hx,wf,hy,gd,ap,lf,q⟩:=h
 refine ⟨_,(zaf (zap (zaj (zcM T) (hr.mono (by decide)) rfl T.d_first_unlike.m T.d_first_unlike.F.kp T.d_first_unlike.b .nil zaC (zaa (bpv 0) (zaa (zaj (zbH T) (hr.mono (by decide)) rfl T.d_stuck_places.m T.d_stuck_places.F.kp T.d_stuck_places.b .nil zaC (zaa (bpv 0) (zaa (bpv 1) (zac)))) (zaa zcn (zac))))))),?_⟩
 refine ⟨_,rfl,_,rfl,_,rfl,x,y,w,fs,rfl,hx,wf,hy,gd,ap,lf,fun d H1 s1 nd ed=>?_⟩
 refine fun e he=>?_
 have k2:=zad he (.dT [])
 have s12:=s1.trans k2
 exact ⟨x,d,e,w,fs,[],rfl,hx.mono s12,wf,k2 _ _ ed,zab,fun f hf=>(gd f hf).2,(fun _ z=>nomatch z),ap,xL,by omega,qL _,fun v H2 s2 res=>q v H2 (s12.trans s2) (res.any s12)⟩
theorem zjI:zat ["works","faults","others"] ["works","faults","others"] (zak zdA):=⟨rfl,rfl,rfl,by decide+kernel,rfl,by decide+kernel,by decide+kernel⟩
theorem zj5 (T:Txt K mg t):FnOk P w K mg base CX0 6 t.f_parted_at t.fd_parted_at ["works","faults","others"] (sp_paT K):=by
 refine T.d_parted_at.F.okB zjI (fun vs H Q E h=>?_) (fun cdv A outer s H vs Q E hr h=>?_)
 ·obtain ⟨x,y,z,w,fs,gs,rfl,_⟩:=h
  rfl
 obtain ⟨x,y,z,w,fs,gs,rfl,hx,wf,hy,gf,af,lf,hz,gg,ag,lg,q⟩:=h
 refine ⟨_,(zaf (zap (zaj (zcM T) (hr.mono (by decide)) rfl T.d_first_unlike.m T.d_first_unlike.F.kp T.d_first_unlike.b .nil zaC (zaa (bpv 0) (zaa (zaj (zbH T) (hr.mono (by decide)) rfl T.d_stuck_places.m T.d_stuck_places.F.kp T.d_stuck_places.b .nil zaC (zaa (bpv 0) (zaa (bpv 1) (zac)))) (zaa (zaj (zbH T) (hr.mono (by decide)) rfl T.d_stuck_places.m T.d_stuck_places.F.kp T.d_stuck_places.b .nil zaC (zaa (bpv 0) (zaa (bpv 2) (zac)))) (zac))))))),?_⟩
 refine ⟨_,rfl,_,rfl,_,rfl,x,y,w,fs,rfl,hx,wf,hy,gf,af,lf,fun d H1 s1 nd ed=>?_⟩
 refine ⟨_,rfl,_,rfl,x,z,w,gs,rfl,hx.mono s1,wf,hz.mono s1,gg,ag,lg,fun e H2 s2 ne ee=>?_⟩
 have s12:=s1.trans s2
 exact ⟨x,d,e,w,fs,gs,rfl,hx.mono s12,wf,s2 _ _ ed,ee,fun f hf=>(gf f hf).2,fun f hf=>(gg f hf).2,af,ag,lf,lg,fun v H3 s3 ro=>q v H3 (s12.trans s3) (ro.any s12)⟩
theorem zjh:zat ["pairs"] ["pairs"] (zak zdW):=⟨rfl,rfl,rfl,by decide+kernel,rfl,by decide+kernel,by decide+kernel⟩
theorem zji (T:Txt K mg t):FnOk P w K mg base CX0 1 t.f_are_alike t.fd_are_alike ["pairs"] sp_aa:=by
 refine T.d_are_alike.F.okB zjh (fun vs H Q E h=>?_) (fun cdv A outer s H vs Q E hr h=>?_)
 ·obtain ⟨v,cs,rfl,_⟩:=h
  rfl
 obtain ⟨v,cs,rfl,⟨l,ps,rfl,hl,rfl,hp⟩,lz,q⟩:=h
 have hu64:=hr.units
 have lz':ps.length≤16:=by rw [yB] at lz;exact lz
 refine ⟨_,(zaf (zap (zaK (zgK rfl) rfl T.z_all yaG (zaa (zaJ rfl (N:=["right","wrong"]) (n:=2) (cap:=[]) (zbc rfl rfl) (zaz (bpv 0)) (zcs (by decide) (by decide)) (fun _ _ _ _=>(zc6 (K:=K) (n:=2) rfl (zar (zah (k:=0) (show (["right","wrong"]:List Str).Nodup by decide+kernel) rfl (Or.inl rfl)) (zar (zah (k:=1) (show (["right","wrong"]:List Str).Nodup by decide+kernel) rfl (Or.inl rfl)) za1)))) (fun _ _ _ _=>zaI) (fun _ _ _ _=>(zes zdS (bpv 0) (bpv 1) (zaO _)))) (zac))))),?_⟩
 refine ⟨_,rfl,l,rfl,⟨_,.of hl⟩,fun D hD=>zaN (K:=K) (a:=l) (xs:=ps.map fun p=>V.ref p.2)
   (fun j H4=>Same H H4∧H4 D=some (.lst ((((ps.map qB).take j).map fun c=>decide (hiV c=loV c)).map V.bl)))
   ⟨zad hD _,zab⟩ (fun j H4 _ z=>.of (z.1 _ _ hl)) ?_ ?_⟩
 ·rintro j y H4 hy ⟨s4,eD⟩
  rw [yG] at hy
  cases hz:ps[j]? with
  | none=>rw [hz] at hy;cases hy
  | some p=>
   rw [hz] at hy
   cases hy
   have hm:=yH hz
   have lj:j < ps.length:=(yF.mp hz).1
   have hpo:=s4 _ _ (hp p hm).2
   refine ⟨p.2,_,rfl,.of hpo,rfl,_,_,rfl,_,_,rfl,rfl,?_⟩
   refine ⟨_,rfl,_,rfl,rfl,?_⟩
   refine ⟨_,eD,big (by rw [yB,yB,yP];omega),s4.write hD _,?_⟩
   rw [zab,yO,yG,hz,yK,yK]
   have e:decide (V.int ((p.1 / 2:Nat):Int)=V.int ((p.1 % 2:Nat):Int))=decide (hiV p.1=loV p.1):=by
    by_cases c:hiV p.1=loV p.1
    ·rw [decide_eq_true c]
     exact decide_eq_true (congrArg V.int c)
    ·rw [decide_eq_false c]
     exact decide_eq_false fun z=>c (V.int.inj z)
   show some (HO.lst (_++ [V.bl (decide (V.int ((p.1 / 2:Nat):Int)=V.int ((p.1 % 2:Nat):Int)))]))=_
   rw [e]
   rfl
 rintro H4 ⟨s4,eD⟩
 rw [yB,jP (by rw [yB];exact yN _)] at eD
 refine ⟨D,_,rfl,.of eD,?_⟩
 have e:(((ps.map qB).map fun c=>decide (hiV c=loV c)).all id)=(ps.map qB).all fun c=>decide (hiV c=loV c):=by rw [yb3];rfl
 rw [e]
 exact q H4 s4
theorem zd2:zat ["works","stuck","known","pairs"] ["works","stuck","known"] (zak zbY):=⟨rfl,rfl,rfl,by decide+kernel,rfl,by decide+kernel,by decide+kernel⟩
theorem zd3 (T:Txt K mg t):FnOk P w K mg base CX0 7 t.f_outputs_alike t.fd_outputs_alike ["works","stuck","known"] (sp_oal K):=by
 refine T.d_outputs_alike.F.okB zd2 (fun vs H Q E h=>?_) (fun cdv A outer s H vs Q E hr h=>?_)
 ·obtain ⟨x,d,p,w,fs,ks,rfl,_⟩:=h
  rfl
 obtain ⟨x,d,p,w,fs,ks,rfl,hx,wf,hd,fb,hp,hl,kb,q⟩:=h
 have hu64:=hr.units
 obtain ⟨a,ga,oa,gs,os,rfl,ha,hg,ho,rg,ro⟩:=zbr hx
 refine ⟨_,(zae (zal (k:=3) zd2.nd rfl (Or.inr rfl) (zaj (zhx T) (hr.mono (by decide)) rfl T.d_every_pairs.m T.d_every_pairs.F.kp T.d_every_pairs.b .nil zaC (zaa (bpv 0) (zaa (bpv 1) (zaa (bpv 2) (zac))))))
  (zaf (zap (zaK (zgK rfl) rfl T.z_all yaG (zaa (zaJ rfl (N:=["wire","pairs"]) (n:=1) (cap:=[3]) (zbc rfl rfl) (zaz (zas zaL (bpv 0) zag (fun _ _=>rfl))) (zaF (by decide)) (fun _ _ _ _=>(zah (k:=0) (show (["wire","pairs"]:List Str).Nodup by decide+kernel) rfl (Or.inl rfl))) (fun _ _ _ _=>zaI) (fun _ _ _ _=>(zaj (zji T) (hr.mono (by decide)) rfl T.d_are_alike.m T.d_are_alike.F.kp T.d_are_alike.b .nil zaC (zaa (zas (zep (K:=K)) (bpv 1) (bpv 0) (fun _ _=>rfl)) (zac))))) (zac)))))),?_⟩
 refine ⟨_,rfl,_,rfl,_,rfl,.ref a,d,p,w,fs,ks,rfl,hx,wf,hd,fb,hp,hl,kb,fun R ys H1 s1 nR eR hys=>?_⟩
 have lw:=zex fs w.gates ks w.gates.length
 have lys:=hys.len.trans lw
 have ho1:=s1.seq ho
 have lo:w.outs.length≤40:=wf.o3
 have eos:=zee ro
 subst eos
 refine ⟨_,rfl,a,_,_,_,rfl,rfl,s1.seqT ha,rfl,oa,rfl,⟨_,ho1⟩,fun D hD=>zaN (K:=K) (a:=oa) (xs:=w.outs.map V.int)
  (fun j H4=>Same H1 H4∧H4 D=some (.lst (((w.outs.take j).map fun o=>((zaZ fs w.gates ks w.gates.length).getD o.toNat []).all fun c=>decide (hiV c=loV c)).map V.bl)))
  ⟨zad hD _,zab⟩ (fun j H4 _ z=>z.1.seq ho1) ?_ ?_⟩
 ·rintro j y H4 hy ⟨s4,eD⟩
  rw [yG] at hy
  cases hz:w.outs[j]? with
  | none=>rw [hz] at hy;cases hy
  | some o=>
   rw [hz] at hy
   cases hy
   have lj:j < w.outs.length:=(yF.mp hz).1
   obtain ⟨o0,o1⟩:=wf.outs o (yH hz)
   have hk:o.toNat < ys.length:=by omega
   have q1:atI ys ((o.toNat:Nat):Int)=some ys[o.toNat]:=zb7 (yC hk)
   rw [show ((o.toNat:Nat):Int)=o by omega] at q1
   obtain ⟨cs,hc,pn⟩:=hys.get (yC hk)
   have lc:cs.length≤4:=zgG fs w.gates ks w.gates.length cs (yH hc)
   refine ⟨_,rfl,_,rfl,R,_,_,_,rfl,rfl,.of (s4 _ _ eR),q1,_,cs,rfl,pn.here.mono s4,by omega,fun H5 s5=>?_⟩
   refine ⟨_,s5 _ _ eD,big (by rw [yB,yB,yP];omega),(s4.trans s5).write hD _,?_⟩
   rw [zab,yO,hz,yK,yK]
   have e:(zaZ fs w.gates ks w.gates.length).getD o.toNat []=cs:=by rw [yL,hc];rfl
   show _=some (HO.lst (_++ [V.bl (((zaZ fs w.gates ks w.gates.length).getD o.toNat []).all fun c=>decide (hiV c=loV c))]))
   rw [e]
 rintro H4 ⟨s4,eD⟩
 rw [yB,yQ] at eD
 refine ⟨D,_,rfl,.of eD,?_⟩
 rw [yb3]
 exact q H4 (s1.trans s4)
theorem zcZ:zat ["works","stuck","known","paper","place","low","high"] ["works","stuck","known","paper"] (zak zdE):=⟨rfl,rfl,rfl,by decide+kernel,rfl,by decide+kernel,by decide+kernel⟩
theorem zpK {k m:Nat}(T:Txt K mg t)(hk: 7≤k)(rec:FnOk P w K mg base CX0 k t.f_is_let_by t.fd_is_let_by ["works","stuck","known","paper"] (zkY K m)):FnOk P w K mg base CX0 (k+1) t.f_is_let_by t.fd_is_let_by ["works","stuck","known","paper"] (zkY K (m+1)):=by
 refine T.d_is_let_by.F.okB zcZ (fun vs H Q E h=>?_) (fun cdv A outer s H vs Q E hr h=>?_)
 ·obtain ⟨x,v,d,p,w,fs,ks,pp,rfl,_⟩:=h
  rfl
 obtain ⟨x,v,d,p,w,fs,ks,pp,rfl,hx,wf,hd,fb,hp,hl,kb,hv,dp,q⟩:=h
 have hu64:=hr.units
 obtain ⟨a,ga,oa,gs,os,rfl,ha,hg,ho,rg,ro⟩:=zbr hx
 refine ⟨_,(zae (zaP (zax zdS (zas zaL (bpv 3) zag (fun _ _=>rfl)) zay (zaO _)) (zaf (zap (zaj (zd3 T) (hr.mono (jB (by decide) hk)) rfl T.d_outputs_alike.m T.d_outputs_alike.F.kp T.d_outputs_alike.b .nil zaC (zaa (bpv 0) (zaa (bpv 1) (zaa (bpv 2) (zac))))))) zaA)
  (zae (zal (k:=4) zcZ.nd rfl (Or.inl rfl) (zas zaL (bpv 3) zag (fun _ _=>rfl)))
  (zae (zaP (zgJ (zpb (zke (zn2 op_le zpS zag (bpv 4) (zas zaL (bpv 0) zag (fun _ _=>rfl)))) (znz (zeT (ziQ (zas za0 (bpv 2) (bpv 4) (fun _ _=>rfl))))))) (zaf (zap zfb)) zaA)
  (zae (zal (k:=5) zcZ.nd rfl (Or.inl rfl) (zao zbS (zao zbS (zco zfH (bpv 2) zc8 (zcW (bpv 4))) (zau (zaa zag (zac)))) (zco zfH (bpv 2) (zcW (zao zbE (bpv 4) zag)) zc8)))
  (zae (zal (k:=6) zcZ.nd rfl (Or.inl rfl) (zao zbS (zao zbS (zco zfH (bpv 2) zc8 (zcW (bpv 4))) (zau (zaa zag (zac)))) (zco zfH (bpv 2) (zcW (zao zbE (bpv 4) zag)) zc8)))
  (zaf (zap (zqa (zaj rec hr rfl T.d_is_let_by.m T.d_is_let_by.F.kp T.d_is_let_by.b .nil zaC (zaa (bpv 0) (zaa (bpv 1) (zaa (bpv 5) (zaa (zas zaL (bpv 3) zag (fun _ _=>rfl)) (zac)))))) (zqh (zaj rec hr rfl T.d_is_let_by.m T.d_is_let_by.F.kp T.d_is_let_by.b .nil zaC (zaa (bpv 0) (zaa (bpv 1) (zaa (bpv 6) (zaa (zas zaL (bpv 3) zag (fun _ _=>rfl)) (zac))))))))))))))),?_⟩
 cases pp with
 | same=>
  obtain ⟨pa,rfl,hpa⟩:=zkV hv
  refine ⟨_,rfl,pa,_,_,_,rfl,rfl,hpa,rfl,rfl,_,rfl,ite2 (fun c=>?_) (fun c=>absurd (decide_eq_true rfl) c)⟩
  exact ⟨_,rfl,_,rfl,_,rfl,.ref a,d,p,w,fs,ks,rfl,hx,wf,hd,fb,hp,hl,kb,q⟩
 | split i l h2=>
  obtain ⟨pa,lv,hv2,rfl,hpa,rl,rh⟩:=zjF hv
  refine ⟨_,rfl,pa,_,_,_,rfl,rfl,hpa,rfl,rfl,_,rfl,ite2 (fun c=>absurd (V.str.inj (of_decide_eq_true c)) (by decide)) (fun c=>?_)⟩
  refine ⟨_,rfl,pa,_,_,_,rfl,rfl,hpa,rfl,?_⟩
  have lf:¬(0≤i∧i < w.ins∧ks.getD i.toNat none=none)→Q (.bl false) H:=fun z=>by
   have e:zcO w fs ks (.split i l h2)=false:=by
    show (decide (0≤i∧i < w.ins∧ks.getD i.toNat none=none) && _)=false
    rw [decide_eq_false z]
    rfl
   have:=q H (Same.refl _)
   rw [e] at this
   exact this
  refine ⟨_,rfl,_,_,rfl,rfl,_,rfl,ite2 (fun c1=>?_) (fun c1=>⟨_,rfl,iteT (iteT (lf fun z=>c1 (decide_eq_true z.1)))⟩)⟩
  have i0: 0≤i:=of_decide_eq_true c1
  refine ⟨_,rfl,a,_,_,_,rfl,rfl,ha,rfl,_,_,rfl,rfl,_,rfl,ite2 (fun c2=>iteT (lf fun z=>?_)) (fun c2=>?_)⟩
  ·rw [decide_eq_true z.2.1] at c2
   cases c2
  have i1:i < w.ins:=by
   by_cases z:i < w.ins
   ·exact z
   ·rw [decide_eq_false z] at c2
    exact absurd rfl c2
  have hik:i.toNat < ks.length:=by omega
  have atk:atI (ks.map optV) i=some (optV (ks.getD i.toNat none)):=by
   have:=zb7 (xs:=ks.map optV) (j:=i.toNat) (v:=optV (ks.getD i.toNat none)) (by rw [yG,yL,yC hik];rfl)
   rw [show ((i.toNat:Nat):Int)=i by omega] at this
   exact this
  refine ⟨_,rfl,_,rfl,p,_,_,_,rfl,rfl,.of hp,atk,_,rfl,ite2 (fun c3=>lf fun z=>?_) (fun c3=>?_)⟩
  ·rw [z.2.2] at c3
   cases c3
  have kn:ks.getD i.toNat none=none:=by
   cases e:ks.getD i.toNat none with
   | none=>rfl
   | some b=>rw [e] at c3;exact absurd rfl c3
  have len:(ks.map optV).length=ks.length:=yB _
  have i6:=wf.i6
  refine ⟨_,rfl,_,rfl,_,rfl,p,_,rfl,.of hp,fun L1a h1a=>?_⟩
  rw [zjg (ks.map optV) i0 (by omega)]
  have k1a:=zad h1a (.lst ((ks.map optV).take i.toNat))
  refine ⟨(by show 1≤yM;decide),fun L2a h2a=>?_⟩
  have k2a:=zad h2a (.lst [V.int 0])
  refine ⟨L1a,L2a,_,_,rfl,rfl,k2a _ _ zab,zab,bigE (by rw [yP];show _+1≤_;omega),fun L3a h3a=>?_⟩
  have k3a:=zad h3a (.lst ((ks.map optV).take i.toNat++ [V.int 0]))
  have s3a:=(k1a.trans k2a).trans k3a
  refine ⟨_,rfl,_,rfl,_,_,rfl,rfl,_,rfl,p,_,rfl,.of (s3a _ _ hp),fun L4a h4a=>?_⟩
  rw [zjL (ks.map optV) (show (0:Int)≤i+1 by omega) (by omega)]
  have k4a:=zad h4a (.lst ((ks.map optV).drop (i+1).toNat))
  refine ⟨L3a,L4a,_,_,rfl,rfl,k4a _ _ zab,zab,bigE (by rw [yJ,yP,wB];show _+1+_≤_;omega),fun L5a h5a=>?_⟩
  rw [zlc ks i0 (by omega) 0]
  have k5a:=zad h5a (.lst ((ks.set i.toNat (some 0)).map optV))
  have s5a:=(s3a.trans k4a).trans k5a
  generalize hHa:upd _ L5a (HO.lst ((ks.set i.toNat (some 0)).map optV))=Ha at s5a k5a
  have eLa:Ha L5a=some (HO.lst ((ks.set i.toNat (some 0)).map optV)):=by rw [← hHa];exact zab
  clear hHa
  refine ⟨_,rfl,_,rfl,_,rfl,p,_,rfl,.of (s5a _ _ hp),fun L1b h1b=>?_⟩
  rw [zjg (ks.map optV) i0 (by omega)]
  have k1b:=zad h1b (.lst ((ks.map optV).take i.toNat))
  refine ⟨(by show 1≤yM;decide),fun L2b h2b=>?_⟩
  have k2b:=zad h2b (.lst [V.int 1])
  refine ⟨L1b,L2b,_,_,rfl,rfl,k2b _ _ zab,zab,bigE (by rw [yP];show _+1≤_;omega),fun L3b h3b=>?_⟩
  have k3b:=zad h3b (.lst ((ks.map optV).take i.toNat++ [V.int 1]))
  have s3b:=s5a.trans ((k1b.trans k2b).trans k3b)
  refine ⟨_,rfl,_,rfl,_,_,rfl,rfl,_,rfl,p,_,rfl,.of (s3b _ _ hp),fun L4b h4b=>?_⟩
  rw [zjL (ks.map optV) (show (0:Int)≤i+1 by omega) (by omega)]
  have k4b:=zad h4b (.lst ((ks.map optV).drop (i+1).toNat))
  refine ⟨L3b,L4b,_,_,rfl,rfl,k4b _ _ zab,zab,bigE (by rw [yJ,yP,wB];show _+1+_≤_;omega),fun L5b h5b=>?_⟩
  rw [zlc ks i0 (by omega) 1]
  have k5b:=zad h5b (.lst ((ks.set i.toNat (some 1)).map optV))
  have s5b:=(s3b.trans k4b).trans k5b
  have tab:=(((k1b.trans k2b).trans k3b).trans k4b).trans k5b
  generalize hHb:upd _ L5b (HO.lst ((ks.set i.toNat (some 1)).map optV))=Hb at s5b k5b tab
  have eLb:Hb L5b=some (HO.lst ((ks.set i.toNat (some 1)).map optV)):=by rw [← hHb];exact zab
  clear hHb
  have el:zcO w fs ks (.split i l h2)=(zcO w fs (ks.set i.toNat (some 0)) l && zcO w fs (ks.set i.toNat (some 1)) h2):=by
   show (decide (0≤i∧i < w.ins∧ks.getD i.toNat none=none) && _)=_
   rw [decide_eq_true ⟨i0,i1,kn⟩]
   rfl
  have ll:∀ b:Int,(((ks.set i.toNat (some b)).length:Nat):Int)=w.ins:=fun b=>by rw [xZ];exact hl
  refine ⟨_,rfl,_,rfl,_,rfl,_,rfl,pa,_,_,_,rfl,rfl,s5b.seqT hpa,rfl,.ref a,lv,d,L5a,w,fs,ks.set i.toNat (some 0),l,rfl,hx.mono s5b,wf,s5b _ _ hd,fb,tab _ _ eLa,ll 0,kb.set (.inl rfl) _,rl.mono s5b,dep_l dp,fun H6 s6=>⟨_,rfl,?_⟩⟩
  refine ite2 (fun c5=>?_) (fun c5=>?_)
  ·refine ⟨_,rfl,_,rfl,_,rfl,_,rfl,pa,_,_,_,rfl,rfl,(s5b.trans s6).seqT hpa,rfl,.ref a,hv2,d,L5b,w,fs,ks.set i.toNat (some 1),h2,rfl,hx.mono (s5b.trans s6),wf,(s5b.trans s6) _ _ hd,fb,s6 _ _ eLb,ll 1,kb.set (.inr rfl) _,rh.mono (s5b.trans s6),dep_h dp,fun H7 s7=>?_⟩
   have:=q H7 ((s5b.trans s6).trans s7)
   rw [el,c5] at this
   exact this
  ·have:=q H6 (s5b.trans s6)
   rw [el,Bool.not_eq_true _ |>.mp c5] at this
   exact this
theorem znh (T:Txt K mg t):∀ m:Nat,FnOk P w K mg base CX0 (7+m) t.f_is_let_by t.fd_is_let_by ["works","stuck","known","paper"] (zkY K m)
 | 0=>⟨fun vs H Q E ⟨_,_,_,_,_,_,_,_,_,_,_,_,_,_,_,_,_,z,_⟩=>absurd z (yas _),fun A outer s H args us vs Q E hr a b c ⟨_,_,_,_,_,_,_,_,_,_,_,_,_,_,_,_,_,z,_⟩=>absurd z (yas _)⟩
 | m+1=>zpK T (kB 7 m) (znh T m)
theorem zjQ (T:Txt K mg t):FnOk P w K mg base CX0 16 t.f_is_let_by t.fd_is_let_by ["works","stuck","known","paper"] (zkY K 9):=znh T 9
theorem zhz:zat ["works","faults","paper"] ["works","faults","paper"] (zak zcA):=⟨rfl,rfl,rfl,by decide+kernel,rfl,by decide+kernel,by decide+kernel⟩
theorem zeC (T:Txt K mg t):FnOk P w K mg base CX0 17 t.f_paper_shows t.fd_paper_shows ["works","faults","paper"] (sp_ps K):=by
 refine T.d_paper_shows.F.okB zhz (fun vs H Q E h=>?_) (fun cdv A outer s H vs Q E hr h=>?_)
 ·obtain ⟨x,y,v,w,fs,pp,rfl,_⟩:=h
  rfl
 obtain ⟨x,y,v,w,fs,pp,rfl,hx,wf,hy,gd,ap,lf,hv,dp,q⟩:=h
 have hu64:=hr.units
 obtain ⟨a,ga,oa,gs,os,rfl,ha,hg,ho,rg,ro⟩:=zbr hx
 refine ⟨_,(zaf (zap (zaj (zjQ T) (hr.mono (by decide)) rfl T.d_is_let_by.m T.d_is_let_by.F.kp T.d_is_let_by.b .nil zaC (zaa (bpv 0) (zaa (zaj (zbH T) (hr.mono (by decide)) rfl T.d_stuck_places.m T.d_stuck_places.F.kp T.d_stuck_places.b .nil zaC (zaa (bpv 0) (zaa (bpv 1) (zac)))) (zaa (zao zo4 (zau (zaa ziu (zac))) (zas zaL (bpv 0) zag (fun _ _=>rfl))) (zaa (bpv 2) (zac)))))))),?_⟩
 refine ⟨_,rfl,_,rfl,_,rfl,.ref a,y,w,fs,rfl,hx,wf,hy,gd,ap,lf,fun d H1 s1 nd ed=>?_⟩
 have i6:=wf.i6
 have i1:=wf.i1
 refine ⟨(by show 1≤yM;decide),fun L1 h1=>?_⟩
 have k1:=zad h1 (.lst [V.non])
 refine ⟨_,rfl,a,_,_,_,rfl,rfl,(s1.trans k1).seqT ha,rfl,L1,_,_,rfl,rfl,zab,by omega,by omega,bigE (by show 1 * _≤_;omega),fun L2 h2=>?_⟩
 have e:(qG w.ins.toNat [V.non]).flatten=(qG w.ins.toNat (none:Option Int)).map optV:=by
  rw [ybX]
  generalize w.ins.toNat=n
  induction n with
  | zero=>rfl
  | succ n ih=>rw [xK,kO,ih,xK];rfl
 rw [e]
 have k2:=zad h2 (.lst ((qG w.ins.toNat (none:Option Int)).map optV))
 have s12:=(s1.trans k1).trans k2
 refine ⟨_,rfl,.ref a,v,d,L2,w,fs,qG w.ins.toNat none,pp,rfl,hx.mono s12,wf,(k1.trans k2) _ _ ed,fun f hf=>(gd f hf).2,zab,by rw [vL];omega,?_,hv.mono s12,dp,fun H3 s3=>q H3 (s12.trans s3)⟩
 intro o ho b hb
 rw [(yar.mp ho).2] at hb
 cases hb
theorem zb5:zat ["works","stuck","known","ahead","low","high"] ["works","stuck","known"] (zak zcj):=⟨rfl,rfl,rfl,by decide+kernel,rfl,by decide+kernel,by decide+kernel⟩
theorem zqf {k m:Nat}(T:Txt K mg t)(hk: 7≤k)(rec:FnOk P w K mg base CX0 k t.f_paper_behind t.fd_paper_behind ["works","stuck","known"] (zlr K m)):FnOk P w K mg base CX0 (k+1) t.f_paper_behind t.fd_paper_behind ["works","stuck","known"] (zlr K (m+1)):=by
 refine T.d_paper_behind.F.okB zb5 (fun vs H Q E h=>?_) (fun cdv A outer s H vs Q E hr h=>?_)
 ·obtain ⟨x,d,p,w,fs,bs,n,rfl,_⟩:=h
  rfl
 obtain ⟨x,d,p,w,fs,bs,n,rfl,hx,wf,hd,fb,nv,hp,b,hl,nm,q⟩:=h
 have hu64:=hr.units
 have i6:=wf.i6
 obtain ⟨a,ga,oa,gs,os,rfl,ha,hg,ho,rg,ro⟩:=zbr hx
 have len:(bs.map V.int).length=bs.length:=yB _
 refine ⟨_,(zae (zal (k:=3) zb5.nd rfl (Or.inl rfl) (zaK zaD rfl T.z_len xA (zaa (bpv 2) (zac))))
  (zae (zaP (zij (zaj (zd3 T) (hr.mono (jB (by decide) hk)) rfl T.d_outputs_alike.m T.d_outputs_alike.F.kp T.d_outputs_alike.b .nil zaC (zaa (bpv 0) (zaa (bpv 1) (zaa (zao zbS (bpv 2) (zao zo4 (zau (zaa ziu (zac))) (zao zg6 (zas zaL (bpv 0) zag (fun _ _=>rfl)) (bpv 3)))) (zac)))))) (zaf (zap (zaG (zaa zay (zac))))) zaA)
  (zae (zal (k:=4) zb5.nd rfl (Or.inl rfl) (zaj rec hr rfl T.d_paper_behind.m T.d_paper_behind.F.kp T.d_paper_behind.b .nil zaC (zaa (bpv 0) (zaa (bpv 1) (zaa (zao zbS (bpv 2) (zau (zaa zag (zac)))) (zac))))))
  (zae (zal (k:=5) zb5.nd rfl (Or.inl rfl) (zaj rec hr rfl T.d_paper_behind.m T.d_paper_behind.F.kp T.d_paper_behind.b .nil zaC (zaa (bpv 0) (zaa (bpv 1) (zaa (zao zbS (bpv 2) (zau (zaa zag (zac)))) (zac))))))
  (zaf (zap (zaG (zaa zay (zaa (bpv 3) (zaa (bpv 4) (zaa (bpv 5) (zac)))))))))))),?_⟩
 refine ⟨_,rfl,p,_,rfl,.inl (.of hp),?_⟩
 refine ⟨_,rfl,_,rfl,_,rfl,(by show 1≤yM;decide),fun L1 h1=>?_⟩
 have k1:=zad h1 (.lst [V.non])
 have en:(w.ins - (((bs.map V.int).length:Nat):Int)).toNat=n:=by rw [len];omega
 refine ⟨_,rfl,a,_,_,_,rfl,rfl,k1.seqT ha,rfl,_,rfl,_,_,rfl,rfl,L1,_,_,rfl,rfl,zab,by rw [len];omega,by rw [len];omega,bigE (by show 1 * _≤_;rw [en];omega),fun L2 h2=>?_⟩
 rw [en,zoF]
 have k2:=zad h2 (.lst ((qG n (none:Option Int)).map optV))
 have s12:=k1.trans k2
 refine ⟨p,L2,_,_,rfl,rfl,s12 _ _ hp,zab,bigE (by rw [len,yB,vL];omega),fun L3 h3=>?_⟩
 have ep:bs.map V.int++(qG n (none:Option Int)).map optV=(pad n bs).map optV:=by
  unfold pad
  rw [yK,← zkP]
 rw [ep]
 have k3:=zad h3 (.lst ((pad n bs).map optV))
 have s13:=s12.trans k3
 refine ⟨.ref a,d,L3,w,fs,pad n bs,rfl,hx.mono s13,wf,s13 _ _ hd,fb,zab,by rw [zm3];exact hl,zle b,fun H4 s4=>⟨_,rfl,?_⟩⟩
 have s14:=s13.trans s4
 refine ite2 (fun c=>?_) (fun c=>?_)
 ·refine ⟨(by show 1≤yM;decide),fun T1 h1'=>q _ _ (s14.upd h1' _) ?_⟩
  have e:zbD w fs n bs= .same:=by
   cases n with
   | zero=>rfl
   | succ n=>
    unfold zbD
    rw [if_pos c]
  rw [e]
  exact .tup (.of zab) (.cons (.str _) .nil)
 ·cases n with
  | zero=>exact absurd (zgP fb wf nv b hl) c
  | succ n=>
   have e:zbD w fs (n+1) bs= .split bs.length (zbD w fs n (bs++ [0])) (zbD w fs n (bs++ [1])):=by
    conv=>lhs;unfold zbD
    rw [if_neg c]
   have cat:∀ z:Int,bs.map V.int++ [V.int z]=(bs++ [z]).map V.int:=fun z=>by rw [yK];rfl
   have lb:∀ z:Int,(((bs++ [z]).length+n:Nat):Int)=w.ins:=fun z=>by rw [yJ,yX];omega
   refine ⟨_,rfl,_,rfl,_,rfl,(by show 1≤yM;decide),fun L4 h4=>?_⟩
   have k4:=zad h4 (.lst [V.int 0])
   refine ⟨p,L4,_,_,rfl,rfl,(s14.trans k4) _ _ hp,zab,bigE (by rw [len];show _+1≤_;omega),fun L5 h5=>?_⟩
   rw [cat 0]
   have k5:=zad h5 (.lst ((bs++ [(0:Int)]).map V.int))
   have s15:=(s14.trans k4).trans k5
   refine ⟨.ref a,d,L5,w,fs,bs++ [0],n,rfl,hx.mono s15,wf,s15 _ _ hd,fb,nv,zab,zfC b (.inl rfl),lb 0,by omega,fun lv H6 s6 rl=>?_⟩
   have s16:=s15.trans s6
   refine ⟨_,rfl,_,rfl,_,rfl,(by show 1≤yM;decide),fun L7 h7=>?_⟩
   have k7:=zad h7 (.lst [V.int 1])
   refine ⟨p,L7,_,_,rfl,rfl,(s16.trans k7) _ _ hp,zab,bigE (by rw [len];show _+1≤_;omega),fun L8 h8=>?_⟩
   rw [cat 1]
   have k8:=zad h8 (.lst ((bs++ [(1:Int)]).map V.int))
   have s18:=(s16.trans k7).trans k8
   refine ⟨.ref a,d,L8,w,fs,bs++ [1],n,rfl,hx.mono s18,wf,s18 _ _ hd,fb,nv,zab,zfC b (.inr rfl),lb 1,by omega,fun hv H9 s9 rh=>?_⟩
   have s19:=s18.trans s9
   refine ⟨_,rfl,_,rfl,_,rfl,(by show 4≤yM;decide),fun T3 h3'=>?_⟩
   have kT:=zad h3' (.tup [.str "split",.int ((bs.map V.int).length:Nat),lv,hv])
   refine q _ _ (s19.trans kT) ?_
   rw [e,← len]
   exact .tup (.of zab) (.cons (.str _) (.cons (.int _) (.cons (rl.mono (((k7.trans k8).trans s9).trans kT)) (.cons (rh.mono kT) .nil))))
theorem znb (T:Txt K mg t):∀ m:Nat,FnOk P w K mg base CX0 (7+m) t.f_paper_behind t.fd_paper_behind ["works","stuck","known"] (zlr K m)
 | 0=>⟨fun vs H Q E ⟨_,_,_,_,_,_,_,_,_,_,_,_,_,_,_,_,z,_⟩=>absurd z (yas _),fun A outer s H args us vs Q E hr a b c ⟨_,_,_,_,_,_,_,_,_,_,_,_,_,_,_,_,z,_⟩=>absurd z (yas _)⟩
 | m+1=>zqf T (kB 7 m) (znb T m)
theorem zhf (T:Txt K mg t):FnOk P w K mg base CX0 14 t.f_paper_behind t.fd_paper_behind ["works","stuck","known"] (zlr K 7):=znb T 7
theorem zeh:zat ["works","faults","stuck","row"] ["works","faults"] (zak zdL):=⟨rfl,rfl,rfl,by decide+kernel,rfl,by decide+kernel,by decide+kernel⟩
theorem zi4 (T:Txt K mg t):FnOk P w K mg base CX0 15 t.f_test_told t.fd_test_told ["works","faults"] (sp_tt K):=by
 refine T.d_test_told.F.okB zeh (fun vs H Q E h=>?_) (fun cdv A outer s H vs Q E hr h=>?_)
 ·obtain ⟨x,y,w,fs,rfl,_⟩:=h
  rfl
 obtain ⟨x,y,w,fs,rfl,hx,wf,hy,gd,ap,lf,q⟩:=h
 have hu64:=hr.units
 have i1:=wf.i1
 have i6:=wf.i6
 refine ⟨_,(zae (zal (k:=2) zeh.nd rfl (Or.inl rfl) (zaj (zbH T) (hr.mono (by decide)) rfl T.d_stuck_places.m T.d_stuck_places.F.kp T.d_stuck_places.b .nil zaC (zaa (bpv 0) (zaa (bpv 1) (zac)))))
  (zae (zal (k:=3) zeh.nd rfl (Or.inl rfl) (zaj (zcM T) (hr.mono (by decide)) rfl T.d_first_unlike.m T.d_first_unlike.F.kp T.d_first_unlike.b .nil zaC (zaa (bpv 0) (zaa (bpv 2) (zaa zcn (zac))))))
  (zae (zaP (zeT (zkm (bpv 3))) (zaf (zap (zaG (zaa zay (zaa (zaj (zhf T) (hr.mono (by decide)) rfl T.d_paper_behind.m T.d_paper_behind.F.kp T.d_paper_behind.b .nil zaC (zaa (bpv 0) (zaa (bpv 2) (zaa (zau zac) (zac))))) (zac)))))) zaA)
  (zaf (zap (zaG (zaa zay (zaa (bpv 3) (zac))))))))),?_⟩
 refine ⟨_,rfl,_,rfl,x,y,w,fs,rfl,hx,wf,hy,gd,ap,lf,fun d H1 s1 nd ed=>?_⟩
 refine ⟨_,rfl,_,rfl,fun e he=>?_⟩
 have k2:=zad he (.dT [])
 have s12:=s1.trans k2
 have ed2:=k2 _ _ ed
 have fb:∀ f∈fs,f.worth=0∨f.worth=1:=fun f hf=>(gd f hf).2
 refine ⟨x,d,e,w,fs,[],rfl,hx.mono s12,wf,ed2,zab,fb,(fun _ z=>nomatch z),ap,xL,by omega,qL _,fun v H2 s2 res=>?_⟩
 have s02:=s12.trans s2
 have res0:=res.any s12
 cases eo:zbo w fs [] with
 | none=>
  rw [eo] at res0
  have ev:v= .non:=res0
  subst ev
  refine ⟨_,rfl,_,rfl,ite2 (fun c=>?_) (fun c=>absurd (decide_eq_true rfl) c)⟩
  refine ⟨_,rfl,_,rfl,(by show 0≤yM;decide),fun L3 h3=>?_⟩
  have k3:=zad h3 (.lst [])
  have s03:=s02.trans k3
  refine ⟨x,d,L3,w,fs,[],w.ins.toNat,rfl,hx.mono s03,wf,(s2.trans k3) _ _ ed2,fb,eo,zab,(fun _ z=>nomatch z),by rw [vW];omega,by omega,fun pv H4 s4 rp=>?_⟩
  refine ⟨(by show 2≤yM;decide),fun T5 h5=>q T5 _ ((s03.trans s4).upd h5 _) ((s03.trans s4).free h5) (.inl ⟨eo,pv,zab,rp.mono (zad h5 _)⟩)⟩
 | some row=>
  rw [eo] at res0
  obtain ⟨qa,rfl,nq,eq⟩:=res0
  refine ⟨_,rfl,_,rfl,ite2 (fun c=>absurd (of_decide_eq_true c) (fun z=>nomatch z)) (fun c=>?_)⟩
  refine ⟨_,rfl,(by show 2≤yM;decide),fun T5 h5=>q T5 _ (s02.upd h5 _) (s02.free h5) (.inr ⟨row,qa,eo,zab,nq,zad h5 _ _ _ eq⟩)⟩
theorem ziW:zat ["seen","number"] ["seen","number"] (zak zc1):=⟨rfl,rfl,rfl,by decide+kernel,rfl,by decide+kernel,by decide+kernel⟩
theorem zie (T:Txt K mg t):FnOk P w K mg base CX0 1 t.f_outputs_in t.fd_outputs_in ["seen","number"] sp_oi:=by
 refine T.d_outputs_in.F.okB ziW (fun vs H Q E h=>?_) (fun cdv A outer s H vs Q E hr h=>?_)
 ·obtain ⟨l,xs,k,R,rfl,_⟩:=h
  rfl
 obtain ⟨l,xs,k,R,rfl,hl,bel,lx,q⟩:=h
 have hu64:=hr.units
 refine ⟨_,(zaf (zap (zaJ rfl (N:=["worth","number"]) (n:=1) (cap:=[1]) (zbc rfl rfl) (zaz (bpv 0)) (zaF (by decide)) (fun _ _ _ _=>(zah (k:=0) (show (["worth","number"]:List Str).Nodup by decide+kernel) rfl (Or.inl rfl))) (fun _ _ _ _=>zaI) (fun _ _ _ _=>(zao zkc (zao znU (bpv 0) (bpv 1)) zag))))),?_⟩
 refine ⟨_,rfl,l,rfl,⟨_,.of hl⟩,fun D hD=>zaN (K:=K) (a:=l) (xs:=xs.map V.int) (fun j H4=>Same H H4∧H4 D=some (.lst (((xs.take j).map (bitI k)).map V.int))) ⟨zad hD _,zab⟩ (fun j H4 _ z=>.of (z.1 _ _ hl)) ?_ ?_⟩
 ·rintro j y H4 hy ⟨s4,eD⟩
  rw [yG] at hy
  cases hz:xs[j]? with
  | none=>rw [hz] at hy;cases hy
  | some n=>
   rw [hz] at hy
   cases hy
   refine ⟨_,rfl,_,rfl,_,_,rfl,rfl,wG _,_,_,rfl,rfl,_,eD,big (by rw [yB,yB,yP];omega),s4.write hD _,?_⟩
   rw [zab,yO,hz,yK,yK]
   show some (HO.lst (_++ [V.int (qT (n / 2 ^ ((k:Int)).toNat) 1)]))=_
   rw [zqb (bel n (yH hz))]
   rfl
 ·rintro H4 ⟨s4,eD⟩
  rw [yB,yQ] at eD
  exact q D H4 s4 hD eD
theorem zcz:zat ["row","number","worth"] ["row"] (zak zc3):=⟨rfl,rfl,rfl,by decide+kernel,rfl,by decide+kernel,by decide+kernel⟩
theorem ziq (T:Txt K mg t):FnOk P w K mg base CX0 1 t.f_row_number t.fd_row_number ["row"] (sp_rn K):=by
 refine T.d_row_number.F.okB zcz (fun vs H Q E h=>?_) (fun cdv A outer s H vs Q E hr h=>?_)
 ·obtain ⟨p,row,rfl,_⟩:=h
  rfl
 obtain ⟨p,row,rfl,hp,bits,l6,q⟩:=h
 have hu64:=hr.units
 refine ⟨_,(zae (zal (k:=1) zcz.nd rfl (Or.inl rfl) zag)
  (zae (zaE qA rfl (zaz (bpv 0)) (zah (k:=2) zcz.nd rfl (Or.inl rfl)) (zaf (zal (k:=1) zcz.nd rfl (Or.inl rfl) (zao zbE (zao zmT (bpv 1) zag) (bpv 2)))))
  (zaf (zap (bpv 1))))),?_⟩
 refine ⟨_,rfl,p,rfl,⟨_,hp⟩,zaV (K:=K) (a:=p) (xs:=row.map V.int) (fun j σ H4=>∃ o2:Option V,σ = [some (.ref p),some (.int (numR (row.take j):Nat)),o2]∧H4=H) ⟨_,rfl,rfl⟩ (fun j σ H4 _ z=>by obtain ⟨_,_,rfl⟩:=z;exact hp) ?_ ?_⟩
 ·rintro j y σ H4 hy ⟨o2,rfl,rfl⟩
  rw [yG] at hy
  cases hz:row[j]? with
  | none=>rw [hz] at hy;cases hy
  | some b=>
   rw [hz] at hy
   cases hy
   have hb:=bits b (yH hz)
   have lt:=(zgr (row.take j) fun x hx=>bits x (yaL hx)).2
   have l2:(row.take j).length≤6:=by rw [yP];omega
   have l3: 2 ^ (row.take j).length≤2 ^ 6:=jT (by decide) l2
   refine ⟨_,rfl,_,_,rfl,rfl,?_,_,rfl,_,_,rfl,rfl,some (.int b),?_,rfl⟩
   ·refine .inl ⟨by omega,?_⟩
    have h6:(2:Nat) ^ 6=64:=by decide
    have:numR (row.take j) < 64:=by omega
    have h64:(2:Int) ^ 64=18446744073709551616:=by decide
    omega
   ·have e:numR (row.take (j+1))=numR (row.take j) * 2+b.toNat:=by
     unfold numR
     rw [yO,hz,xU]
     rfl
    rw [e]
    show [_,some (V.int (((numR (row.take j):Nat):Int) * 2+b)),_]=_
    have eb:((b.toNat:Nat):Int)=b:=vY (by rcases hb with rfl | rfl <;> decide)
    rw [Int.natCast_add,Int.natCast_mul,eb]
    rfl
 ·rintro σ H4 ⟨o2,rfl,rfl⟩
  rw [yB,yQ]
  exact ⟨_,rfl,q⟩
theorem zhw:zat ["left","number","outputs"] ["left","number","outputs"] (zak zcx):=⟨rfl,rfl,rfl,by decide+kernel,rfl,by decide+kernel,by decide+kernel⟩
theorem zgz (T:Txt K mg t):FnOk P w K mg base CX0 2 t.f_left_behind t.fd_left_behind ["left","number","outputs"] (sp_lbR K):=by
 refine T.d_left_behind.F.okB zhw (fun vs H Q E h=>?_) (fun cdv A outer s H vs Q E hr h=>?_)
 ·obtain ⟨d,o,w,k,said,kvs,nms,G,rfl,_⟩:=h
  rfl
 obtain ⟨d,o,w,k,said,kvs,nms,G,rfl,off,hd,ld,nd,ln,wf,fb,ho,q⟩:=h
 have hu64:=hr.units
 have i1:=wf.i1
 refine ⟨_,(zaf (zap (zbw (zh2 rfl hu64) rfl T.z_dict ybu (zaa (zaJ rfl (N:=["name","seen","outputs","number"]) (n:=2) (cap:=[2,1]) (zbc rfl rfl) (zgH (bpv 0)) (zcs (by decide) (by decide)) (fun _ _ _ _=>(zc6 (K:=K) (n:=2) rfl (zar (zah (k:=0) (show (["name","seen","outputs","number"]:List Str).Nodup by decide+kernel) rfl (Or.inl rfl)) (zar (zah (k:=1) (show (["name","seen","outputs","number"]:List Str).Nodup by decide+kernel) rfl (Or.inl rfl)) za1)))) (fun _ _ _ _=>(zgy (zax (zkB (K:=K) hu64) (zaj (zie T) (hr.mono (by decide)) rfl T.d_outputs_in.m T.d_outputs_in.F.kp T.d_outputs_in.b .nil zaC (zaa (bpv 1) (zaa (bpv 3) (zac)))) (bpv 2) (zaO _)))) (fun _ _ _ _=>(zaG (zaa (bpv 0) (zaa (bpv 1) (zac)))))) (zac))))),?_⟩
 refine ⟨_,rfl,d,_,rfl,hd,fun ob D hD=>?_⟩
 have off2:=off.write (.head _) (.frz ob (.dT kvs))
 have ed2:=zab (H:=H) (a:=d) (o:=.frz ob (.dT kvs))
 generalize upd H d (.frz ob (.dT kvs))=H2 at hD off2 ed2
 have gD:G D=none:=off2.same.free hD
 have Dd:d≠D:=zam ed2 hD
 have lk:kvs.length=nms.length:=qI ld
 refine zhO (d:=d) (ob:=ob) (kvs:=kvs) (fun j H5=>∃ (xs:List V) (kvs2:List (List Key×V)),Off [d] G H5∧H5 d=some (.frz ob (.dT kvs))∧H5 D=some (.lst xs)∧zeI H5 xs kvs2∧zdp G w kvs2 (fitV w k said (nms.take j))∧xs.length≤j)
  ⟨[],[],off2.new hD _,zad hD _ _ _ ed2,zab,.nil,.nil,yN _⟩ (fun j H5 _ ⟨_,_,_,e,_⟩=>e) ?_ ?_
 ·rintro j b p H5 T1 hp ⟨xs,kvs2,off5,ed5,eD5,pr,l2,lx⟩ hT1 hb
  obtain ⟨nm,hnm,ek,l,ev,hl⟩:=zaS ld hp
  obtain ⟨pk,pv⟩:=p
  cases ek
  cases ev
  have lj:j < nms.length:=(yF.mp hnm).1
  have et:fitV w k said (nms.take (j+1))=fitV w k said (nms.take j)++fitV w k said [nm]:=by
   unfold fitV
   rw [yO,hnm,vF]
   rfl
  have k1:=zad hT1 (.tup [.ref b,.ref l])
  have off6:=off5.grow k1
  have ed6:=k1 _ _ ed5
  have eD6:=k1 _ _ eD5
  have pr6:=zez k1 pr
  have hb6:=hb.same k1
  have e6:(upd H5 T1 (.tup [.ref b,.ref l])) T1=some (.tup [.ref b,.ref l]):=zab
  refine ⟨T1,_,rfl,.of e6,rfl,_,_,rfl,_,_,rfl,rfl,?_⟩
  generalize upd H5 T1 (.tup [.ref b,.ref l])=H6 at off6 ed6 eD6 pr6 hb6 e6
  obtain ⟨sb1,sb2,sb3⟩:=zb2 (fs:=nmF nm) (fb nm (yH hnm)) wf
  refine ⟨_,rfl,_,rfl,l,zav w (nmF nm),k,_,rfl,off6.same _ _ hl,sb1,by rw [sb2];have:=wf.o3;have:=wf.few;omega,fun r H7 s7 n7 e7=>?_⟩
  have off7:=off6.grow s7
  have ed7:=s7 _ _ ed6
  have eD7:=s7 _ _ eD6
  have pr7:=zez s7 pr6
  have hb7:=hb6.same s7
  refine ⟨_,rfl,_,_,.lst (.of e7) (Reps.ints _),.lst (off7.same.seq ho) (Reps.ints _),zdy _,zdy _,fun e=>?_,fun e=>?_⟩
  ·have e1:(zav w (nmF nm)).map (bitI k)=said:=by
    have:=Dat.list.inj e
    exact zls this
   refine ⟨_,rfl,iteT ⟨_,rfl,_,rfl,(by show 2≤yM;decide),fun T2 h2=>?_⟩⟩
   have k2:=zad h2 (.tup [.ref b,.ref l])
   refine ⟨xs,k2 _ _ eD7,big (by omega),xs++ [.ref T2],kvs2++ [(nmK nm,.ref l)],?_,by rw [zai Dd];exact k2 _ _ ed7,zab,?_,?_,by rw [yJ];show _+1≤_;omega⟩
   ·exact ⟨(off7.grow k2).same.write gD _,(off7.grow k2).out,fun m hm=>by rw [yE.mp hm,zai Dd];exact ⟨_,k2 _ _ ed7⟩⟩
   ·exact zgM (k2 _ _ eD7) (yac (zez k2 pr7) ⟨T2,b,rfl,zab,hb7.same k2⟩)
   ·rw [et]
    have:fitV w k said [nm]= [nm]:=by
     unfold fitV
     rw [vD (by simpa using e1)]
     rfl
    rw [this]
    exact yac l2 ⟨rfl,l,rfl,hl⟩
  ·have e1:¬(zav w (nmF nm)).map (bitI k)=said:=fun z=>e (by rw [z])
   refine ⟨_,rfl,iteF ⟨xs,kvs2,off7,ed7,eD7,pr7,?_,by omega⟩⟩
   rw [et]
   have:fitV w k said [nm]= []:=by
    unfold fitV
    rw [vC (by simpa using e1)]
    rfl
   rw [this,jW]
   exact l2
 rintro H5 ⟨xs,kvs2,off5,ed5,eD5,pr,l2,lx⟩
 rw [lk,yQ] at l2
 have nd2:(kvs2.map (·.1)).Nodup:=by
  rw [zdp.keys l2]
  exact znx (nd.filter _)
 have lp:=qI pr
 refine ⟨D,xs,kvs2,rfl,eD5,pr,big (by omega),fun e he=>?_⟩
 rw [zg4 kvs2 [] nd2,yby]
 have k6:=zad he (.dT kvs2)
 exact q e ob kvs2 _ (off5.same.trans k6) (off5.same.free he) (k6 _ _ ed5) zab (l2.mono (off5.same.trans k6))
theorem zht (T:Txt K mg t):FnOk P w K mg base CX0 2 t.f_left_behind t.fd_left_behind ["left","number","outputs"] (sp_lb K):=by
 refine (zgz T).thaw.imp fun vs H Q E h=>?_
 obtain ⟨d,o,w,k,said,kvs,nms,rfl,hd,ld,nd,ln,wf,fb,ho,q⟩:=h
 have off:=zcV hd
 have ld2:zdp (hole d H) w kvs nms:=Paired.mapP ld fun _ _ ⟨a,l,b,c⟩=>⟨a,l,b,by rw [zaR (fun z=>by rw [z,hd] at c;cases c)];exact c⟩
 refine ⟨d,o,w,k,said,kvs,nms,hole d H,rfl,off,hd,ld2,nd,ln,wf,fb,?_,fun d2 ob kvs2 H' s n e1 e2 l2=>⟨d,ob,_,_,hd,e1,?_⟩⟩
 ·rcases ho with (e | ⟨ob2,e⟩) | e
  ·exact .inl (.inl (by rw [zaR (fun z=>by rw [z,hd] at e;cases e)];exact e))
  ·exact .inl (.inr ⟨ob2,by rw [zaR (fun z=>by rw [z,hd] at e;cases e)];exact e⟩)
  ·exact .inr e
 have dd:d2≠d:=fun z=>by rw [z,e1] at e2;cases e2
 refine q d2 kvs2 _ (fun b v hb=>?_) (by rw [zaR dd] at n;exact n) (by rw [zai dd];exact e2) ?_
 ·by_cases z:b=d
  ·subst z
   rw [hd] at hb
   cases hb
   exact zab
  ·rw [zai z]
   exact s b v (by rw [zaR z];exact hb)
 ·exact Paired.mapP l2 fun _ _ ⟨a,l,b,c⟩=>⟨a,l,b,by rw [zai (fun z=>by rw [z,e1] at c;cases c)];exact c⟩
theorem zeG:zat ["works","left"] ["works"] (zak zcv):=⟨rfl,rfl,rfl,by decide+kernel,rfl,by decide+kernel,by decide+kernel⟩
theorem zhy (T:Txt K mg t):FnOk P w K mg base CX0 6 t.f_seen_of_all t.fd_seen_of_all ["works"] (sp_soa K t.c_WELL):=by
 refine T.d_seen_of_all.F.okB zeG (fun vs H Q E h=>?_) (fun cdv A outer s H vs Q E hr h=>?_)
 ·obtain ⟨x,w,rfl,_⟩:=h
  rfl
 obtain ⟨x,w,rfl,hx,wf,hw,q⟩:=h
 have hu64:=hr.units
 have hu1:=zgn hr
 refine ⟨_,(zae (zal (k:=1) zeG.nd rfl (Or.inl rfl) (zjl hu1 (zln (v:=.ref t.c_WELL) rfl T.g_WELL rfl) (zaj (zbB T) (hr.mono (by decide)) rfl T.d_outputs_seen.m T.d_outputs_seen.F.kp T.d_outputs_seen.b .nil zaC (zaa (bpv 0) (zaa zcn (zac))))))
  (zae (zba (zbW vQ ybd PySem.F.type_dict_update (znK hu1) (bpv 1) (zaa (zaj (zd7 T) (hr.mono (by decide)) rfl T.d_seen_of_each.m T.d_seen_of_each.F.kp T.d_seen_of_each.b .nil zaC (zaa (bpv 0) (zac))) (zac))))
  (zaf (zap (bpv 1))))),?_⟩
 intro p hp
 have k1:=zad hp (.dT [])
 refine ⟨_,rfl,fun p0 h0=>⟨x,p0,w,[],rfl,hx.mono (k1.trans (zad h0 _)),wf,zab,fun f hf=>(nomatch hf),.nil,qL _,fun r H2 s2 n2 e2=>?_⟩⟩
 have k2:=(zad h0 (.dT [])).trans s2
 have s02:=k1.trans k2
 have ep:=k2 _ _ (zab (H:=H) (a:=p) (o:=.dT []))
 have rp:r≠p:=fun z=>by rw [z,ep] at e2;cases e2
 refine ⟨ep,t.c_WELL,[Sum.inr ("well" :Str)],rfl,hw.same s02,?_⟩
 have s03:Same H (upd H2 p (.dT [([Sum.inr ("well" :Str)],.ref r)])):=s02.write hp _
 have ep3:(upd H2 p (.dT [([Sum.inr ("well" :Str)],.ref r)])) p=some (.dT [([Sum.inr ("well" :Str)],.ref r)]):=zab
 have er3:(upd H2 p (.dT [([Sum.inr ("well" :Str)],.ref r)])) r=some (.lst ((zav w []).map V.int)):=by rw [zai rp];exact e2
 generalize upd H2 p (.dT [([Sum.inr ("well" :Str)],.ref r)])=H3 at s03 ep3 er3
 refine ⟨_,rfl,.inr (.inr (.inl ⟨rfl,.inr ⟨_,ep3⟩⟩)),_,rfl,x,w,rfl,hx.mono s03,wf,fun d kvs H4 s4 n4 e4 sd=>?_⟩
 have pd:p≠d:=zam ep3 n4
 have lk:kvs.length=(allF w).length:=qI sd
 have la:=zdY wf
 have sl:yM=16777216:=by decide
 refine ⟨p,d,_,kvs,rfl,rfl,s4 _ _ ep3,e4,pd,(fun z=>nomatch z),by rw [lk];show 1+_≤_;omega,?_⟩
 have ld:zdp H4 w (([Sum.inr ("well" :Str)],V.ref r)::kvs) (allN w):=by
  refine .cons ⟨rfl,r,rfl,s4 _ _ er3⟩ ?_
  have:∀ {kvs:List (List Key×V)} {fs:List Flt},zfh H4 w kvs fs→zdp H4 w kvs (fs.map some):=by
   intro kvs fs h
   induction h with
   | nil=>exact .nil
   | cons a _ ih=>exact .cons a ih
  exact this sd
 have nd:((([Sum.inr ("well" :Str)],V.ref r)::kvs).map (·.1)).Nodup:=by
  rw [zdp.keys ld]
  exact znx (zmA w)
 rw [zg4 kvs [([Sum.inr ("well" :Str)],V.ref r)] nd]
 refine ⟨_,rfl,q p _ _ ((s03.trans s4).write hp _) hp zab ?_⟩
 exact Paired.mapP ld fun _ _ ⟨a,l,b,c⟩=>⟨a,l,b,by rw [zai (fun z=>by rw [z,s4 _ _ ep3] at c;cases c)];exact c⟩
theorem zaM:zat ["works","answers","left","row","outputs"] ["works","answers"] (zak zbK):=⟨rfl,rfl,rfl,by decide+kernel,rfl,by decide+kernel,by decide+kernel⟩
theorem zeX (T:Txt K mg t):FnOk P w K mg base CX0 7 t.f_seen_of_fitting t.fd_seen_of_fitting ["works","answers"] (sp_sof K t.c_WELL):=by
 refine T.d_seen_of_fitting.F.okB zaM (fun vs H Q E h=>?_) (fun cdv A outer s H vs Q E hr h=>?_)
 ·obtain ⟨x,y,w,asked,rfl,_⟩:=h
  rfl
 obtain ⟨x,y,w,asked,rfl,hx,wf,hy,ok,hw,q⟩:=h
 have hu64:=hr.units
 have i1:=wf.i1
 have i6:=wf.i6
 obtain ⟨a,ga,oa,gs,os,rfl,ha,hg,ho,rg,ro⟩:=zbr hx
 obtain ⟨A1,vs1,rfl,hA,rA⟩:∃ A1 vs1,y= .ref A1∧SqL K H A1 vs1∧Reps K H vs1 (asked.map askD):=by
  cases hy with
  | lst a r=>exact ⟨_,_,rfl,a,r⟩
 have lv:vs1.length=asked.length:=by rw [rA.length,yB]
 have get:∀ (i:Nat) (v:V),vs1[i]? =some v→∃ p,asked[i]? =some p∧Rep K H v (askD p):=fun i v hv=>by
  obtain ⟨d,hd,r⟩:=zll rA i v hv
  rw [yG] at hd
  cases hp:asked[i]? with
  | none=>rw [hp] at hd;cases hd
  | some p=>rw [hp] at hd;cases hd;exact ⟨p,rfl,r⟩
 refine ⟨_,(zae (zaE qA rfl (zaz (bpv 1)) (zcK rfl (zar (zah (k:=3) zaM.nd rfl (Or.inl rfl)) (zar (zah (k:=4) zaM.nd rfl (Or.inl rfl)) za1))) (zaf (zba (zaj (zje T) (hr.mono (by decide)) rfl T.d_check_row.m T.d_check_row.F.kp T.d_check_row.b .nil zaC (zaa (bpv 0) (zaa (bpv 3) (zac)))))))
  (zae (zal (k:=2) zaM.nd rfl (Or.inl rfl) (zaj (zhy T) (hr.mono (by decide)) rfl T.d_seen_of_all.m T.d_seen_of_all.F.kp T.d_seen_of_all.b .nil zaC (zaa (bpv 0) (zac))))
  (zae (zaE qA rfl (zaz (bpv 1)) (zcK rfl (zar (zah (k:=3) zaM.nd rfl (Or.inl rfl)) (zar (zah (k:=4) zaM.nd rfl (Or.inl rfl)) za1))) (zaf (zal (k:=2) zaM.nd rfl (Or.inl rfl) (zaj (zht T) (hr.mono (by decide)) rfl T.d_left_behind.m T.d_left_behind.F.kp T.d_left_behind.b .nil zaC (zaa (bpv 2) (zaa (zaj (ziq T) (hr.mono (by decide)) rfl T.d_row_number.m T.d_row_number.F.kp T.d_row_number.b .nil zaC (zaa (bpv 3) (zac))) (zaa (bpv 4) (zac))))))))
  (zaf (zap (bpv 2)))))),?_⟩
 refine ⟨_,rfl,A1,rfl,⟨_,hA⟩,zaV (K:=K) (a:=A1) (xs:=vs1) (fun i σ H4=>∃ o3 o4:Option V,σ = [some (.ref a),some (.ref A1),none,o3,o4]∧Same H H4) ⟨_,_,rfl,Same.refl _⟩ (fun i σ H4 _ z=>by obtain ⟨_,_,_,s4⟩:=z;exact s4.seq hA) ?_ ?_⟩
 ·rintro i v σ H4 hv ⟨o3,o4,rfl,s4⟩
  obtain ⟨p,hp,rp⟩:=get i v hv
  obtain ⟨T1,R,S,rfl,hT,hR,hS⟩:=zo5 rp
  obtain ⟨pl,pb⟩:=ok p (yH hp)
  refine ⟨T1,_,rfl,s4.seqT hT,rfl,_,_,rfl,_,_,rfl,rfl,?_⟩
  refine ⟨_,rfl,_,rfl,a,ga,oa,R,w.ins,p.1,rfl,s4.seqT ha,s4.seq hR,pl,pb,by omega,fun H5 s5=>?_⟩
  exact ⟨_,_,rfl,s4.trans s5⟩
 ·rintro σ H4 ⟨o3,o4,rfl,s4⟩
  refine ⟨_,rfl,.ref a,w,rfl,hx.mono s4,wf,hw.same s4,fun d kvs H5 s5 n5 e5 l5=>?_⟩
  have s45:=s4.trans s5
  refine ⟨_,rfl,A1,rfl,⟨_,s45.seq hA⟩,zaV (K:=K) (a:=A1) (xs:=vs1) (fun i σ H6=>∃ (d6:Addr) (kvs6:List (List Key×V)) (o3 o4:Option V),σ = [some (.ref a),some (.ref A1),some (.ref d6),o3,o4]∧Same H H6∧H d6=none∧H6 d6=some (.dT kvs6)∧zdp H6 w kvs6 (zgT w (asked.take i) (allN w)))
   ⟨d,kvs,_,_,rfl,s45,s4.free n5,e5,l5⟩ (fun i σ H6 _ z=>by obtain ⟨_,_,_,_,_,s6,_⟩:=z;exact s6.seq hA) ?_ ?_⟩
  ·rintro i v σ H6 hv ⟨d6,kvs6,o3,o4,rfl,s6,n6,e6,l6⟩
   obtain ⟨p,hp,rp⟩:=get i v hv
   obtain ⟨T1,R,S,rfl,hT,hR,hS⟩:=zo5 rp
   obtain ⟨pl,pb⟩:=ok p (yH hp)
   refine ⟨T1,_,rfl,s6.seqT hT,rfl,_,_,rfl,_,_,rfl,rfl,?_⟩
   have sub:=zkX w (asked.take i) (allN w)
   refine ⟨_,rfl,_,rfl,R,p.1,rfl,s6.seq hR,pb,by omega,_,rfl,d6,S,w,numR p.1,p.2,kvs6,zgT w (asked.take i) (allN w),rfl,e6,l6,(zmA w).sublist sub,jB sub.length_le (jB (zoY wf) (by decide)),wf,fun nm hn=>zfA nm (sub.mem hn),s6.seq hS,fun d7 kvs7 H7 s7 n7 e7 l7=>?_⟩
   refine ⟨d7,kvs7,_,_,rfl,s6.trans s7,s6.free n7,e7,?_⟩
   have e:zgT w (asked.take (i+1)) (allN w)=fitV w (numR p.1) p.2 (zgT w (asked.take i) (allN w)):=by
    unfold zgT
    rw [yO,hp,xU]
    rfl
   rw [e]
   exact l7
  ·rintro σ H6 ⟨d6,kvs6,o3,o4,rfl,s6,n6,e6,l6⟩
   rw [lv,yQ] at l6
   exact ⟨_,rfl,q d6 kvs6 H6 s6 n6 e6 l6⟩
theorem zjz:zat ["works","answers"] ["works","answers"] (zak zdI):=⟨rfl,rfl,rfl,by decide+kernel,rfl,by decide+kernel,by decide+kernel⟩
theorem zjq (T:Txt K mg t):FnOk P w K mg base CX0 8 t.f_what_fits t.fd_what_fits ["works","answers"] (sp_wf K t.c_WELL):=by
 refine T.d_what_fits.F.okB zjz (fun vs H Q E h=>?_) (fun cdv A outer s H vs Q E hr h=>?_)
 ·obtain ⟨x,y,w,asked,rfl,_⟩:=h
  rfl
 obtain ⟨x,y,w,asked,rfl,hx,wf,hy,ok,hw,q⟩:=h
 have hu64:=hr.units
 refine ⟨_,(zaf (zap (zbw (zmc rfl) rfl T.z_list yay (zaa (zaj (zeX T) (hr.mono (by decide)) rfl T.d_seen_of_fitting.m T.d_seen_of_fitting.F.kp T.d_seen_of_fitting.b .nil zaC (zaa (bpv 0) (zaa (bpv 1) (zac)))) (zac))))),?_⟩
 refine ⟨_,rfl,_,rfl,x,y,w,asked,rfl,hx,wf,hy,ok,hw,fun d kvs H1 s1 n1 e1 l1=>?_⟩
 refine ⟨d,kvs,rfl,e1,fun L bs hL pb=>?_⟩
 have kL:=zad hL (.lst (bs.map V.ref))
 exact q L _ _ (s1.trans kL) (s1.free hL) zab ((zjj pb l1).mono kL)
theorem zhb:zat ["cell","k","number"] ["cell","k"] (zak zeo):=⟨rfl,rfl,rfl,by decide+kernel,rfl,by decide+kernel,by decide+kernel⟩
theorem zkI (T:Txt K mg t):FnOk P w K mg base CX0 1 t.f_law_stir t.fd_law_stir ["cell","k"] sp_st5:=by
 refine T.d_law_stir.F.okB zhb (fun vs H Q E h=>?_) (fun cdv A outer s H vs Q E hr h=>?_)
 ·obtain ⟨c,k,rfl,_⟩:=h
  rfl
 obtain ⟨c,k,rfl,k0,k1,q⟩:=h
 refine ⟨_,(zae (zal (k:=2) zhb.nd rfl (Or.inl rfl) (zao zbE (zao zbE (zao zd8 (bpv 0) (zao znJ zag zag)) (zao zd6 zag (bpv 1))) zag))
  (zaf (zap (zao zd8 (zao zoh (zao zd6 (zao zd6 (bpv 2) (zao zbE (bpv 2) (zao zd6 zag (bpv 1)))) (zao zbE (bpv 2) zag)) zag) (zao znJ zag zag))))),?_⟩
 have pw:∀ i j:Int,i.natAbs < 2 ^ 64→0≤j→j≤1000000→CPow i j:=fun i j a b c=>⟨b,c,a⟩
 refine ⟨_,rfl,_,_,rfl,rfl,pw _ _ (by decide) (by decide) (by decide),_,_,rfl,rfl,(by show (0:Int) < 10 ^ (60:Int).toNat;decide),_,rfl,_,_,rfl,rfl,⟨by decide,zfR (by omega)⟩,_,_,rfl,rfl,_,_,rfl,rfl,?_⟩
 have b0: 0≤c % 10 ^ (60:Int).toNat∧c % 10 ^ (60:Int).toNat < 10 ^ (60:Int).toNat:=⟨kX _ (by decide),kJ _ (by decide)⟩
 have e60:(10:Int) ^ (60:Int).toNat < 2 ^ 200:=by decide
 obtain ⟨n,en⟩:∃ n:Int,c % 10 ^ (60:Int).toNat+3 * k+1=n:=⟨_,rfl⟩
 have n0: 0≤n∧n < 2 ^ 201:=by omega
 dsimp only
 rw [en]
 have p0: 0≤n * (n+2 * k):=Int.mul_nonneg (by omega) (by omega)
 have p1:n * (n+2 * k)≤2 ^ 201 * 2 ^ 202:=Int.mul_le_mul (by omega) (by omega) (by omega) (by decide)
 refine ⟨_,rfl,_,rfl,_,rfl,_,_,rfl,rfl,⟨by decide,zfR (by omega)⟩,_,_,rfl,rfl,_,_,rfl,rfl,⟨zfR (by omega),zfR (by omega)⟩,_,rfl,_,_,rfl,rfl,_,_,rfl,rfl,⟨zfR (by omega),zfR (by omega)⟩,_,_,rfl,rfl,⟨by decide,by decide⟩,_,_,rfl,rfl,pw _ _ (by decide) (by decide) (by decide),_,_,rfl,rfl,(by show (0:Int) < 10 ^ (40:Int).toNat;decide),?_⟩
 exact q _ (kX _ (by decide))
theorem zjp:zat ["cell","k","many"] ["cell","k","many"] (zak zdJ):=⟨rfl,rfl,rfl,by decide+kernel,rfl,by decide+kernel,by decide+kernel⟩
theorem zel (T:Txt K mg t):FnOk P w K mg base CX0 2 t.f_law_digit t.fd_law_digit ["cell","k","many"] sp_di5:=by
 refine T.d_law_digit.F.okB zjp (fun vs H Q E h=>?_) (fun cdv A outer s H vs Q E hr h=>?_)
 ·obtain ⟨c,k,m,rfl,_⟩:=h
  rfl
 obtain ⟨c,k,m,rfl,k0,k1,m0,q⟩:=h
 refine ⟨_,(zae (zaP (zax op_ge (bpv 0) (zao znJ zag zag) (zaO _)) (zaf (zap (zao zd8 (zao znU (bpv 0) (zao zmT zag (bpv 1))) (bpv 2)))) zaA)
  (zaf (zap (zao zd8 (zaj (zkI T) (hr.mono (by decide)) rfl T.d_law_stir.m T.d_law_stir.F.kp T.d_law_stir.b .nil zaC (zaa (bpv 0) (zaa (bpv 1) (zac)))) (bpv 2))))),?_⟩
 have pw:∀ i j:Int,i.natAbs < 2 ^ 64→0≤j→j≤1000000→CPow i j:=fun i j a b c=>⟨b,c,a⟩
 have md:∀ z:Int,0≤z % m∧z % m < m:=fun z=>⟨kX _ (by omega),kJ _ m0⟩
 refine ⟨_,rfl,_,_,rfl,rfl,pw _ _ (by decide) (by decide) (by decide),_,_,rfl,rfl,_,rfl,ite2 (fun _=>?_) (fun _=>?_)⟩
 ·refine ⟨_,rfl,_,rfl,_,_,rfl,rfl,.inl ⟨by decide,by decide⟩,_,_,rfl,rfl,(by show (0:Int)≤4 * k;omega),_,rfl,_,_,rfl,rfl,m0,?_⟩
  exact q _ (md _).1 (md _).2
 ·refine ⟨_,rfl,_,rfl,c,k,rfl,k0,k1,fun r hr0=>?_⟩
  exact ⟨_,rfl,_,_,rfl,rfl,m0,q _ (md _).1 (md _).2⟩
theorem zeO:zat ["cell","wires","kind","many"] ["cell","wires"] (zak zer):=⟨rfl,rfl,rfl,by decide+kernel,rfl,by decide+kernel,by decide+kernel⟩
theorem zkj (T:Txt K mg t):FnOk P w K mg base CX0 3 t.f_law_gate t.fd_law_gate ["cell","wires"] sp_gt5:=by
 refine T.d_law_gate.F.okB zeO (fun vs H Q E h=>?_) (fun cdv A outer s H vs Q E hr h=>?_)
 ·obtain ⟨c,wires,rfl,_⟩:=h
  rfl
 obtain ⟨c,wires,rfl,w1,w2,q⟩:=h
 have hu1:=zgn hr
 refine ⟨_,(zae (zal (k:=2) zeO.nd rfl (Or.inl rfl) (zas za0 (zau (zaa zay (zaa zay (zaa zay (zaa zay (zaa zay (zaa zay (zaa zay (zaa zay (zaa zay (zaa zay (zac)))))))))))) (zaj (zel T) (hr.mono (by decide)) rfl T.d_law_digit.m T.d_law_digit.F.kp T.d_law_digit.b .nil zaC (zaa (bpv 0) (zaa zag (zaa zag (zac))))) (fun _ _=>rfl)))
  (zae (zal (k:=3) zeO.nd rfl (Or.inl rfl) (ze5 hu1 (zoK (ze8 zay zag (ze8 zay zag (ze8 zay zag (ze8 zay zag zon)))) rfl rfl (by simp) (by decide)) (bpv 2) (zao zbE zag (zaj (zel T) (hr.mono (by decide)) rfl T.d_law_digit.m T.d_law_digit.F.kp T.d_law_digit.b .nil zaC (zaa (bpv 0) (zaa zag (zaa zag (zac)))))) ⟨rfl,rfl,rfl,rfl⟩))
  (zaf (zap (zaG (zaa (bpv 2) (zaa (zbw zfn rfl T.z_tuple ybq (zaa (zaJ rfl (N:=["k","wires","cell"]) (n:=1) (cap:=[1,0]) (zbc rfl rfl) (zaW rfl T.z_range (zaa (bpv 3) (zac))) (zaF (by decide)) (fun _ _ _ _=>(zah (k:=0) (show (["k","wires","cell"]:List Str).Nodup by decide+kernel) rfl (Or.inl rfl))) (fun _ _ _ _=>zaI) (fun _ _ _ _=>(zao zg6 (zao zg6 (bpv 1) zag) (zaj (zel T) (hr.mono (by decide)) rfl T.d_law_digit.m T.d_law_digit.F.kp T.d_law_digit.b .nil zaC (zaa (bpv 2) (zaa (zao zbE zag (bpv 0)) (zaa (zaK (znP rfl) rfl T.z_min PyProof.Rows.boot_min (zaa (bpv 1) (zaa zag (zac)))) (zac)))))))) (zac))) (zac)))))))),?_⟩
 refine ⟨(by show 10≤yM;decide),fun Kd hK=>?_⟩
 have k2:=zad hK (.lst [.str "and",.str "or",.str "odd",.str "not",.str "choose",.str "and",.str "or",.str "zero",.str "one",.str "odd"])
 refine ⟨_,rfl,c,0,10,rfl,by decide,by decide,by decide,fun d0 d00 d01=>?_⟩
 obtain ⟨x,hx,kx⟩:=kinds5 d00 d01
 refine ⟨Kd,_,_,_,rfl,rfl,.of zab,hx,?_⟩
 generalize upd H Kd (.lst [.str "and",.str "or",.str "odd",.str "not",.str "choose",.str "and",.str "or",.str "zero",.str "one",.str "odd"])=H2 at k2
 refine fun p hp=>?_
 have k3:=zad hp (.dK [])
 refine ⟨zab,[(Sum.inr "not",.int 1),(Sum.inr "choose",.int 3),(Sum.inr "zero",.int 0),(Sum.inr "one",.int 0)],rfl,(by decide),p,rfl,.inl ⟨_,.inl zab⟩,_,rfl,?_⟩
 have ed4:=zab (H:=upd H2 p (.dK [])) (a:=p) (o:=.dK (zfi [] [(Sum.inr "not",.int 1),(Sum.inr "choose",.int 3),(Sum.inr "zero",.int 0),(Sum.inr "one",.int 0)]))
 have s4:=(k2.trans k3).write (k2.free hp) (.dK (zfi [] [(Sum.inr "not",.int 1),(Sum.inr "choose",.int 3),(Sum.inr "zero",.int 0),(Sum.inr "one",.int 0)]))
 generalize upd (upd H2 p (.dK [])) p (.dK (zfi [] [(Sum.inr "not",.int 1),(Sum.inr "choose",.int 3),(Sum.inr "zero",.int 0),(Sum.inr "one",.int 0)]))=H4 at ed4 s4
 refine ⟨_,rfl,c,1,3,rfl,by decide,by decide,by decide,fun d1 d10 d11=>?_⟩
 obtain ⟨n,en,lk⟩:=manyD kx (m:=2+d1) ⟨by omega,by omega⟩
 refine ⟨_,_,rfl,rfl,_,DGet.k (k:=Sum.inr x) ed4,?_⟩
 dsimp only
 rw [en]
 have n4:=lk.le
 obtain ⟨sp,esp⟩:∃ sp:Int,(if (6:Int) < wires then 6 else wires)=sp:=⟨_,rfl⟩
 have sp1: 1≤sp∧sp≤wires:=by rw [← esp];split <;> omega
 refine ⟨_,rfl,_,rfl,_,rfl,by omega,by omega,fun D hD=>?_⟩
 refine zkC (fun j H8=>∃ ls:List Int,Same H4 H8∧H8 D=some (.lst (ls.map V.int))∧ls.length=j∧∀ l∈ls,0≤l∧l < wires) ⟨[],zad hD _,zab,rfl,fun _ z=>nomatch z⟩ ?_ ?_
 ·rintro j H8 hj ⟨ls,s8,eD,ll,bl⟩
  have hj2:j < n:=by omega
  refine ⟨_,rfl,_,_,rfl,rfl,_,rfl,_,rfl,_,_,rfl,rfl,_,rfl,_,_,rfl,c,2+(j:Int),sp,by rw [← esp];rfl,by omega,by omega,by omega,fun r r0 r1=>?_⟩
  refine ⟨_,_,rfl,rfl,_,eD,big (by rw [yB];omega),ls++ [wires - 1 - r],s8.write hD _,by rw [zab,yK];rfl,by simp [ll],fun l hl=>?_⟩
  rcases yU.mp hl with hl | hl
  ·exact bl l hl
  ·rw [yE.mp hl];omega
 ·rintro H8 ⟨ls,s8,eD,ll,bl⟩
  have ln:ls.length=n:=by omega
  refine ⟨D,_,rfl,.inl ⟨.of eD,fun T1 h1=>⟨(by show 2≤yM;decide),fun T2 h2=>?_⟩⟩⟩
  have j1:=zad h1 (.tup (ls.map V.int))
  have j2:=zad h2 (.tup [.str x,.ref T1])
  have s9:=s4.trans s8
  exact q T2 T1 x ls _ ((s9.trans j1).trans j2) ((s9.trans j1).free h2) (s9.free h1) zab (j2 _ _ zab) (by rw [ln];exact lk) bl
theorem zbm:zat ["script","most_inputs","most_gates","head","inputs","gates","k","wires","outputs"] ["script","most_inputs","most_gates"] (zak zdM):=⟨rfl,rfl,rfl,by decide+kernel,rfl,by decide+kernel,by decide+kernel⟩
theorem zjC (T:Txt K mg t):FnOk P w K mg base CX0 4 t.f_law_works t.fd_law_works ["script","most_inputs","most_gates"] (sp_wk5 K):=by
 refine T.d_law_works.F.okB zbm (fun vs H Q E h=>?_) (fun cdv A outer s H vs Q E hr h=>?_)
 ·obtain ⟨a,ns,mi,mg,rfl,_⟩:=h
  rfl
 obtain ⟨a,ns,mi,mg',rfl,hS,m1,m6,m20,q⟩:=h
 refine ⟨_,(zae (zal (k:=3) zbm.nd rfl (Or.inl rfl) (zaj (zdc T) (hr.mono (by decide)) rfl T.d_law_cell_at.m T.d_law_cell_at.F.kp T.d_law_cell_at.b .nil zaC (zaa (bpv 0) (zaa zag (zac)))))
  (zae (zal (k:=4) zbm.nd rfl (Or.inl rfl) (zao zbE zag (zao zd8 (bpv 3) (bpv 1))))
  (zae (zal (k:=5) zbm.nd rfl (Or.inl rfl) (zau zac))
  (zae (zaE qA rfl (zaW rfl T.z_range (zaa (zao zd8 (zao ziC (bpv 3) zag) (zao zbE (bpv 2) zag)) (zac))) (zah (k:=6) zbm.nd rfl (Or.inl rfl)) (zaf (zba (zbW qJ qO qP zaY (bpv 5) (zaa (zaj (zkj T) (hr.mono (by decide)) rfl T.d_law_gate.m T.d_law_gate.F.kp T.d_law_gate.b .nil zaC (zaa (zaj (zdc T) (hr.mono (by decide)) rfl T.d_law_cell_at.m T.d_law_cell_at.F.kp T.d_law_cell_at.b .nil zaC (zaa (bpv 0) (zaa (zao zbE zag (bpv 6)) (zac)))) (zaa (zao zbE (bpv 4) (zaK zaD rfl T.z_len xA (zaa (bpv 5) (zac)))) (zac)))) (zac))))))
  (zae (zal (k:=7) zbm.nd rfl (Or.inl rfl) (zao zbE (bpv 4) (zaK zaD rfl T.z_len xA (zaa (bpv 5) (zac)))))
  (zae (zal (k:=8) zbm.nd rfl (Or.inl rfl) (zau (zaa (zao zg6 (bpv 7) zag) (zac))))
  (zae (zaE qA rfl (zaW rfl T.z_range (zaa (zao zd8 (zao ziC (bpv 3) zag) zag) (zac))) (zah (k:=6) zbm.nd rfl (Or.inl rfl)) (zaf (zba (zbW qJ qO qP zaY (bpv 8) (zaa (zao zd8 (zao ziC (bpv 3) (zao zbE zag (zao zmT zag (bpv 6)))) (bpv 7)) (zac))))))
  (zaf (zap (zaG (zaa (bpv 4) (zaa (bpv 5) (zaa (bpv 8) (zac)))))))))))))),?_⟩
 refine ⟨_,rfl,a,ns,0,rfl,hS,fun head=>?_⟩
 obtain ⟨inp,einp,i1,i2⟩:∃ inp:Int,1+head % (mi:Int)=inp∧1≤inp∧inp≤mi:=by
  have e1:=kX head (show (mi:Int)≠0 by omega)
  have e2:=kJ head (show 0 < (mi:Int) by omega)
  exact ⟨_,rfl,by omega,by omega⟩
 refine ⟨_,rfl,_,rfl,_,_,rfl,rfl,(by show 0 < (mi:Int);omega),_,_,rfl,rfl,?_⟩
 dsimp only
 rw [einp]
 refine ⟨(by show 0≤yM;decide),fun g hg=>?_⟩
 have kg:=zad hg (.lst [])
 obtain ⟨many,emany,hmany⟩:∃ many:Nat,head / 8 % ((mg':Int)+1)=(many:Int)∧many≤mg':=by
  have e1:=kX (head / 8) (show (mg':Int)+1≠0 by omega)
  have e2:=kJ (head / 8) (show 0 < (mg':Int)+1 by omega)
  exact ⟨(head / 8 % ((mg':Int)+1)).toNat,by omega,by omega⟩
 refine ⟨_,rfl,_,_,rfl,rfl,⟨by decide,by decide⟩,_,rfl,_,_,rfl,rfl,_,_,rfl,rfl,(by show 0 < (mg':Int)+1;omega),many,by rw [← emany],by omega,by omega,zca
  (fun i σ H6=>∃ (G:Hp) (gs:List (Str×List Int)) (vs:List V) (o6:Option V),σ = [some (.ref a),some (.int mi),some (.int mg'),some (.int head),some (.int inp),some (.ref g),o6,none,none]∧
   Off [g] G H6∧Same H G∧H6 g=some (.lst vs)∧Reps K G vs (gs.map zkx)∧gs.length=i∧∀ (k:Nat) gt,gs[k]? =some gt→zbn gt.1 gt.2.length∧∀ l∈gt.2,0≤l∧l < inp+k)
  ⟨H,[],[],_,rfl,Off.start hg _,Same.refl _,zab,.nil,rfl,(fun k gt e=>by simp at e)⟩ ?_ ?_⟩
 ·rintro i σ H6 E1 hi hE ⟨G,gs,vs,o6,rfl,off,sG,eg,rgs,lgs,gd⟩
  have iz:i < many:=by omega
  have lv:vs.length=i:=by rw [rgs.length,yB,lgs]
  refine ⟨_,rfl,.inl ⟨rfl,_,.of eg⟩,_,rfl,_,rfl,_,_,rfl,rfl,a,ns,1+i,rfl,(sG.trans off.same).seq hS,fun cell=>?_⟩
  refine ⟨_,rfl,_,rfl,g,_,rfl,.inl (.of eg),_,_,rfl,rfl,cell,_,rfl,by omega,by omega,fun r la x ls H8 s8 nr nla er ela lk bl=>?_⟩
  have of8:=off.grow s8
  obtain ⟨of9,k9⟩:=of8.take ela (off.ne nla)
  obtain ⟨ofa,ka⟩:=of9.take er (off.ne nr)
  refine ⟨g,vs,_,rfl,rfl,s8 _ _ eg,big (by omega),hE _ _ ⟨_,gs++ [(x,ls)],vs++ [.ref r],_,rfl,ofa.write (.head _) _,sG.trans (k9.trans ka),zab,?_,by simp [lgs],fun k gt e=>?_⟩⟩
  ·rw [yK]
   exact (rgs.mono (k9.trans ka)).snoc (.tup (.of zab) (.cons (.str x) (.cons (Rep.tup (.of (ka _ _ zab)) (Reps.ints ls)) .nil)))
  ·by_cases hk:k < gs.length
   ·rw [qU hk] at e
    exact gd k gt e
   ·have hk2:k=gs.length:=by
     have:=(yF.mp e).1
     simp at this
     omega
    subst hk2
    rw [qV (yN _),ya4] at e
    cases e
    refine ⟨lk,fun l hl=>?_⟩
    have:=bl l hl
    rw [lv] at this
    show 0≤l∧l < inp+((gs.length:Nat):Int)
    omega
 rintro σ H6 ⟨G,gs,vs,o6,rfl,off,sG,eg,rgs,lgs,gd⟩
 have e1:((many:Nat):Int).toNat=many:=by omega
 have lv:vs.length=gs.length:=by rw [rgs.length,yB]
 have lg:gs.length≤20:=by omega
 have of7:=off.close eg (fun z=>nomatch z)
 have kG:=off.cadd (.lst vs)
 have gg:(upd G g (.lst vs)) g=some (.lst vs):=zab
 have sG7:=sG.trans kG
 have rgs7:=rgs.mono kG
 generalize upd G g (.lst vs)=G7 at of7 kG gg sG7 rgs7
 have s6:=of7.same
 obtain ⟨wires,ew⟩:∃ wires:Int,inp+(vs.length:Int)=wires:=⟨_,rfl⟩
 refine ⟨_,rfl,_,rfl,g,_,rfl,.inl (.of eg),_,_,rfl,rfl,?_⟩
 dsimp only
 rw [ew]
 have w1: 1≤wires:=by omega
 refine ⟨_,rfl,_,_,rfl,rfl,(by show 1≤yM;decide),fun O hO=>?_⟩
 obtain ⟨m2,em2,hm2⟩:∃ m2:Nat,head / 128 % 3=(m2:Int)∧m2≤2:=⟨(head / 128 % 3).toNat,by omega,by omega⟩
 refine ⟨_,rfl,_,_,rfl,rfl,⟨by decide,by decide⟩,_,_,rfl,rfl,(by show (0:Int) < 3;decide),m2,by rw [← em2],by omega,by omega,zca
  (fun i σ H8=>∃ (os:List Int) (o8:Option V),σ = [some (.ref a),some (.int mi),some (.int mg'),some (.int head),some (.int inp),some (.ref g),o8,some (.int wires),some (.ref O)]∧Same H6 H8∧H8 O=some (.lst (os.map V.int))∧os.length=1+i∧∀ o∈os,0≤o∧o < wires)
  ⟨[wires - 1],_,rfl,zad hO _,zab,rfl,fun o ho=>by rw [yE.mp ho];omega⟩ ?_ ?_⟩
 ·rintro i σ H8 E1 hi hE ⟨os,o8,rfl,s8,eO,lo,bo⟩
  have md:∀ z:Int,0≤z % wires∧z % wires < wires:=fun z=>⟨kX _ (by omega),kJ _ (by omega)⟩
  refine ⟨_,rfl,.inl ⟨rfl,_,.of eO⟩,_,rfl,_,rfl,_,_,rfl,rfl,.inl ⟨by decide,by decide⟩,_,_,rfl,rfl,_,_,rfl,rfl,⟨by show (0:Int) < 400+1000 * (i:Int);omega,by show (400+1000 * (i:Int)) < _;omega⟩,_,rfl,_,_,rfl,rfl,(by show 0 < wires;omega),?_⟩
  refine ⟨O,_,_,rfl,rfl,eO,big (by rw [yB];omega),hE _ _ ⟨os++ [head / (400+1000 * (i:Int)) % wires],_,rfl,s8.write hO _,by rw [zab,yK];rfl,by rw [yJ,yX];omega,fun o ho=>?_⟩⟩
  rcases yU.mp ho with z | z
  ·exact bo o z
  ·rw [yE.mp z];exact md _
 ·rintro σ H8 ⟨os,o8,rfl,s8,eO,lo,bo⟩
  refine ⟨_,rfl,_,rfl,_,rfl,(by show 3≤yM;decide),fun T1 hT=>?_⟩
  have kT:=zad hT (.tup [.int inp,.ref g,.ref O])
  have s78:=s6.trans s8
  refine q T1 ⟨inp,gs,os⟩ _ (sG7.trans (s78.trans kT)) (.tup (.of zab) (.cons (.int _) (.cons (.lst (.of ((s78.trans kT) _ _ gg)) (rgs7.mono (s78.trans kT))) (.cons (.lst (.of (kT _ _ eO)) (Reps.ints _)) .nil)))) ⟨i1,by show inp≤6;omega,lg,gd,by show 1≤os.length;omega,by show os.length≤20+20;omega,fun o ho=>?_⟩ i2
  have:=bo o ho
  show 0≤o∧o < inp+((gs.length:Nat):Int)
  omega
theorem zcC:zat ["rows","found","row"] ["rows"] (zak zc5):=⟨rfl,rfl,rfl,by decide+kernel,rfl,by decide+kernel,by decide+kernel⟩
theorem zix (T:Txt K mg t):FnOk P w K mg base CX0 1 t.f_law_longer t.fd_law_longer ["rows"] sp_lg5:=by
 refine T.d_law_longer.F.okB zcC (fun vs H Q E h=>?_) (fun cdv A outer s H vs Q E hr h=>?_)
 ·obtain ⟨R,qs,rs,rfl,_⟩:=h
  rfl
 obtain ⟨R,qs,rs,rfl,eR,at3,few,ten,q⟩:=h
 have lq:=at3.len
 refine ⟨_,(zae (zal (k:=1) zcC.nd rfl (Or.inl rfl) (zau zac))
  (zae (zaE qA rfl (zaz (bpv 0)) (zah (k:=2) zcC.nd rfl (Or.inl rfl)) (zaf (zal (k:=1) zcC.nd rfl (Or.inl rfl) (zao zbS (bpv 1) (zau (zaa (zao zbS (bpv 2) (zau (zaa zag (zac)))) (zaa (zao zbS (bpv 2) (zau (zaa zag (zac)))) (zac))))))))
  (zaf (zap (bpv 1))))),?_⟩
 refine ⟨(by show 0≤yM;decide),fun L hL=>?_⟩
 have kL:=zad hL (.lst [])
 refine ⟨_,rfl,R,rfl,⟨_,.of (kL _ _ eR)⟩,zaV (K:=K) (a:=R) (xs:=qs.map V.ref) (fun j σ H4=>∃ (M:Addr) (ps:List Addr) (o2:Option V),σ = [some (.ref R),some (.ref M),o2]∧Same H H4∧H4 M=some (.lst (ps.map V.ref))∧At H4 ps ((rs.take j).flatMap (fun r=>[r++ [0],r++ [1]])))
  ⟨L,[],_,rfl,kL,zab,.nil⟩ (fun j σ H4 _ ⟨_,_,_,_,s4,_⟩=>.of (s4 _ _ eR)) ?_ ?_⟩
 ·rintro j y σ H4 hy ⟨M,ps,o2,rfl,s4,eM,at4⟩
  rw [yG] at hy
  cases hz:qs[j]? with
  | none=>rw [hz] at hy;cases hy
  | some qa=>
   rw [hz] at hy
   cases hy
   obtain ⟨row,hrow,hqa⟩:=at3.get hz
   have lr:=ten row (yH hrow)
   have lp:=at4.len
   rw [zlb,yP] at lp
   have lj:j < qs.length:=(yF.mp hz).1
   have et:rs.take (j+1)=rs.take j++ [row]:=by rw [yO,hrow];rfl
   have q4:=s4 _ _ hqa
   refine ⟨_,rfl,_,rfl,(by show 1≤yM;decide),fun a1 h1=>?_⟩
   have j1:=zad h1 (.lst [.int 0])
   refine ⟨qa,a1,_,_,rfl,rfl,j1 _ _ q4,zab,bigE (by rw [yB,yX];omega),fun b1 h2=>?_⟩
   have j2:=zad h2 (.lst (row.map V.int++ [.int 0]))
   refine ⟨_,rfl,(by show 1≤yM;decide),fun a2 h3=>?_⟩
   have j3:=zad h3 (.lst [.int 1])
   refine ⟨qa,a2,_,_,rfl,rfl,((j1.trans j2).trans j3) _ _ q4,zab,bigE (by rw [yB,yX];omega),fun b2 h4=>?_⟩
   have j4:=zad h4 (.lst (row.map V.int++ [.int 1]))
   refine ⟨(by show 2≤yM;decide),fun l5 h5=>?_⟩
   have j5:=zad h5 (.lst [.ref b1,.ref b2])
   have jj:=(((j1.trans j2).trans j3).trans j4).trans j5
   refine ⟨M,l5,_,_,rfl,rfl,jj _ _ eM,zab,bigE (by rw [yB];show ps.length+2≤100000;omega),fun R2 h6=>?_⟩
   have j6:=zad h6 (.lst (ps.map V.ref++ [.ref b1,.ref b2]))
   refine ⟨R2,ps++ [b1,b2],_,rfl,(s4.trans jj).trans j6,by rw [zab,yK];rfl,?_⟩
   rw [et,vX]
   refine (at4.mono (jj.trans j6)).append ?_
   have eb1:=((((j3.trans j4).trans j5).trans j6) _ _ (zab (a:=b1) (o:=.lst (row.map V.int++ [.int 0]))))
   have eb2:=((j5.trans j6) _ _ (zab (a:=b2) (o:=.lst (row.map V.int++ [.int 1]))))
   refine .cons ?_ (.cons ?_ .nil)
   ·rw [yK];exact eb1
   ·rw [yK];exact eb2
 ·rintro σ H4 ⟨M,ps,o2,rfl,s4,eM,at4⟩
  rw [yB,lq,yQ] at at4
  exact ⟨_,rfl,q M ps H4 s4 eM at4⟩
theorem zd1:zat ["inputs","found","k"] ["inputs"] (zak zet):=⟨rfl,rfl,rfl,by decide+kernel,rfl,by decide+kernel,by decide+kernel⟩
theorem zkF (T:Txt K mg t):FnOk P w K mg base CX0 2 t.f_law_rows t.fd_law_rows ["inputs"] sp_lr:=by
 refine T.d_law_rows.F.okB zd1 (fun vs H Q E h=>?_) (fun cdv A outer s H vs Q E hr h=>?_)
 ·obtain ⟨n,rfl,_⟩:=h
  rfl
 obtain ⟨n,rfl,i0,i6,q⟩:=h
 refine ⟨_,(zae (zal (k:=1) zd1.nd rfl (Or.inl rfl) (zau (zaa (zau zac) (zac))))
  (zae (zaE qA rfl (zaW rfl T.z_range (zaa (bpv 0) (zac))) (zah (k:=2) zd1.nd rfl (Or.inl rfl)) (zaf (zal (k:=1) zd1.nd rfl (Or.inl rfl) (zaj (zix T) (hr.mono (by decide)) rfl T.d_law_longer.m T.d_law_longer.F.kp T.d_law_longer.b .nil zaC (zaa (bpv 1) (zac))))))
  (zaf (zap (bpv 1))))),?_⟩
 refine ⟨(by show 0≤yM;decide),fun e0 he0=>⟨(by show 1≤yM;decide),fun R0 hR0=>?_⟩⟩
 have k0:=zad he0 (.lst [])
 have k1:=zad hR0 (.lst [.ref e0])
 refine ⟨_,rfl,_,rfl,by omega,by omega,zca (fun j σ H3=>∃ (R:Addr) (qs:List Addr) (o2:Option V),σ = [some (.int n),some (.ref R),o2]∧Same H H3∧H3 R=some (.lst (qs.map V.ref))∧At H3 qs (zaQ j))
  ⟨R0,[e0],_,rfl,k0.trans k1,zab,.cons (k1 _ _ zab) .nil⟩ ?_ ?_⟩
 ·rintro i σ H3 E1 hi hE ⟨R,qs,o2,rfl,s3,eR,at3⟩
  refine ⟨_,rfl,R,qs,zaQ i,rfl,eR,at3,zlh (by omega),fun r hr=>by have:=(zb4 i r hr).1;omega,fun R' ps H4 s4 eR' at4=>hE _ _ ⟨R',ps,_,rfl,s3.trans s4,eR',by rw [zg9];exact at4⟩⟩
 ·rintro σ H3 ⟨R,qs,o2,rfl,s3,eR,at3⟩
  exact ⟨_,rfl,q R qs H3 s3 eR at3⟩
theorem zj9:zat ["kind","legs"] ["kind","legs"] (zak zdR):=⟨rfl,rfl,rfl,by decide+kernel,rfl,by decide+kernel,by decide+kernel⟩
theorem zj0 (T:Txt K mg t):FnOk P w K mg base CX0 1 t.f_law_worth t.fd_law_worth ["kind","legs"] (sp_gw2 K):=by
 refine T.d_law_worth.F.okB zj9 (fun vs H Q E h=>?_) (fun cdv A outer s H vs Q E hr h=>?_)
 ·obtain ⟨x,p,ns,rfl,_⟩:=h
  rfl
 obtain ⟨x,p,ns,rfl,hS,b,lk,q⟩:=h
 refine ⟨_,(zae (zaP (zax zdS (bpv 0) zay (zaO _)) (zaf (zap (zbw zhn rfl T.z_int yaH (zaa (zes zjN zag (bpv 1) rfl) (zac))))) zaA)
  (zae (zaP (zax zdS (bpv 0) zay (zaO _)) (zaf (zap (zbw zhn rfl T.z_int yaH (zaa (zes zeY zag (bpv 1) rfl) (zac))))) zaA)
  (zae (zaP (zax zdS (bpv 0) zay (zaO _)) (zaf (zap (zao zd8 (zaK (znE rfl) rfl T.z_sum PyProof.Rows.boot_sum (zaa (bpv 1) (zac))) zag))) zaA)
  (zae (zaP (zax zdS (bpv 0) zay (zaO _)) (zaf (zap (zao zg6 zag (zas za0 (bpv 1) zag (fun _ _=>rfl))))) zaA)
  (zae (zaP (zax zdS (bpv 0) zay (zaO _)) (zaf (zap (zgF (zax zdS (zas za0 (bpv 1) zag (fun _ _=>rfl)) zag (zaO _)) (zas za0 (bpv 1) zag (fun _ _=>rfl)) (zas za0 (bpv 1) zag (fun _ _=>rfl))))) zaA)
  (zaf (zap (zbw zhn rfl T.z_int yaH (zaa (zes zdS (bpv 0) zay (zaO _)) (zac)))))))))),?_⟩
 rcases lk with ⟨h | h | h,l1,l2⟩ | ⟨h,l1⟩ | ⟨h,l1⟩ | ⟨h | h,l1⟩
 ·subst h
  refine ⟨_,rfl,rfl,_,rfl,ifY rfl ⟨_,rfl,p,_,rfl,.inl hS,rfl,zi1 ns,.inr ⟨_,rfl,?_⟩⟩⟩
  rw [← zpJ b] at q
  exact q
 ·subst h
  refine ⟨_,rfl,rfl,_,rfl,ifN (by decide+kernel) ⟨_,rfl,rfl,_,rfl,ifY rfl ⟨_,rfl,p,_,rfl,.inl hS,rfl,zi1 ns,.inr ⟨_,rfl,?_⟩⟩⟩⟩
  rw [← int_or] at q
  exact q
 ·subst h
  refine ⟨_,rfl,rfl,_,rfl,ifN (by decide+kernel) ⟨_,rfl,rfl,_,rfl,ifN (by decide+kernel) ⟨_,rfl,rfl,_,rfl,ifY rfl ⟨_,rfl,p,ns,rfl,hS,_,_,rfl,rfl,(by show (0:Int) < 2;decide),?_⟩⟩⟩⟩
  rw [zg0] at q
  exact q
 ·subst h
  refine ⟨_,rfl,rfl,_,rfl,ifN (by decide+kernel) ⟨_,rfl,rfl,_,rfl,ifN (by decide+kernel) ⟨_,rfl,rfl,_,rfl,ifN (by decide+kernel) ⟨_,rfl,rfl,_,rfl,ifY rfl ⟨_,rfl,p,_,0,_,rfl,rfl,hS,zbQ (ybp 0) (by omega),_,_,rfl,rfl,?_⟩⟩⟩⟩⟩
  rw [znG] at q
  exact q
 ·subst h
  refine ⟨_,rfl,rfl,_,rfl,ifN (by decide+kernel) ⟨_,rfl,rfl,_,rfl,ifN (by decide+kernel) ⟨_,rfl,rfl,_,rfl,ifN (by decide+kernel) ⟨_,rfl,rfl,_,rfl,ifN (by decide+kernel) ⟨_,rfl,rfl,_,rfl,ifY rfl ?_⟩⟩⟩⟩⟩
  rw [zg3] at q
  have b0:ns.getD 0 0=0∨ns.getD 0 0=1:=za9 b (by omega)
  refine ⟨_,rfl,p,_,0,_,rfl,rfl,hS,zbQ (ybp 0) (by omega),rfl,_,rfl,ite2 (fun c=>?_) (fun c=>?_)⟩
  ·have c':ns.getD 0 0=1:=V.int.inj (of_decide_eq_true c)
   rw [if_pos c'] at q
   exact ⟨_,rfl,p,_,1,_,rfl,rfl,hS,zbQ (by decide) (by rw [l1];decide),q⟩
  ·have c':¬ns.getD 0 0=1:=fun z=>c (decide_eq_true (by show V.int (ns.getD (0:Int).toNat 0)=_;rw [show ns.getD (0:Int).toNat 0=1 from z]))
   rw [if_neg c'] at q
   exact ⟨_,rfl,p,_,2,_,rfl,rfl,hS,zbQ (by decide) (by rw [l1];decide),q⟩
 ·subst h
  rw [zkE] at q
  exact ⟨_,rfl,rfl,_,rfl,ifN (by decide+kernel) ⟨_,rfl,rfl,_,rfl,ifN (by decide+kernel) ⟨_,rfl,rfl,_,rfl,ifN (by decide+kernel) ⟨_,rfl,rfl,_,rfl,ifN (by decide+kernel) ⟨_,rfl,rfl,_,rfl,ifN (by decide+kernel) ⟨_,rfl,rfl,.inr ⟨false,congrArg (fun z=>[V.bl z]) (decide_eq_false fun z=>n_z1 (V.str.inj z)),q⟩⟩⟩⟩⟩⟩⟩
 ·subst h
  rw [znQ] at q
  exact ⟨_,rfl,rfl,_,rfl,ifN (by decide+kernel) ⟨_,rfl,rfl,_,rfl,ifN (by decide+kernel) ⟨_,rfl,rfl,_,rfl,ifN (by decide+kernel) ⟨_,rfl,rfl,_,rfl,ifN (by decide+kernel) ⟨_,rfl,rfl,_,rfl,ifN (by decide+kernel) ⟨_,rfl,rfl,.inr ⟨true,congrArg (fun z=>[V.bl z]) (decide_eq_true rfl),q⟩⟩⟩⟩⟩⟩⟩
theorem zaT:zat ["works","found","wire","number","inputs","gates","outputs","place"] ["works"] (zak zcS):=⟨rfl,rfl,rfl,by decide+kernel,rfl,by decide+kernel,by decide+kernel⟩
theorem ziJ (T:Txt K mg t):FnOk P w K mg base CX0 1 t.f_law_faults t.fd_law_faults ["works"] (sp_lf K):=by
 refine T.d_law_faults.F.okB zaT (fun vs H Q E h=>?_) (fun cdv A outer s H vs Q E hr h=>?_)
 ·obtain ⟨x,w,rfl,_⟩:=h
  rfl
 obtain ⟨x,w,rfl,hx,wf,q⟩:=h
 obtain ⟨a,ga,oa,gs,os,rfl,ha,hg,ho,rg,ro⟩:=zbr hx
 have lg:gs.length=w.gates.length:=by rw [rg.length,yB]
 have i1:=wf.i1
 have i6:=wf.i6
 have few:=wf.few
 have lf:=zdY wf
 refine ⟨_,(zae (ziA (bpv 0) (zcK rfl (zar (zah (k:=4) zaT.nd rfl (Or.inl rfl)) (zar (zah (k:=5) zaT.nd rfl (Or.inl rfl)) (zar (zah (k:=6) zaT.nd rfl (Or.inl rfl)) za1)))))
  (zae (zal (k:=1) zaT.nd rfl (Or.inl rfl) (zau zac))
  (zae (zaE qA rfl (zaW rfl T.z_range (zaa (zao zbE (bpv 4) (zaK zaD rfl T.z_len xA (zaa (bpv 5) (zac)))) (zac))) (zah (k:=2) zaT.nd rfl (Or.inl rfl)) (zaf (zal (k:=1) zaT.nd rfl (Or.inl rfl) (zao zbS (bpv 1) (zau (zaa (zaG (zaa zay (zaa (bpv 2) (zaa zag (zac))))) (zaa (zaG (zaa zay (zaa (bpv 2) (zaa zag (zac))))) (zac))))))))
  (zae (zaE qA rfl (zaW rfl T.z_range (zaa (zaK zaD rfl T.z_len xA (zaa (bpv 5) (zac))) (zac))) (zah (k:=3) zaT.nd rfl (Or.inl rfl)) (zaf (zaE qA rfl (zaW rfl T.z_range (zaa (zaK zaD rfl T.z_len xA (zaa (zas zaL (zas za0 (bpv 5) (bpv 3) (fun _ _=>rfl)) zag (fun _ _=>rfl)) (zac))) (zac))) (zah (k:=7) zaT.nd rfl (Or.inl rfl)) (zaf (zal (k:=1) zaT.nd rfl (Or.inl rfl) (zao zbS (bpv 1) (zau (zaa (zaG (zaa zay (zaa (bpv 3) (zaa (bpv 7) (zaa zag (zac)))))) (zaa (zaG (zaa zay (zaa (bpv 3) (zaa (bpv 7) (zaa zag (zac)))))) (zac))))))))))
  (zaf (zap (bpv 1))))))),?_⟩
 refine ⟨_,rfl,a,_,rfl,ha,rfl,_,_,rfl,_,_,rfl,_,_,rfl,rfl,?_⟩
 refine ⟨(by show 0≤yM;decide),fun R hR=>?_⟩
 have k0:=zad hR (.lst [])
 refine ⟨_,rfl,_,rfl,ga,_,rfl,.inl (k0.seq hg),_,_,rfl,rfl,_,rfl,by omega,by omega,zca (fun i σ H3=>∃ (r:Addr) (xs:List V) (o2:Option V),σ = [some (.ref a),some (.ref r),o2,none,some (.int w.ins),some (.ref ga),some (.ref oa),none]∧(Same H H3∧H r=none)∧H3 r=some (.lst xs)∧FAll H3 xs (zeD (zdr i)))
  ⟨R,[],_,rfl,⟨k0,hR⟩,zab,.nil⟩ ?_ ?_⟩
 ·rintro i σ H3 E1 hi hE ⟨r,xs,o2,rfl,⟨s3,nr⟩,er,fa⟩
  have lx:xs.length≤400:=by
   have l1:=qI fa
   have e2:∀ n,(zeD (zdr n)).length=2 * n:=fun n=>by
    induction n with
    | zero=>rfl
    | succ n ih=>rw [zdr,zeP,yJ,ih];show 2 * n+2=_;omega
   rw [e2] at l1
   omega
  refine ⟨_,rfl,_,rfl,(by show 3≤yM;decide),fun T1 h1=>?_⟩
  have j1:=zad h1 (.tup [.str "wire",.int i,.int 0])
  refine ⟨_,rfl,(by show 3≤yM;decide),fun T2 h2=>?_⟩
  have j2:=zad h2 (.tup [.str "wire",.int i,.int 1])
  refine ⟨(by show 2≤yM;decide),fun L h3=>?_⟩
  have j3:=zad h3 (.lst [.ref T1,.ref T2])
  have jj:=(j1.trans j2).trans j3
  refine ⟨r,L,_,_,rfl,rfl,jj _ _ er,zab,bigE (by show xs.length+2≤100000;omega),fun R2 h4=>?_⟩
  have j4:=zad h4 (.lst (xs++ [.ref T1,.ref T2]))
  refine hE _ _ ⟨R2,xs++ [.ref T1,.ref T2],_,rfl,⟨(s3.trans jj).trans j4,(s3.trans jj).free h4⟩,zab,?_⟩
  rw [zdr,zeP]
  exact FAll.two (fa.mono (jj.trans j4)) (((j2.trans j3).trans j4) _ _ zab) ((j3.trans j4) _ _ zab)
 rintro σ H1 ⟨r,xs,o2,rfl,⟨s1,nr⟩,er,fa⟩
 have e2:(w.ins+(gs.length:Int)).toNat=w.ins.toNat+w.gates.length:=by omega
 rw [e2] at fa
 refine ⟨_,rfl,ga,_,rfl,.inl (s1.seq hg),_,rfl,by omega,by omega,zca (fun i σ H3=>∃ (r:Addr) (xs:List V) (o3 o4:Option V),σ = [some (.ref a),some (.ref r),o2,o3,some (.int w.ins),some (.ref ga),some (.ref oa),o4]∧(Same H H3∧H r=none)∧H3 r=some (.lst xs)∧FAll H3 xs (zeD (zdr (w.ins.toNat+w.gates.length)++zeF w.gates i)))
  ⟨r,xs,_,_,rfl,⟨s1,nr⟩,er,by rw [show zeF w.gates 0= [] from rfl,jW];exact fa⟩ ?_ ?_⟩
 ·rintro i σ H3 E1 hi hE ⟨r,xs,o3,o4,rfl,⟨s3,nr⟩,er,fa⟩
  obtain ⟨g,hgk⟩:∃ g,w.gates[i]? =some g:=⟨_,yC (by omega)⟩
  obtain ⟨v,hv,rv⟩:=rg.getD (i:=i) (d:=zkx g) (by rw [yG,hgk];rfl)
  obtain ⟨a1,la,rfl,hA,hL⟩:=zgL rv
  have lk:=(wf.legs i g hgk).1.le
  refine ⟨_,rfl,_,rfl,ga,_,_,_,rfl,rfl,s3.seq hg,zb7 hv,a1,_,_,_,rfl,rfl,s3.seqT hA,rfl,la,_,rfl,.inr (s3.seqT hL),_,rfl,by omega,by rw [yB];omega,zca (fun j σ H4=>∃ (r:Addr) (xs:List V) (o4:Option V),σ = [some (.ref a),some (.ref r),o2,some (.int i),some (.int w.ins),some (.ref ga),some (.ref oa),o4]∧(Same H H4∧H r=none)∧H4 r=some (.lst xs)∧FAll H4 xs (zeD (zdr (w.ins.toNat+w.gates.length)++zeF w.gates i++zic i j)))
   ⟨r,xs,_,rfl,⟨s3,nr⟩,er,by rw [show zic (i:Int) 0= [] from rfl,jW];exact fa⟩ ?_ ?_⟩
  ·rintro j σ H4 E2 hj hE2 ⟨r,xs,o4,rfl,⟨s4,nr⟩,er,fa⟩
   have lx:xs.length≤4000:=by
    have l1:=qI fa
    have g1:=zdu wf i
    have g2:=congrArg vI (ziO w.gates i)
    have g3:=congrArg vI (zkN (i:Int) j)
    rw [yB] at g2 g3 hj
    rw [zfV,yJ,yJ,zhJ,g2,g3,zfx] at l1
    omega
   refine ⟨_,rfl,_,rfl,_,rfl,(by show 4≤yM;decide),fun T1 h1=>?_⟩
   have j1:=zad h1 (.tup [.str "leg",.int i,.int j,.int 0])
   refine ⟨_,rfl,_,rfl,(by show 4≤yM;decide),fun T2 h2=>?_⟩
   have j2:=zad h2 (.tup [.str "leg",.int i,.int j,.int 1])
   refine ⟨(by show 2≤yM;decide),fun L h3=>?_⟩
   have j3:=zad h3 (.lst [.ref T1,.ref T2])
   have jj:=(j1.trans j2).trans j3
   refine ⟨r,L,_,_,rfl,rfl,jj _ _ er,zab,bigE (by show xs.length+2≤100000;omega),fun R2 h4=>?_⟩
   have j4:=zad h4 (.lst (xs++ [.ref T1,.ref T2]))
   refine hE2 _ _ ⟨R2,xs++ [.ref T1,.ref T2],_,rfl,⟨(s4.trans jj).trans j4,(s4.trans jj).free h4⟩,zab,?_⟩
   rw [zic,← xF,zeP]
   exact FAll.two (fa.mono (jj.trans j4)) (((j2.trans j3).trans j4) _ _ zab) ((j3.trans j4) _ _ zab)
  ·rintro σ H4 ⟨r,xs,o4,rfl,⟨s4,nr⟩,er,fa⟩
   refine hE _ _ ⟨r,xs,_,_,rfl,⟨s4,nr⟩,er,?_⟩
   have e3:((g.2.map V.int).length:Int).toNat=g.2.length:=by rw [yB];omega
   rw [e3] at fa
   rw [zeF,hgk,← xF]
   exact fa
 ·rintro σ H3 ⟨r,xs,o3,o4,rfl,⟨s3,nr⟩,er,fa⟩
  have e3:((gs.length:Nat):Int).toNat=w.gates.length:=by omega
  rw [e3] at fa
  exact ⟨_,rfl,q r xs H3 s3 nr er fa⟩
theorem zaH:zat ["works","faults","row","worths","wire","inputs","gates","outputs","fault","worth","own","kind","legs"] ["works","faults","row"] (zak zdX):=⟨rfl,rfl,rfl,by decide+kernel,rfl,by decide+kernel,by decide+kernel⟩
theorem zf5 (T:Txt K mg t):FnOk P w K mg base CX0 2 t.f_law_stuck t.fd_law_stuck ["works","faults","row"] (zpT K):=by
 refine T.d_law_stuck.F.okB zaH (fun vs H Q E h=>?_) (fun cdv A outer s H vs Q E hr h=>?_)
 ·obtain ⟨x,F,p,w,fs,row,rfl,_⟩:=h
  rfl
 obtain ⟨x,F,p,w,fs,row,rfl,hx,wf,fl,hS,hl,bits,q⟩:=h
 obtain ⟨a,ga,oa,gs,os,rfl,ha,hg,ho,rg,ro⟩:=zbr hx
 have lg:gs.length=w.gates.length:=by rw [rg.length,yB]
 have i1:=wf.i1
 have i6:=wf.i6
 have few:=wf.few
 refine ⟨_,(zae (ziA (bpv 0) (zcK rfl (zar (zah (k:=5) zaH.nd rfl (Or.inl rfl)) (zar (zah (k:=6) zaH.nd rfl (Or.inl rfl)) (zar (zah (k:=7) zaH.nd rfl (Or.inl rfl)) za1)))))
  (zae (zal (k:=3) zaH.nd rfl (Or.inr rfl) (zau zac))
  (zae (zaE qA rfl (zaW rfl T.z_range (zaa (zao zbE (bpv 5) (zaK zaD rfl T.z_len xA (zaa (bpv 6) (zac)))) (zac))) (zah (k:=4) zaH.nd rfl (Or.inl rfl)) (zae (zaP (zax zpS (bpv 4) (bpv 5) (zaO _)) (zaf (zal (k:=9) zaH.nd rfl (Or.inl rfl) (zas za0 (bpv 2) (bpv 4) (fun _ _=>rfl)))) (zae (ziA (zas za0 (bpv 6) (zao zg6 (bpv 4) (bpv 5)) (fun _ _=>rfl)) (zcK rfl (zar (zah (k:=11) zaH.nd rfl (Or.inl rfl)) (zar (zah (k:=12) zaH.nd rfl (Or.inl rfl)) za1))))
  (zae (ze6 (k:=10) rfl (N:=["leg","worths"]) (n:=1) (cap:=[3]) (zbc rfl rfl) zaH.nd rfl rfl (zkz (bpv 12)) (zaF (by decide)) (fun _ _ _ _=>(zah (k:=0) (show (["leg","worths"]:List Str).Nodup by decide+kernel) rfl (Or.inl rfl))) (fun _ _ _ _=>zaI) (fun _ _ _ _=>(zas (zep (K:=K)) (bpv 1) (bpv 0) (fun _ _=>rfl))) rfl)
  (zae (zaE qA rfl (zaz (bpv 1)) (zah (k:=8) zaH.nd rfl (Or.inl rfl)) (zaf (zaP (zgJ (zgV (zax zdS (zas zaL (bpv 8) zag (fun _ _=>rfl)) zay (zaO _)) (ze2 (zax zdS (zas zaL (bpv 8) zag (fun _ _=>rfl)) (zao zg6 (bpv 4) (bpv 5)) (zaO _))))) (zaf (ziA (zas zaL (bpv 8) zag (fun _ _=>rfl)) (zpB (bpv 10) (zas zaL (bpv 8) zag (fun _ _=>rfl)) zoO))) zaA)))
  (zaf (zal (k:=9) zaH.nd rfl (Or.inl rfl) (zaj (zj0 T) (hr.mono (by decide)) rfl T.d_law_worth.m T.d_law_worth.F.kp T.d_law_worth.b .nil zaC (zaa (bpv 11) (zaa (bpv 10) (zac))))))))))
  (zae (zaE qA rfl (zaz (bpv 1)) (zah (k:=8) zaH.nd rfl (Or.inl rfl)) (zaf (zaP (zgJ (zgV (zax zdS (zas zaL (bpv 8) zag (fun _ _=>rfl)) zay (zaO _)) (ze2 (zax zdS (zas zaL (bpv 8) zag (fun _ _=>rfl)) (bpv 4) (zaO _))))) (zaf (zal (k:=9) zaH.nd rfl (Or.inl rfl) (zas zaL (bpv 8) zag (fun _ _=>rfl)))) zaA)))
  (zaf (zba (zbW qJ qO qP zaY (bpv 3) (zaa (bpv 9) (zac))))))))
  (zaf (zap (zaJ rfl (N:=["wire","worths"]) (n:=1) (cap:=[3]) (zbc rfl rfl) (zaz (bpv 7)) (zaF (by decide)) (fun _ _ _ _=>(zah (k:=0) (show (["wire","worths"]:List Str).Nodup by decide+kernel) rfl (Or.inl rfl))) (fun _ _ _ _=>zaI) (fun _ _ _ _=>(zas (zep (K:=K)) (bpv 1) (bpv 0) (fun _ _=>rfl))))))))),?_⟩
 obtain ⟨W,eW⟩:∃ W,zaB fs w.gates row w.gates.length=W:=⟨_,rfl⟩
 have lW:W.length=row.length+w.gates.length:=by rw [← eW];exact zbx _ _ _ _
 have bW:Bits W:=by rw [← eW];exact zb9 fl.bits wf hl bits _ (yN _)
 refine ⟨_,rfl,a,_,rfl,ha,rfl,_,_,rfl,_,_,rfl,_,_,rfl,rfl,?_⟩
 refine ⟨(by show 0≤yM;decide),fun r hr1=>?_⟩
 have k0:=zad hr1 (.lst [])
 refine ⟨_,rfl,_,rfl,ga,_,rfl,.inl (k0.seq hg),_,_,rfl,rfl,_,rfl,by omega,by omega,zca (fun i σ H3=>∃ (o4 o8 o9 o10 o11 o12:Option V),σ = [some (.ref a),some (.ref F),some (.ref p),some (.ref r),o4,some (.int w.ins),some (.ref ga),some (.ref oa),o8,o9,o10,o11,o12]∧Same H H3∧H3 r=some (.lst ((W.take i).map V.int)))
  ⟨_,_,_,_,_,_,rfl,k0,zab⟩ ?_ ?_⟩
 ·rintro i σ H3 E1 hi hE ⟨o4,o8,o9,o10,o11,o12,rfl,s3,er⟩
  have li:i < W.length:=by omega
  have lt:(W.take i).length=i:=by rw [yP];omega
  refine' zqm (α :=Int×Option V×Option V×Option V×Option V) (C:=fun v H9=>Same H3 H9∧W[i]? =some (pick fs (zbk i) v.1)) (st:=fun v=>[some (.ref a),some (.ref F),some (.ref p),some (.ref r),some (.int i),some (.int w.ins),some (.ref ga),some (.ref oa),v.2.1,some (.int v.1),v.2.2.1,v.2.2.2.1,v.2.2.2.2]) (fun rest=>_) _
  rotate_left
  ·refine ⟨_,rfl,_,rfl,_,_,rfl,rfl,_,rfl,ite2 (fun c=>?_) (fun c=>?_)⟩
   ·have c':(i:Int) < w.ins:=of_decide_eq_true c
    have lr:i < row.length:=by omega
    refine ⟨_,rfl,_,rfl,p,_,_,_,rfl,rfl,s3.seq hS,zbQ (by omega) (by omega),rest (row.getD i 0,o8,o10,o11,o12) H3 ⟨Same.refl _,?_⟩⟩
    rw [← eW]
    exact W_in fs w.gates row lr _
   ·have c':¬(i:Int) < w.ins:=fun z=>c (decide_eq_true z)
    obtain ⟨k,ek⟩:∃ k:Nat,i=row.length+k:=⟨i - row.length,by omega⟩
    have hk:k < w.gates.length:=by omega
    obtain ⟨g,hgk⟩:∃ g,w.gates[k]? =some g:=⟨_,yC hk⟩
    obtain ⟨v,hv,rv⟩:=rg.getD (i:=k) (d:=zkx g) (by rw [yG,hgk];rfl)
    obtain ⟨a1,la,rfl,hA,hL⟩:=zgL rv
    obtain ⟨lk,lb⟩:=wf.legs k g hgk
    have lb':∀ l∈g.2,0≤l∧l < ((row.length+k:Nat):Int):=fun l hl'=>by have:=lb l hl';omega
    have l4:=lk.le
    have ed:(i:Int) - w.ins=(k:Int):=by omega
    obtain ⟨ws,ews⟩:∃ ws:List Int,(g.2.map fun l=>W.getD l.toNat 0)=ws:=⟨_,rfl⟩
    have lws:ws.length=g.2.length:=by rw [← ews,yB]
    have bws:Bits ws:=fun z hz=>by
     rw [← ews] at hz
     obtain ⟨l,hl',rfl⟩:=yY.mp hz
     exact za9 bW (by rw [lW];have:=lb' l hl';omega)
    have fin:W[i]? =some (pick fs (zbk i) (zbs g.1 (zb8 fs k ws))):=by
     rw [ek,← ews,← eW]
     exact W_gate fs hgk hk lb'
    refine ⟨_,rfl,_,rfl,_,rfl,_,_,rfl,rfl,ga,_,_,_,rfl,rfl,s3.seq hg,by rw [ed];exact zb7 hv,a1,_,rfl,s3.seqT hA,rfl,_,_,rfl,_,_,rfl,rfl,?_⟩
    refine ⟨_,rfl,la,rfl,⟨_,s3.seqT hL⟩,fun D hD=>ziX (K:=K) (a:=la) (xs:=g.2.map V.int) (fun j H5=>Off [D] H3 H5∧H5 D=some (.lst ((ws.take j).map V.int)))
     ⟨Off.start hD _,zab⟩ (fun j H5 _ ⟨off,_⟩=>(s3.trans off.same).seqT hL) ?_ ?_⟩
    ·rintro j y H5 hy ⟨off,eD⟩
     rw [yG] at hy
     cases hz:g.2[j]? with
     | none=>rw [hz] at hy;cases hy
     | some l=>
      rw [hz] at hy
      cases hy
      have bl:=lb' l (yH hz)
      have lj:j < g.2.length:=(yF.mp hz).1
      have ewj:ws[j]? =some (W.getD l.toNat 0):=by rw [← ews,yG,hz];rfl
      have eg:(W.take i).getD l.toNat 0=W.getD l.toNat 0:=by
       rw [yL,yL,yaj (by omega)]
      refine ⟨_,rfl,_,rfl,r,_,_,_,rfl,rfl,.of (off.same _ _ er),zbQ bl.1 (by rw [lt];omega),_,eD,big (by rw [yB,yP];omega),off.write (.head _) _,?_⟩
      rw [zab,yO,ewj,eg]
      simp
    rintro H5 ⟨off,eD⟩
    rw [yB,← lws,yQ] at eD
    have rD:r≠D:=zam er hD
    have s35:=s3.trans off.same
    refine' zqm (α :=Option V) (C:=fun o H6=>Off [D] H3 H6∧H6 D=some (.lst ((zb8 fs k ws).map V.int))) (st:=fun o=>[some (.ref a),some (.ref F),some (.ref p),some (.ref r),some (.int i),some (.int w.ins),some (.ref ga),some (.ref oa),o,o9,some (.ref D),some (.str g.1),some (.ref la)]) (fun rest2=>_) _
    rotate_left
    ·rcases fl with ⟨e1,hF⟩ | ⟨b,f,e1,gf,hF,hb⟩
     ·subst e1
      refine ⟨_,rfl,F,rfl,⟨_,.of (s35 _ _ hF)⟩,zaV (K:=K) (a:=F) (xs:=[]) (fun j σ H6=>σ = [some (.ref a),some (.ref F),some (.ref p),some (.ref r),some (.int i),some (.int w.ins),some (.ref ga),some (.ref oa),o8,o9,some (.ref D),some (.str g.1),some (.ref la)]∧H6=H5)
       ⟨rfl,rfl⟩ (fun j σ H6 _ ⟨_,e⟩=>by rw [e];exact .of (s35 _ _ hF)) (fun j y σ H6 hy _=>by cases hy) ?_⟩
      rintro σ H6 ⟨rfl,rfl⟩
      exact rest2 o8 H6 ⟨off,by rw [zjK];exact eD⟩
     ·subst e1
      refine ⟨_,rfl,F,rfl,⟨_,.of (s35 _ _ hF)⟩,zaV (K:=K) (a:=F) (xs:=[.ref b]) (fun j σ H6=>∃ o:Option V,σ = [some (.ref a),some (.ref F),some (.ref p),some (.ref r),some (.int i),some (.int w.ins),some (.ref ga),some (.ref oa),o,o9,some (.ref D),some (.str g.1),some (.ref la)]∧Off [D] H3 H6∧H6 D=some (.lst ((if j=0 then ws else zb8 [f] k ws).map V.int)))
       ⟨_,rfl,off,eD⟩ (fun j σ H6 _ ⟨_,_,o,_⟩=>.of ((s3.trans o.same) _ _ hF)) ?_ ?_⟩
      ·rintro j y σ H6 hy ⟨o,rfl,of6,eD6⟩
       have ej:j=0∧y= .ref b:=by
        cases j with
        | zero=>cases hy;exact ⟨rfl,rfl⟩
        | succ j=>simp at hy
       obtain ⟨rfl,rfl⟩:=ej
       rw [if_pos rfl] at eD6
       have s36:=s3.trans of6.same
       have fc:=FC.of (K:=K) gf (s36 _ _ hb)
       rcases fc with ⟨e1,c1⟩ | ⟨i0,u,e1,d1,c1⟩ | ⟨g0,p0,u,gt,e1,d1,e2,f2,c1⟩
       ·cases e1
       ·rw [yaP e1 |>.1]
        refine ⟨_,rfl,b,_,_,_,rfl,rfl,c1,rfl,rfl,_,rfl,ifN (by decide+kernel) ?_⟩
        exact iteF ⟨_,rfl,of6,by rw [if_neg (by omega),zn0 (fun i=>by simp [zbk,legK])];exact eD6⟩
       ·rw [yaP e1 |>.1]
        refine ⟨_,rfl,b,_,_,_,rfl,rfl,c1,rfl,rfl,_,rfl,ifY rfl ?_⟩
        refine ⟨_,rfl,b,_,_,_,rfl,rfl,c1,rfl,_,rfl,_,rfl,_,_,rfl,rfl,rfl,_,rfl,ite2 (fun c2=>?_) (fun c2=>?_)⟩
        ·have c3:(g0:Int)=(i:Int) - w.ins:=V.int.inj (of_decide_eq_true c2)
         have:g0=k:=by omega
         subst this
         rw [hgk] at e2
         cases e2
         refine ⟨_,rfl,b,_,_,_,rfl,rfl,c1,rfl,_,rfl,_,rfl,b,_,_,_,rfl,rfl,c1,rfl,D,_,_,p0,rfl,rfl,eD6,?_,?_⟩
         ·unfold ixN
          rw [if_pos (by omega),if_pos (by rw [yB];omega),jN]
         ·refine ⟨_,rfl,of6.write (.head _) _,?_⟩
          rw [zab,if_neg (by omega),zoC ws (by omega),yb4]
        ·have c3:¬(g0:Int)=(i:Int) - w.ins:=fun z=>c2 (decide_eq_true (by rw [z]))
         refine ⟨_,rfl,of6,?_⟩
         rw [if_neg (by omega),zn0 (fun z e=>c3 (by
          have:(g0:Int)=(k:Int):=by simp [legK] at e;omega
          omega))]
         exact eD6
      ·rintro σ H6 ⟨o,rfl,of6,eD6⟩
       exact rest2 o H6 ⟨of6,by rw [if_neg (by simp)] at eD6;exact eD6⟩
    ·rintro ob H6 ⟨off6,eD6⟩
     have s36:=s3.trans off6.same
     have bl6:Bits (zb8 fs k ws):=zfM fl.bits bws
     refine ⟨_,rfl,_,rfl,g.1,D,_,rfl,.of eD6,bl6,by rw [zd9,lws];exact lk,?_⟩
     exact rest (zbs g.1 (zb8 fs k ws),ob,some (.ref D),some (.str g.1),some (.ref la)) H6 ⟨off6.same,fin⟩
  ·rintro ⟨x5,y8,y10,y11,y12⟩ H9 ⟨s9,eWi⟩
   have s39:=s3.trans s9
   have er9:=s9 _ _ er
   refine' zqm (α :=Option V) (C:=fun o H6=>H6=H9) (st:=fun o=>[some (.ref a),some (.ref F),some (.ref p),some (.ref r),some (.int i),some (.int w.ins),some (.ref ga),some (.ref oa),o,some (.int (pick fs (zbk i) x5)),y10,y11,y12]) (fun rest=>_) _
   rotate_left
   ·rcases fl with ⟨e1,hF⟩ | ⟨b,f,e1,gf,hF,hb⟩
    ·subst e1
     refine ⟨_,rfl,F,rfl,⟨_,.of (s39 _ _ hF)⟩,zaV (K:=K) (a:=F) (xs:=[]) (fun j σ H6=>σ = [some (.ref a),some (.ref F),some (.ref p),some (.ref r),some (.int i),some (.int w.ins),some (.ref ga),some (.ref oa),y8,some (.int x5),y10,y11,y12]∧H6=H9)
      ⟨rfl,rfl⟩ (fun j σ H6 _ ⟨_,e⟩=>by rw [e];exact .of (s39 _ _ hF)) (fun j y σ H6 hy _=>by cases hy) ?_⟩
     rintro σ H6 ⟨rfl,rfl⟩
     have:=rest y8 H6 rfl
     rw [zk6] at this
     exact this
    ·subst e1
     refine ⟨_,rfl,F,rfl,⟨_,.of (s39 _ _ hF)⟩,zaV (K:=K) (a:=F) (xs:=[.ref b]) (fun j σ H6=>∃ o:Option V,σ = [some (.ref a),some (.ref F),some (.ref p),some (.ref r),some (.int i),some (.int w.ins),some (.ref ga),some (.ref oa),o,some (.int (if j=0 then x5 else pick [f] (zbk i) x5)),y10,y11,y12]∧H6=H9)
      ⟨_,rfl,rfl⟩ (fun j σ H6 _ ⟨_,_,e⟩=>by rw [e];exact .of (s39 _ _ hF)) ?_ ?_⟩
     ·rintro j y σ H6 hy ⟨o,rfl,rfl⟩
      have ej:j=0∧y= .ref b:=by
       cases j with
       | zero=>cases hy;exact ⟨rfl,rfl⟩
       | succ j=>simp at hy
      obtain ⟨rfl,rfl⟩:=ej
      have fc:=FC.of (K:=K) gf (s39 _ _ hb)
      rcases fc with ⟨e1,c1⟩ | ⟨i0,u,e1,d1,c1⟩ | ⟨g0,p0,u,gt,e1,d1,e2,f2,c1⟩
      ·cases e1
      ·rw [yaP e1 |>.1]
       refine ⟨_,rfl,b,_,_,_,rfl,rfl,c1,rfl,rfl,_,rfl,ifY rfl ?_⟩
       refine ⟨_,rfl,b,_,_,_,rfl,rfl,c1,rfl,_,rfl,rfl,_,rfl,ite2 (fun c2=>?_) (fun c2=>?_)⟩
       ·have c3:(i0:Int)=(i:Int):=V.int.inj (of_decide_eq_true c2)
        refine ⟨_,rfl,b,_,_,_,rfl,rfl,c1,rfl,some (.ref b),?_,rfl⟩
        have e5:(if (0+1:Nat)=0 then x5 else pick [⟨zbk i0,u⟩] (zbk i) x5)=u:=by rw [if_neg (by decide),c3,znl]
        rw [e5]
        rfl
       ·have c3:¬(i0:Int)=(i:Int):=fun z=>c2 (decide_eq_true (by rw [z]))
        refine ⟨some (.ref b),?_,rfl⟩
        have e5:(if (0+1:Nat)=0 then x5 else pick [⟨zbk i0,u⟩] (zbk i) x5)=x5:=by
         rw [if_neg (by decide)]
         unfold pick
         rw [zfr,if_neg (fun e=>c3 (by simp [zbk] at e;omega))]
         rfl
        rw [e5]
        rfl
      ·rw [yaP e1 |>.1]
       refine ⟨_,rfl,b,_,_,_,rfl,rfl,c1,rfl,rfl,_,rfl,ifN (by decide+kernel) ?_⟩
       refine iteF ⟨some (.ref b),?_,rfl⟩
       have e5:(if (0+1:Nat)=0 then x5 else pick [⟨legK g0 p0,u⟩] (zbk i) x5)=x5:=by rw [if_neg (by decide),zm5]
       rw [e5]
       rfl
     ·rintro σ H6 ⟨o,rfl,rfl⟩
      have:=rest o H6 rfl
      rw [if_neg (by simp)]
      exact this
   ·rintro o H6 rfl
    refine ⟨_,rfl,.inl ⟨rfl,_,.of er9⟩,_,rfl,r,_,_,rfl,rfl,er9,big (by rw [yB,lt];omega),hE _ _ ⟨_,_,_,_,_,_,rfl,s39.write hr1 _,?_⟩⟩
    rw [zab,yO,eWi,yK]
    rfl
 ·rintro σ H3 ⟨o4,o8,o9,o10,o11,o12,rfl,s3,er⟩
  have eo:=zee ro
  subst eo
  have et:W.take (w.ins+((gs.length:Nat):Int)).toNat=W:=jP (by omega)
  rw [et] at er
  refine ⟨_,rfl,oa,rfl,⟨_,s3.seq ho⟩,fun D hD=>zaN (K:=K) (a:=oa) (xs:=w.outs.map V.int) (fun j H5=>Off [D] H3 H5∧H5 D=some (.lst (((w.outs.take j).map fun o=>W.getD o.toNat 0).map V.int)))
   ⟨Off.start hD _,zab⟩ (fun j H5 _ ⟨off,_⟩=>(s3.trans off.same).seq ho) ?_ ?_⟩
  ·rintro j y H5 hy ⟨off,eD⟩
   rw [yG] at hy
   cases hz:w.outs[j]? with
   | none=>rw [hz] at hy;cases hy
   | some o=>
    rw [hz] at hy
    cases hy
    have bo:=wf.outs o (yH hz)
    have lj:j < w.outs.length:=(yF.mp hz).1
    have o3':=wf.o3
    refine ⟨_,rfl,_,rfl,r,_,_,_,rfl,rfl,.of (off.same _ _ er),zbQ bo.1 (by omega),_,eD,big (by rw [yB,yB,yP];omega),off.write (.head _) _,?_⟩
    rw [zab,yO,hz]
    simp
  ·rintro H5 ⟨off,eD⟩
   rw [yB,yQ] at eD
   exact q D H5 (s3.trans off.same) (s3.free hD) (by rw [eD];unfold zbL;rw [eW])
theorem zf9:zat ["rows","one","other","k"] ["rows","one","other"] (zak zdH):=⟨rfl,rfl,rfl,by decide+kernel,rfl,by decide+kernel,by decide+kernel⟩
theorem zgc (T:Txt K mg t):FnOk P w K mg base CX0 1 t.f_law_first t.fd_law_first ["rows","one","other"] zqj:=by
 refine T.d_law_first.F.okB zf9 (fun vs H Q E h=>?_) (fun cdv A outer s H vs Q E hr h=>?_)
 ·obtain ⟨R,A,B,qs,w,fs,gs,rfl,_⟩:=h
  rfl
 obtain ⟨R,A1,B1,qs,w,fs,gs,rfl,eR,at1,⟨xs,ea,pa⟩,⟨ys,eb,pb⟩,wf,q⟩:=h
 have hu64:=hr.units
 have i6:=wf.i6
 have many:=zbe w.ins.toNat
 have h64:=pow6 (n:=w.ins.toNat) (by omega)
 have lq:=at1.len
 have la:=qI pa
 have lb:=qI pb
 rw [zgQ] at la lb
 refine ⟨_,(zae (zaE qA rfl (zaW rfl T.z_range (zaa (zaK zaD rfl T.z_len xA (zaa (bpv 0) (zac))) (zac))) (zah (k:=3) zf9.nd rfl (Or.inl rfl)) (zaf (zaP (zax (zf8 hu64) (zas za0 (bpv 1) (bpv 3) (fun _ _=>rfl)) (zas za0 (bpv 2) (bpv 3) (fun _ _=>rfl)) (zaO _)) (zaf (zap (zas za0 (bpv 0) (bpv 3) (fun _ _=>rfl)))) zaA)))
  (zaf (zap ziu))),?_⟩
 refine ⟨_,rfl,R,_,rfl,.inl (.of eR),_,rfl,(by omega),(by rw [yB];omega),?_⟩
 refine zeg (fun i σ H2=>∃ o3,σ = [some (.ref R),some (.ref A1),some (.ref B1),o3]∧H2=H∧∀ row∈(zaQ w.ins.toNat).take i,zbL w (zaB fs w.gates row w.gates.length)=zbL w (zaB gs w.gates row w.gates.length))
  ⟨_,rfl,rfl,fun row h=>by rw [List.take_zero] at h;cases h⟩ ?_ ?_
 ·rintro i σ H2 hi ⟨o3,rfl,rfl,no⟩
  rw [yal]
  have li:i < qs.length:=by rw [yB] at hi;omega
  obtain ⟨qq,hqq⟩:∃ qq,qs[i]? =some qq:=⟨_,yC li⟩
  obtain ⟨row,hrow,erow⟩:=at1.get hqq
  obtain ⟨x,hx⟩:∃ x,xs[i]? =some x:=⟨_,yC (by omega)⟩
  obtain ⟨y,hy⟩:∃ y,ys[i]? =some y:=⟨_,yC (by omega)⟩
  obtain ⟨rx,hrx,qx,rfl,e1⟩:=zaS pa hx
  obtain ⟨ry,hry,qy,rfl,e2⟩:=zaS pb hy
  have g1:rx=zbL w (zaB fs w.gates row w.gates.length):=by
   unfold zan at hrx
   rw [yG,hrow] at hrx
   exact (qF hrx).symm
  have g2:ry=zbL w (zaB gs w.gates row w.gates.length):=by
   unfold zan at hry
   rw [yG,hrow] at hry
   exact (qF hry).symm
  refine ⟨_,rfl,_,rfl,A1,_,_,_,rfl,rfl,.of ea,zb7 hx,_,rfl,_,rfl,B1,_,_,_,rfl,rfl,.of eb,zb7 hy,_,_,Rep.lst (.of e1) (Reps.ints _),Rep.lst (.of e2) (Reps.ints _),zdy _,zdy _,fun e=>⟨_,rfl,iteF ⟨_,rfl,rfl,?_⟩⟩,fun ne=>⟨_,rfl,iteT ?_⟩⟩
  ·have e':rx=ry:=wI (fun x y e=>Dat.int.inj e) |>.mp (Dat.list.inj e)
   intro r hr1
   rw [yO,hrow] at hr1
   rcases yU.mp hr1 with h1 | h1
   ·exact no r h1
   ·rw [yE.mp h1,← g1,← g2,e']
  ·refine ⟨_,rfl,_,rfl,R,_,_,_,rfl,rfl,.of eR,zb7 (by rw [yG,hqq];rfl),q _ ?_⟩
   have e:zbo w fs gs=some row:=by
    unfold zbo
    refine zk9 hrow (decide_eq_true fun z=>ne (by rw [g1,g2,z])) fun y hy=>?_
    simp [no y hy]
   rw [e]
   exact ⟨qq,rfl,erow⟩
 ·rintro σ H2 ⟨o3,rfl,rfl,no⟩
  have e:zbo w fs gs=none:=by
   unfold zbo
   rw [vO]
   intro row hrow
   have el:(zaQ w.ins.toNat).take ((((qs.map V.ref).length:Nat):Int):Int).toNat=zaQ w.ins.toNat:=by
    rw [jN,yB,lq,yQ]
   have:=no row (by rw [el];exact hrow)
   simp [this]
  refine q _ ?_
  rw [e]
  rfl
theorem zcD:zat ["faults","seen","right","found","known","fault"] ["faults","seen","right"] (zak zcU):=⟨rfl,rfl,rfl,by decide+kernel,rfl,by decide+kernel,by decide+kernel⟩
theorem zih (T:Txt K mg t):FnOk P w K mg base CX0 1 t.f_law_groups t.fd_law_groups ["faults","seen","right"] (zpo K):=by
 refine T.d_law_groups.F.okB zcD (fun vs H Q E h=>?_) (fun cdv A outer s H vs Q E hr h=>?_)
 ·obtain ⟨fl,d,rt,xs,kvs,w,rfl,_⟩:=h
  rfl
 obtain ⟨fl,d,rt,xs,kvs,w,rfl,efl,fa,ed,mk0,mr,wf,q⟩:=h
 have hu64:=hr.units
 have hu1:=zgn hr
 have lf:=zdY wf
 have lx:=qI fa
 refine ⟨_,(zae (zal (k:=3) zcD.nd rfl (Or.inl rfl) (zau zac))
  (zae (zal (k:=4) zcD.nd rfl (Or.inl rfl) (zau zac))
  (zae (zaE qA rfl (zaz (bpv 0)) (zah (k:=5) zcD.nd rfl (Or.inl rfl)) (zaf (zaP (zax (zf8 hu64) (zbz hu1 (bpv 1) (bpv 5) (fun _ _=>rfl)) (bpv 2) (zaO _)) (zae (zaP (zax (zja hu64) (zbz hu1 (bpv 1) (bpv 5) (fun _ _=>rfl)) (bpv 4) rfl) (zae (zba (zbW qJ qO qP zaY (bpv 4) (zaa (zbz hu1 (bpv 1) (bpv 5) (fun _ _=>rfl)) (zac))))
  (zaf (zba (zbW qJ qO qP zaY (bpv 3) (zaa (zau zac) (zac)))))) zaA)
  (zaf (zba (zbW qJ qO qP zaY (zas za0 (bpv 3) (zbW qJ ybn PySem.F.type_list_index (znv hu64) (bpv 4) (zaa (zbz hu1 (bpv 1) (bpv 5) (fun _ _=>rfl)) (zac))) (fun _ _=>rfl)) (zaa (bpv 5) (zac)))))) zaA)))
  (zaf (zap (zao zbS (bpv 3) (zau (zaa (zaJ rfl (N:=["fault","right","seen"]) (n:=1) (cap:=[2,1]) (zbc rfl rfl) (zaz (bpv 0)) (zaF (by decide)) (fun _ _ _ _=>(zah (k:=0) (show (["fault","right","seen"]:List Str).Nodup by decide+kernel) rfl (Or.inl rfl))) (fun _ _ _ _=>(zgy (zax (zkB (K:=K) hu64) (zbz hu1 (bpv 2) (bpv 0) (fun _ _=>rfl)) (bpv 1) (zaO _)))) (fun _ _ _ _=>(bpv 0))) (zac))))))))),?_⟩
 refine ⟨(by show 0≤yM;decide),fun gp hgp=>?_⟩
 have o1:=Off.start hgp (.lst [])
 refine ⟨(by show 0≤yM;decide),fun mk hmk=>?_⟩
 have o2:=o1.opn hmk (.lst [])
 have ep3:(upd (upd H gp (.lst [])) mk (.lst [])) gp=some (.lst []):=zad hmk _ _ _ zab
 have em3:=zab (H:=upd H gp (.lst [])) (a:=mk) (o:=.lst [])
 have z3:gp≠mk:=zam zab hmk
 have off3:Off [mk,gp] H (upd (upd H gp (.lst [])) mk (.lst [])):=⟨o2.same,fun m hm=>o2.out m (by simpa [or_comm] using hm),fun m hm=>o2.there m (by simpa [or_comm] using hm)⟩
 generalize upd (upd H gp (.lst [])) mk (.lst [])=H3 at off3 em3 ep3 ⊢
 refine ⟨_,rfl,fl,rfl,⟨_,.of (off3.same _ _ efl)⟩,zaV (K:=K) (a:=fl) (xs:=xs)
  (fun i σ H5=>∃ (o5:Option V) (ms:List V) (ds:List Dat) (gas:List (Addr×List Flt)),σ = [some (.ref fl),some (.ref d),some (.ref rt),some (.ref gp),some (.ref mk),o5]∧
   D9 K H mk gp w i H5 ms ds gas∧gas.map (·.2)=(grpV (fun f=>zan w [f]) (zan w []) ((allF w).take i)).1∧gas.length≤i∧∀ (j:Nat) ag,gas[j]? =some ag→ag.2≠[])
  ⟨_,[],[],[],rfl,⟨off3,em3,.nil,rfl,(fun j ag h=>by simp at h),ep3,(fun j ag h=>by simp at h),(fun i j a b h=>by simp at h),qL _⟩,rfl,qL _,(fun j ag h=>by simp at h)⟩
  (fun i σ H5 _ ⟨_,_,_,_,_,g,_⟩=>.of (g.off.same _ _ efl)) ?_ ?_⟩
 ·rintro i v σ H6 hv ⟨o5,ms,ds,gas,rfl,g,ggs,gl,gne⟩
  obtain ⟨f,hf,b,rfl,hb⟩:=zaS fa hv
  have li:i < (allF w).length:=(yF.mp hf).1
  have et:(allF w).take (i+1)=(allF w).take i++ [f]:=by rw [yO,hf];rfl
  have gf:=zbl (yH hf)
  obtain ⟨m,em0,mk1⟩:=mk0 f (yH hf)
  have rm:Rep K H (.ref m) (zbf w [f]):=zcd mk1
  have rr0:Rep K H (.ref rt) (zbf w []):=zcd mr
  have rvH:Rep K H (.ref b) (fltD f):=zdG (.of hb)
  have dg:∀ {H7:Hp},Same H H7→DGet H7 d (.ref b) (some (.ref m)):=fun {H7} s7=>by
   rw [← em0]
   exact DGet.t (s7 _ _ ed) (by rw [zkK];exact s7 _ _ hb)
  have of6:=g.off
  have em6:=g.em
  have ep6:=g.ep
  refine ⟨_,rfl,_,rfl,d,.ref m,rfl,dg of6.same,_,rfl,zbf w [f],zbf w [],rm.mono of6.same,rr0.mono of6.same,zbX _,zbX _,fun e=>⟨_,rfl,iteF ?_⟩,fun ne=>⟨_,rfl,iteT ?_⟩⟩
  ·have st:grpV (fun f=>zan w [f]) (zan w []) ((allF w).take (i+1))=((grpV (fun f=>zan w [f]) (zan w []) ((allF w).take i)).1,(grpV (fun f=>zan w [f]) (zan w []) ((allF w).take i)).2++ [f]):=by
    rw [et,zcq]
    exact if_pos (zdk e)
   exact ⟨_,ms,ds,gas,rfl,⟨g.off,g.em,g.fm,g.ld,g.hd,g.ep,fun j ag h=>let ⟨a1,a3,a4,a5,a7⟩:=g.each j ag h;⟨a1,a3,a4,a5,by omega⟩,g.one,by omega⟩,by rw [st];exact ggs,by omega,gne⟩
  ·have nem:¬zan w [f]=zan w []:=fun z=>ne (by unfold zbf;rw [z])
   have st:grpV (fun f=>zan w [f]) (zan w []) ((allF w).take (i+1))=(putG (fun f=>zan w [f]) f (grpV (fun f=>zan w [f]) (zan w []) ((allF w).take i)).1,(grpV (fun f=>zan w [f]) (zan w []) ((allF w).take i)).2):=by
    rw [et,zcq]
    exact if_neg nem
   have oks:∀ e∈ds,kqdOk 8 e=true:=fun e he=>by
    obtain ⟨j,hj⟩:=jQ he
    have lj:j < gas.length:=by rw [← g.ld];exact (yF.mp hj).1
    obtain ⟨y,hy,_⟩:=g.hd j _ (yC lj)
    rw [hj] at hy
    cases hy
    exact zbX _
   have hit_at:∀ (k:Nat) bg,gas[k]? =some bg→(hitG (fun f=>zan w [f]) f bg.2=true↔ds[k]? =some (zbf w [f])):=fun k bg hk=>by
    obtain ⟨y,hy,hyy⟩:=g.hd k bg hk
    cases hb:bg.2 with
    | nil=>exact absurd hb (gne k bg hk)
    | cons z rr=>
     have:=hyy z rr hb
     subst this
     rw [hy,kU]
     show decide (zan w [z]=zan w [f])=true↔_
     rw [decide_eq_true_eq]
     exact ⟨fun e=>by unfold zbf;rw [e],zdk⟩
   refine' joinP (C:=fun H9=>∃ (ms':List V) (ds':List Dat) (gas':List (Addr×List Flt)) (j:Nat) (ag:Addr×List Flt),D9 K H mk gp w i H9 ms' ds' gas'∧(∀ e∈ds',kqdOk 8 e=true)∧
    gas'[j]? =some ag∧ds'[j]? =some (zbf w [f])∧(∀ k,k < j→ds'[k]?≠some (zbf w [f]))∧(gas'.set j (ag.1,ag.2++ [f])).map (·.2)=putG (fun f=>zan w [f]) f (grpV (fun f=>zan w [f]) (zan w []) ((allF w).take i)).1∧
    (∀ (k:Nat) bg,gas'[k]? =some bg→k≠j→bg.2≠[])) (fun rest=>_) _
   rotate_left
   ·refine ⟨_,rfl,_,rfl,d,.ref m,rfl,dg of6.same,_,rfl,zbf w [f],ds,rm.mono of6.same,.lst (.of em6) (g.fm.mono of6.same),zbX _,oks,fun hin=>⟨_,rfl,iteF ?_⟩,fun hno=>⟨_,rfl,iteT ?_⟩⟩
    ·refine rest H6 ?_
     obtain ⟨j,hj,hk⟩:=zlu hin
     have lj:j < gas.length:=by rw [← g.ld];exact (yF.mp hj).1
     refine ⟨ms,ds,gas,j,gas[j],g,oks,yC lj,hj,hk,?_,fun k bg h _=>gne k bg h⟩
     rw [← ggs,yb4]
     refine (zmP (g:=gas[j].2) ?_ ((hit_at j _ (yC lj)).mpr hj) fun k g' hkj hg'=>?_).symm
     ·rw [yG,yC lj];rfl
     ·rw [yG] at hg'
      cases hz:gas[k]? with
      | none=>rw [hz] at hg';cases hg'
      | some bg=>
       rw [hz] at hg'
       cases hg'
       cases c:hitG (fun f=>zan w [f]) f bg.2 with
       | false=>rfl
       | true=>exact absurd ((hit_at k bg hz).mp c) (hk k hkj)
    ·have lms:ms.length=gas.length:=by rw [g.fm.length];exact g.ld
     refine ⟨_,rfl,.inl ⟨rfl,_,.of em6⟩,_,rfl,_,rfl,d,.ref m,rfl,dg of6.same,mk,ms,_,rfl,rfl,em6,big (by omega),?_⟩
     have ep7:(upd H6 mk (.lst (ms++ [.ref m]))) gp=some (.lst (gas.map fun ag=>V.ref ag.1)):=by rw [zai z3];exact ep6
     refine ⟨_,rfl,.inl ⟨rfl,_,.of ep7⟩,(by show 0≤yM;decide),fun a0 ha0=>?_⟩
     have j8:=zad ha0 (.lst [])
     refine ⟨gp,_,_,rfl,rfl,j8 _ _ ep7,big (by rw [yB];omega),rest _ ?_⟩
     have of7:=(of6.write (m:=mk) (.head _) (.lst (ms++ [.ref m]))).new ha0 (.lst [])
     have em8:=j8 _ _ (zab (H:=H6) (a:=mk) (o:=.lst (ms++ [.ref m])))
     have ea8:=zab (H:=upd H6 mk (.lst (ms++ [.ref m]))) (a:=a0) (o:=.lst [])
     have a0gp:=zam ep7 ha0
     have a0mk:=zam (zab (H:=H6) (a:=mk) (o:=.lst (ms++ [.ref m]))) ha0
     have h6a:H6 a0=none:=by rw [zai (jL a0mk)] at ha0;exact ha0
     have a0g:∀ (k:Nat) bg,gas[k]? =some bg→bg.1≠a0:=fun k bg h=>let ⟨_,_,_,⟨_,e,_⟩,_⟩:=g.each k bg h;zam e h6a
     have sp:∀ (k:Nat) u,(gas++ [(a0,([]:List Flt))])[k]? =some u→(gas[k]? =some u∧k < gas.length)∨(k=gas.length∧u=(a0,[])):=fun k u h=>by
      by_cases z:k < gas.length
      ·rw [qU z] at h
       exact .inl ⟨h,z⟩
      ·rw [qV (by omega)] at h
       have:k - gas.length=0:=by
        have:=(yF.mp h).1
        simp at this
        omega
       rw [this] at h
       cases h
       exact .inr ⟨by omega,rfl⟩
     refine ⟨ms++ [.ref m],ds++ [zbf w [f]],gas++ [(a0,[])],gas.length,(a0,[]),?_,fun e he=>?_,by simp,by rw [← g.ld];simp,fun k hk e=>?_,?_,fun k bg h hk=>?_⟩
     ·refine ⟨of7.write (m:=gp) (by simp) _,by rw [zai (jL z3)];exact em8,g.fm.snoc rm,by rw [yJ,yJ,g.ld];rfl,fun k bg h=>?_,by rw [zab,yK];rfl,fun k bg h=>?_,fun k1 k2 u1 u2 h1 h2 e=>?_,by rw [yJ,yX];omega⟩
      ·rcases sp k bg h with ⟨h',lk⟩ | ⟨e1,e2⟩
       ·rw [qU (by rw [g.ld];exact lk)]
        exact g.hd k bg h'
       ·subst e2
        refine ⟨f,by rw [e1,← g.ld];simp,fun y rr z=>by cases z⟩
      ·rcases sp k bg h with ⟨h',lk⟩ | ⟨e1,e2⟩
       ·obtain ⟨a1,a3,a4,⟨ys,a5,a6⟩,a7⟩:=g.each k bg h'
        exact ⟨a1,a3,a4,⟨ys,by rw [zai a4,zai (a0g k bg h'),zai a3];exact a5,a6⟩,a7⟩
       ·subst e2
        exact ⟨of6.same.free h6a,jL a0mk,jL a0gp,⟨[],by rw [zai (jL a0gp)];exact ea8,.nil⟩,qL _⟩
      ·rcases sp k1 u1 h1 with ⟨g1,_⟩ | ⟨g1,q1⟩ <;> rcases sp k2 u2 h2 with ⟨g2,_⟩ | ⟨g2,q2⟩
       ·exact g.one k1 k2 u1 u2 g1 g2 e
       ·rw [q2] at e;exact absurd e (a0g k1 u1 g1)
       ·rw [q1] at e;exact absurd e.symm (a0g k2 u2 g2)
       ·omega
     ·rcases yU.mp he with z | z
      ·exact oks e z
      ·rw [yE.mp z];exact zbX _
     ·rw [qU (by rw [g.ld];exact hk)] at e
      exact hno (yH e)
     ·rw [← ggs,zli fun k g' hg'=>?_]
      ·simp
      ·rw [yG] at hg'
       cases hz:gas[k]? with
       | none=>rw [hz] at hg';cases hg'
       | some bg=>
        rw [hz] at hg'
        cases hg'
        cases c:hitG (fun f=>zan w [f]) f bg.2 with
        | false=>rfl
        | true=>exact absurd (yH ((hit_at k bg hz).mp c)) hno
     ·rcases sp k bg h with ⟨h',lk⟩ | ⟨e1,e2⟩
      ·exact gne k bg h'
      ·exact absurd e1 hk
   ·rintro H9 ⟨ms',ds',gas',j,ag,g9,ok9,hj,hdj,hno,epg,gne9⟩
    obtain ⟨a1,a3,a4,⟨ys,a5,a6⟩,a7⟩:=g9.each j ag hj
    have lys:=a6.length
    rw [yB] at lys
    have lj:j < gas'.length:=(yF.mp hj).1
    have l1':=g9.l1
    refine ⟨_,rfl,_,rfl,.inl ⟨rfl,_,.of g9.em⟩,_,rfl,_,rfl,d,.ref m,rfl,dg g9.off.same,_,zbf w [f],ds',j,rfl,rm.mono g9.off.same,.lst (.of g9.em) (g9.fm.mono g9.off.same),zbX _,ok9,hdj,hno,gp,_,_,.ref ag.1,rfl,rfl,.of g9.ep,zb7 (by rw [yG,hj];rfl),.inl ⟨rfl,_,.of a5⟩,_,rfl,ag.1,ys,_,rfl,rfl,a5,big (by omega),?_⟩
    refine ⟨_,ms',ds',gas'.set j (ag.1,ag.2++ [f]),rfl,?_,by rw [st];exact epg,by rw [xZ];omega,fun k bg h=>?_⟩
    ·refine ⟨⟨g9.off.same.write a1 _,g9.off.out,fun mm hm=>?_⟩,by rw [zai (jL a3)];exact g9.em,g9.fm,by rw [xZ];exact g9.ld,fun k bg h=>?_,?_,fun k bg h=>?_,fun k1 k2 u1 u2 h1 h2 e=>?_,by rw [xZ];omega⟩
     ·have all9:mm=mk∨mm=gp:=by simpa using hm
      rcases all9 with z | z
      ·rw [z,zai (jL a3)];exact ⟨_,g9.em⟩
      ·rw [z,zai (jL a4)];exact ⟨_,g9.ep⟩
     ·rw [vS] at h
      by_cases z:j=k
      ·rw [if_pos z,if_pos lj] at h
       cases h
       obtain ⟨y,hy,hyy⟩:=g9.hd j ag hj
       rw [← z]
       cases c:ag.2 with
       | nil=>exact ⟨f,hdj,fun u rr e=>by cases e;rfl⟩
       | cons y2 rr2=>exact ⟨y,hy,fun u rr e=>by cases e;exact hyy y2 rr2 c⟩
      ·rw [if_neg z] at h
       exact g9.hd k bg h
     ·rw [zai (jL a4),g9.ep]
      refine congrArg (fun l=>some (HO.lst l)) ?_
      rw [yb4]
      exact (zk1 (by rw [yG,hj];rfl)).symm
     ·rw [vS] at h
      by_cases z:j=k
      ·rw [if_pos z,if_pos lj] at h
       cases h
       refine ⟨a1,a3,a4,⟨_,zab,?_⟩,by rw [yJ,yX];omega⟩
       rw [yK]
       exact a6.snoc rvH
      ·rw [if_neg z] at h
       obtain ⟨b1,b3,b4,⟨zs,b5,b6⟩,b7⟩:=g9.each k bg h
       exact ⟨b1,b3,b4,⟨zs,by rw [zai (fun y=>z (g9.one j k ag bg hj h y.symm))];exact b5,b6⟩,by omega⟩
     ·have back:∀ (k:Nat) u,(gas'.set j (ag.1,ag.2++ [f]))[k]? =some u→∃ u',gas'[k]? =some u'∧u'.1=u.1:=fun k u h=>by
       rw [vS] at h
       by_cases z:j=k
       ·rw [if_pos z,if_pos lj] at h
        cases h
        exact ⟨ag,by rw [← z];exact hj,rfl⟩
       ·rw [if_neg z] at h
        exact ⟨u,h,rfl⟩
      obtain ⟨v1,g1,q1⟩:=back k1 u1 h1
      obtain ⟨v2,g2,q2⟩:=back k2 u2 h2
      exact g9.one k1 k2 v1 v2 g1 g2 (by rw [q1,q2,e])
    ·rw [vS] at h
     by_cases z:j=k
     ·rw [if_pos z,if_pos lj] at h
      cases h
      simp
     ·rw [if_neg z] at h
      exact gne9 k bg h (jL z)
 ·rintro σ H5 ⟨o5,ms,ds,gas,rfl,g,ggs,gl,gne⟩
  rw [lx] at g ggs gl
  rw [yQ] at ggs
  have s5:=g.off.same
  refine ⟨_,rfl,_,rfl,fl,rfl,⟨_,.of (s5 _ _ efl)⟩,fun D hD=>zaN (K:=K) (a:=fl) (xs:=xs)
   (fun i H6=>∃ us,Off [D] H5 H6∧H6 D=some (.lst us)∧Reps K H us ((((allF w).take i).filter fun f=>decide (zan w [f]=zan w [])).map fltD))
   ⟨[],Off.start hD _,zab,.nil⟩ (fun i H6 _ ⟨_,of6,_⟩=>.of ((s5.trans of6.same) _ _ efl)) ?_ ?_⟩
  ·rintro i v H6 hv ⟨us,of6,eD,ru⟩
   obtain ⟨f,hf,b,rfl,hb⟩:=zaS fa hv
   have li:i < (allF w).length:=(yF.mp hf).1
   have et:(allF w).take (i+1)=(allF w).take i++ [f]:=by rw [yO,hf];rfl
   obtain ⟨m,em0,mk1⟩:=mk0 f (yH hf)
   have s6:=s5.trans of6.same
   have lu:=ru.length
   have lu2:=xY (fun f=>decide (zan w [f]=zan w [])) ((allF w).take i)
   rw [yP] at lu2
   rw [yB] at lu
   refine ⟨_,rfl,_,rfl,d,.ref m,rfl,by rw [← em0];exact DGet.t (s6 _ _ ed) (by rw [zkK];exact s6 _ _ hb),_,rfl,zbf w [f],zbf w [],(zcd mk1).mono s6,(zcd mr).mono s6,zbX _,zbX _,fun e=>⟨_,rfl,iteT ?_⟩,fun ne=>⟨_,rfl,iteF ?_⟩⟩
   ·refine ⟨_,rfl,us,eD,big (by omega),us++ [.ref b],of6.write (.head _) _,zab,?_⟩
    rw [et,vF,vD (by simpa using zdk e),yat,yK]
    exact ru.snoc (zdG (.of hb))
   ·refine ⟨us,of6,eD,?_⟩
    rw [et,vF,vC (by simpa using fun z:zan w [f]=zan w []=>ne (by unfold zbf;rw [z])),yat,jW]
    exact ru
  ·rintro H6 ⟨us,of6,eD,ru⟩
   rw [lx,yQ] at ru
   refine ⟨(by show 1≤yM;decide),fun T1 h1=>?_⟩
   have j1:=zad h1 (.lst [.ref D])
   refine ⟨gp,T1,_,_,rfl,rfl,(of6.same.trans j1) _ _ g.ep,zab,bigE (by rw [yB,yX];omega),fun R hR=>?_⟩
   have j2:=zad hR (.lst ((gas.map fun ag=>V.ref ag.1)++ [.ref D]))
   have jj:=of6.same.trans (j1.trans j2)
   have jH:=s5.trans jj
   refine q R _ jH (.lst (.of zab) ?_)
   rw [zjS wf,← ggs,zjR _ _ _ _ rfl,yK]
   refine (zik fun ag hag=>?_).append (.cons (.lst (.of ((j1.trans j2) _ _ eD)) (ru.mono jH)) .nil)
   obtain ⟨j,hj⟩:=jQ hag
   obtain ⟨_,_,_,⟨ys,a5,a6⟩,_⟩:=g.each j ag hj
   exact .lst (.of (jj _ _ a5)) (a6.mono jH)
theorem zb0:zat ["script","works","rows","right","faults","seen","fault","groups","cell","drawn","answers","due","papers","paper","other","row","told"] ["script"] (zak zi6):=⟨rfl,rfl,rfl,by decide+kernel,rfl,by decide+kernel,by decide+kernel⟩
theorem ok_law (T:Txt K mg t):FnOk P w K mg base CX0 18 t.f_law t.fd_law ["script"] (ziv K t.c_WELL):=by
 refine T.d_law.F.okB zb0 (fun vs H Q E h=>?_) (fun cdv A outer s H vs Q E hr h=>?_)
 ·obtain ⟨a,ns,rfl,_⟩:=h
  rfl
 obtain ⟨a,ns,rfl,hS,h63,hw,q⟩:=h
 have hu64:=hr.units
 have hu1:=zgn hr
 refine ⟨_,(zae (zal (k:=1) zb0.nd rfl (Or.inr rfl) (zaj (zjC T) (hr.mono (by decide)) rfl T.d_law_works.m T.d_law_works.F.kp T.d_law_works.b .nil zaC (zaa (bpv 0) (zaa zag (zaa zag (zac))))))
  (zae (zal (k:=2) zb0.nd rfl (Or.inl rfl) (zaj (zkF T) (hr.mono (by decide)) rfl T.d_law_rows.m T.d_law_rows.F.kp T.d_law_rows.b .nil zaC (zaa (zas zaL (bpv 1) zag (fun _ _=>rfl)) (zac))))
  (zae (ze6 (k:=3) rfl (N:=["row","works"]) (n:=1) (cap:=[1]) (zbc rfl rfl) zb0.nd rfl rfl (zaz (bpv 2)) (zaF (by decide)) (fun _ _ _ _=>(zah (k:=0) (show (["row","works"]:List Str).Nodup by decide+kernel) rfl (Or.inl rfl))) (fun _ _ _ _=>zaI) (fun _ _ _ _=>(zaj (zf5 T) (hr.mono (by decide)) rfl T.d_law_stuck.m T.d_law_stuck.F.kp T.d_law_stuck.b .nil zaC (zaa (bpv 1) (zaa (zau zac) (zaa (bpv 0) (zac)))))) rfl)
  (zae (zal (k:=4) zb0.nd rfl (Or.inl rfl) (zaj (ziJ T) (hr.mono (by decide)) rfl T.d_law_faults.m T.d_law_faults.F.kp T.d_law_faults.b .nil zaC (zaa (bpv 1) (zac))))
  (zae (zal (k:=5) zb0.nd rfl (Or.inr rfl) zcn)
  (zae (zaE qA rfl (zaz (bpv 4)) (zah (k:=6) zb0.nd rfl (Or.inr rfl)) (zaf (ziV hu1 (bpv 5) (bpv 6) (zaJ rfl (N:=["row","works","fault"]) (n:=1) (cap:=[1,6]) (zbc rfl rfl) (zaz (bpv 2)) (zaF (by decide)) (fun _ _ _ _=>(zah (k:=0) (show (["row","works","fault"]:List Str).Nodup by decide+kernel) rfl (Or.inl rfl))) (fun _ _ _ _=>zaI) (fun _ _ _ _=>(zaj (zf5 T) (hr.mono (by decide)) rfl T.d_law_stuck.m T.d_law_stuck.F.kp T.d_law_stuck.b .nil zaC (zaa (bpv 1) (zaa (zau (zaa (bpv 2) (zac))) (zaa (bpv 0) (zac))))))) rfl)))
  (zae (zal (k:=7) zb0.nd rfl (Or.inl rfl) (zaj (zih T) (hr.mono (by decide)) rfl T.d_law_groups.m T.d_law_groups.F.kp T.d_law_groups.b .nil zaC (zaa (bpv 4) (zaa (bpv 5) (zaa (bpv 3) (zac))))))
  (zae (zaP (zax (zf8 hu64) (zaj (zhe T) (hr.mono (by decide)) rfl T.d_fault_groups.m T.d_fault_groups.F.kp T.d_fault_groups.b .nil zaC (zaa (bpv 1) (zac))) (bpv 7) (zaO _)) (zaf (zap zfb)) zaA)
  (zae (zal (k:=8) zb0.nd rfl (Or.inl rfl) (zaj (zdc T) (hr.mono (by decide)) rfl T.d_law_cell_at.m T.d_law_cell_at.F.kp T.d_law_cell_at.b .nil zaC (zaa (bpv 0) (zaa zag (zac)))))
  (zae (zal (k:=9) zb0.nd rfl (Or.inr rfl) (zas za0 (bpv 4) (zao zd8 (zao ziC (bpv 8) zag) (zaK zaD rfl T.z_len xA (zaa (bpv 4) (zac)))) (fun _ _=>rfl)))
  (zae (ze6 (k:=10) rfl (N:=["row","outputs"]) (n:=2) (cap:=[]) (zbc rfl rfl) zb0.nd rfl rfl (zmE rfl T.z_zip (zaa (bpv 2) (zaa (zbz hu1 (bpv 5) (bpv 9) (fun _ _=>rfl)) (zac)))) (zcs (by decide) (by decide)) (fun _ _ _ _=>(zc6 (K:=K) (n:=2) rfl (zar (zah (k:=0) (show (["row","outputs"]:List Str).Nodup by decide+kernel) rfl (Or.inl rfl)) (zar (zah (k:=1) (show (["row","outputs"]:List Str).Nodup by decide+kernel) rfl (Or.inl rfl)) za1)))) (fun _ _ _ _=>zaI) (fun _ _ _ _=>(zaG (zaa (zbw (zfy (K:=K)) rfl T.z_list yay (zaa (bpv 0) (zac))) (zaa (zbw (zfy (K:=K)) rfl T.z_list yay (zaa (bpv 1) (zac))) (zac))))) rfl)
  (zae (ze6 (k:=11) rfl (N:=["fault","seen","drawn"]) (n:=1) (cap:=[5,9]) (zbc rfl rfl) zb0.nd rfl rfl (zaz (bpv 4)) (zaF (by decide)) (fun _ _ _ _=>(zah (k:=0) (show (["fault","seen","drawn"]:List Str).Nodup by decide+kernel) rfl (Or.inl rfl))) (fun _ _ _ _=>(zgy (zax (zkB (K:=K) hu64) (zbz hu1 (bpv 1) (bpv 0) (fun _ _=>rfl)) (zbz hu1 (bpv 1) (bpv 2) (fun _ _=>rfl)) (zaO _)))) (fun _ _ _ _=>(bpv 0)) rfl)
  (zae (zaP (zax (zns hu64) (zbz hu1 (bpv 5) (bpv 9) (fun _ _=>rfl)) (bpv 3) (zaO _)) (zaf (zal (k:=11) zb0.nd rfl (Or.inl rfl) (zao zbS (zau (zaa (zaG (zaa zay (zac))) (zac))) (bpv 11)))) zaA)
  (zae (zaP (zax (zf8 hu64) (zaj (zjq T) (hr.mono (by decide)) rfl T.d_what_fits.m T.d_what_fits.F.kp T.d_what_fits.b .nil zaC (zaa (bpv 1) (zaa (bpv 10) (zac)))) (bpv 11) (zaO _)) (zaf (zap zfb)) zaA)
  (zae (zal (k:=12) zb0.nd rfl (Or.inl rfl) (zau zac))
  (zae (zaE qA rfl (zaz (bpv 4)) (zah (k:=6) zb0.nd rfl (Or.inr rfl)) (zae (zal (k:=15) zb0.nd rfl (Or.inl rfl) (zaj (zgc T) (hr.mono (by decide)) rfl T.d_law_first.m T.d_law_first.F.kp T.d_law_first.b .nil zaC (zaa (bpv 2) (zaa (zbz hu1 (bpv 5) (bpv 6) (fun _ _=>rfl)) (zaa (bpv 3) (zac))))))
  (zae (zal (k:=16) zb0.nd rfl (Or.inl rfl) (zaj (zi4 T) (hr.mono (by decide)) rfl T.d_test_told.m T.d_test_told.F.kp T.d_test_told.b .nil zaC (zaa (bpv 1) (zaa (zau (zaa (bpv 6) (zac))) (zac)))))
  (zae (zaP (zgJ (zpb (zax (zf8 hu64) (zaj (zii T) (hr.mono (by decide)) rfl T.d_first_test.m T.d_first_test.F.kp T.d_first_test.b .nil zaC (zaa (bpv 1) (zaa (zau (zaa (bpv 6) (zac))) (zac)))) (bpv 15) (zaO _)) (znz (zax op_ne (zes zdS (zas zaL (bpv 16) zag (fun _ _=>rfl)) zay (zaO _)) (zpw (ziQ (bpv 15))) (zaO _))))) (zaf (zap zfb)) zaA)
  (zae (zaP (zgJ (zgV (zeT (ziQ (bpv 15))) (ze2 (zax (zf8 hu64) (bpv 16) (zaG (zaa zay (zaa (bpv 15) (zac)))) (zaO _))))) (zaf (zap zfb)) zaA)
  (zaf (zaP (zeT (zkm (bpv 15))) (zae (zba (zbW qJ qO qP zaY (bpv 12) (zaa (zas zaL (bpv 16) zag (fun _ _=>rfl)) (zac))))
  (zaf (zaP (zke (zij (zaj (zeC T) (hr.mono (by decide)) rfl T.d_paper_shows.m T.d_paper_shows.F.kp T.d_paper_shows.b .nil zaC (zaa (bpv 1) (zaa (zau (zaa (bpv 6) (zac))) (zaa (zas zaL (bpv 16) zag (fun _ _=>rfl)) (zac))))))) (zaf (zap zfb)) zaA))) zaA)))))))
  (zae (zaE qA rfl (zaz (zco zfH (bpv 12) zc8 (zcW zag))) (zah (k:=13) zb0.nd rfl (Or.inl rfl)) (zaf (zaP (zgJ (zgV (zax (zf8 hu64) (zbz hu1 (bpv 5) (bpv 9) (fun _ _=>rfl)) (bpv 3) (zaO _)) (ze2 (zij (zaj (zeC T) (hr.mono (by decide)) rfl T.d_paper_shows.m T.d_paper_shows.F.kp T.d_paper_shows.b .nil zaC (zaa (bpv 1) (zaa (zau (zaa (bpv 9) (zac))) (zaa (bpv 13) (zac))))))))) (zaf (zap zfb)) zaA)))
  (zae (zaE qA rfl (zaz (zoR (bpv 4) (zao zd8 (bpv 8) zag) zag)) (zah (k:=14) zb0.nd rfl (Or.inl rfl)) (zaf (zaP (zax (zf8 hu64) (zaj (zj5 T) (hr.mono (by decide)) rfl T.d_parted_at.m T.d_parted_at.F.kp T.d_parted_at.b .nil zaC (zaa (bpv 1) (zaa (zau (zaa (bpv 9) (zac))) (zaa (zau (zaa (bpv 14) (zac))) (zac))))) (zaj (zgc T) (hr.mono (by decide)) rfl T.d_law_first.m T.d_law_first.F.kp T.d_law_first.b .nil zaC (zaa (bpv 2) (zaa (zbz hu1 (bpv 5) (bpv 9) (fun _ _=>rfl)) (zaa (zbz hu1 (bpv 5) (bpv 14) (fun _ _=>rfl)) (zac))))) (zaO _)) (zaf (zap zfb)) zaA)))
  (zaf (zap zfb)))))))))))))))))))),?_⟩
 refine ⟨_,rfl,a,ns,3,5,rfl,hS,by decide,by decide,by decide,fun r w H1 s1 rw1 wf i3=>?_⟩
 obtain ⟨a1,ga,oa,gs,os,ea,ha,hg,ho,rg,ro⟩:=zbr rw1
 cases ea
 have i1:=wf.i1
 have i6:=wf.i6
 have lf:=zdY wf
 have pos:=znH wf
 have many:=zbe w.ins.toNat
 have h64:=pow6 (n:=w.ins.toNat) (by omega)
 refine ⟨_,rfl,r,_,_,_,rfl,rfl,ha,rfl,w.ins,rfl,by omega,i6,fun R qs H2 s2 eR at2=>?_⟩
 have lq:=at2.len
 have rw2:=rw1.mono s2
 have lm:∀ fs,(zan w fs).length=(qs.map V.ref).length:=fun fs=>by unfold zan;rw [yB,yB];exact lq.symm
 refine ⟨_,rfl,R,rfl,⟨_,.of eR⟩,fun D hD=>zaN (K:=K) (a:=R) (xs:=qs.map V.ref)
  (fun i H4=>∃ xs,Off [D] H2 H4∧H4 D=some (.lst xs)∧Paired (fun v row=>∃ q,v= .ref q∧q≠D∧H4 q=some (.lst (row.map V.int))) xs ((zan w []).take i))
  ⟨[],Off.start hD _,zab,.nil⟩ (fun i H4 _ ⟨_,off,_⟩=>.of (off.same _ _ eR)) ?_ ?_⟩
 ·rintro i v H4 hv ⟨xs,off,eD,pr⟩
  rw [yG] at hv
  cases hz:qs[i]? with
  | none=>rw [hz] at hv;cases hv
  | some qq=>
   rw [hz] at hv
   cases hv
   obtain ⟨row,hrow,eq⟩:=at2.get hz
   have rr:=zb4 _ _ (yH hrow)
   have lp:=qI pr
   have li:i < qs.length:=(yF.mp hz).1
   rw [yP] at lp
   refine ⟨_,rfl,(by show 0≤yM;decide),fun B2 hB2=>?_⟩
   have k5:=zad hB2 (.lst [])
   refine ⟨_,rfl,.ref r,B2,qq,w,[],row,rfl,rw2.mono (off.same.trans k5),wf,.inl ⟨rfl,zab⟩,.of ((off.same.trans k5) _ _ eq),by rw [rr.1];omega,rr.2,fun r' H5 s5 n5 e5=>?_⟩
   have s45:=k5.trans s5
   have rD:r'≠D:=jL (zam (k5 _ _ eD) n5)
   refine ⟨xs,s45 _ _ eD,big (by omega),xs++ [.ref r'],(off.grow s45).write (.head _) _,zab,?_⟩
   rw [zg5 hrow]
   exact yac (Paired.mapP pr fun v row ⟨q,a1,a3,a4⟩=>⟨q,a1,a3,by rw [zai a3];exact s45 _ _ a4⟩) ⟨r',rfl,rD,by rw [zai rD];exact e5⟩
 rintro H4 ⟨xs0,off4,eD,pr0⟩
 rw [← lm [],yQ] at pr0
 have mR:zc2 H4 D (zan w []):=⟨xs0,eD,Paired.mapP pr0 fun v row ⟨q,a1,_,a4⟩=>⟨q,a1,a4⟩⟩
 have s24:=off4.same
 clear pr0
 refine ⟨_,rfl,.ref r,w,rfl,rw2.mono s24,wf,fun fl fs H7 s7 nfl efl fa=>?_⟩
 have s27:=s24.trans s7
 have lfs:=qI fa
 have pfs:(0:Int) < ((fs.length:Nat):Int):=by omega
 refine fun d hd=>?_
 have kd:=zad hd (.dT [])
 have ed8:(upd H7 d (.dT [])) d=some (.dT []):=zab
 have gS:Same H7 (hole d (upd H7 d (.dT []))):=zem kd hd
 have of8:=zcV ed8
 generalize upd H7 d (.dT [])=H8 at kd ed8 gS of8
 generalize hole d H8=G at gS of8
 have s2G:=s27.trans gS
 have s78:=kd
 refine ⟨_,rfl,fl,rfl,⟨_,.of (kd _ _ efl)⟩,zaV (K:=K) (a:=fl) (xs:=fs) (fun i σ H9=>∃ (o6:Option V) (kvs:List (List Key×V)),σ = [some (.ref a),some (.ref r),some (.ref R),some (.ref D),some (.ref fl),some (.ref d),o6,none,none,none,none,none,none,none,none,none,none]∧Off [d] G H9∧H9 d=some (.dT kvs)∧MkP (hole d H9) w kvs ((allF w).take i))
  ⟨_,[],rfl,of8,ed8,.nil⟩ (fun i σ H9 _ ⟨_,_,_,o,_⟩=>.of (o.same _ _ (gS _ _ efl))) ?_ ?_⟩
 ·rintro i v σ H9 hv ⟨o6,kvs,rfl,of9,ed9,mp⟩
  obtain ⟨f,hf,b,rfl,hb⟩:=zaS fa hv
  have li:i < (allF w).length:=(yF.mp hf).1
  have et:(allF w).take (i+1)=(allF w).take i++ [f]:=by rw [yO,hf];rfl
  have gf:=zbl (yH hf)
  have s79:=gS.trans of9.same
  have s29:=s27.trans s79
  refine ⟨_,rfl,R,rfl,⟨_,.of (s29 _ _ eR)⟩,fun D2 hD2=>zaN (K:=K) (a:=R) (xs:=qs.map V.ref)
   (fun i HA=>∃ xs,Off [D2] H9 HA∧HA D2=some (.lst xs)∧Paired (fun v row=>∃ q,v= .ref q∧q≠D2∧HA q=some (.lst (row.map V.int))) xs ((zan w [f]).take i))
   ⟨[],Off.start hD2 _,zab,.nil⟩ (fun i HA _ ⟨_,of,_⟩=>.of ((s29.trans of.same) _ _ eR)) ?_ ?_⟩
  ·rintro i v HA hv ⟨xs,ofA,eD2,pr3⟩
   rw [yG] at hv
   cases hz:qs[i]? with
   | none=>rw [hz] at hv;cases hv
   | some qq=>
    rw [hz] at hv
    cases hv
    obtain ⟨row,hrow,eq⟩:=at2.get hz
    have rr:=zb4 _ _ (yH hrow)
    have lp:=qI pr3
    have li:i < qs.length:=(yF.mp hz).1
    rw [yP] at lp
    have s2A:=s29.trans ofA.same
    refine ⟨_,rfl,_,rfl,(by show 1≤yM;decide),fun B2 hB2=>?_⟩
    have k5:=zad hB2 (.lst [.ref b])
    have b5:=(s79.trans (ofA.same.trans k5)) _ _ hb
    refine ⟨_,rfl,.ref r,B2,qq,w,[f],row,rfl,rw2.mono (s2A.trans k5),wf,.inr ⟨b,f,rfl,gf,zab,b5⟩,.of ((s2A.trans k5) _ _ eq),by rw [rr.1];omega,rr.2,fun r' H5' s5' n5 e5=>?_⟩
    have s45:=k5.trans s5'
    have rD:r'≠D2:=jL (zam (k5 _ _ eD2) n5)
    refine ⟨xs,s45 _ _ eD2,big (by omega),xs++ [.ref r'],(ofA.grow s45).write (.head _) _,zab,?_⟩
    rw [zg5 hrow]
    exact yac (Paired.mapP pr3 fun v row ⟨q,a1,a3,a4⟩=>⟨q,a1,a3,by rw [zai a3];exact s45 _ _ a4⟩) ⟨r',rfl,rD,by rw [zai rD];exact e5⟩
  ·rintro HA ⟨xs,ofA,eD2,pr3⟩
   rw [← lm [f],yQ] at pr3
   have mA:zc2 HA D2 (zan w [f]):=⟨xs,eD2,Paired.mapP pr3 fun v row ⟨q,a1,_,a4⟩=>⟨q,a1,a4⟩⟩
   have edA:=ofA.same _ _ ed9
   have lk:kvs.length≤400:=by
    have:=qI mp
    rw [yP] at this
    omega
   have nf:f∉(allF w).take i:=fun z=>by
    have nd:=zfJ w
    rw [← kI (i+1) (allF w),et] at nd
    exact (jG.mp (jG.mp nd).1).2.2 _ z _ (yE.mpr rfl) rfl
   have nv:=MkP.miss mp nf
   refine ⟨_,rfl,_,rfl,d,_,rfl,DPut.t (k:=fkK f) edA (by rw [zkK];exact (s79.trans ofA.same) _ _ hb) (big (by omega)),_,_,rfl,(of9.grow ofA.same).write (.head _) _,zab,?_⟩
   rw [zev _ nv,et]
   refine zcJ (Paired.mapP mp fun _ _ ⟨e1,m,e2,e3⟩=>⟨e1,m,e2,e3.mono (zjM ofA.same ed9 _)⟩) ⟨rfl,D2,rfl,(znf mA edA).mono (zjM (Same.refl _) edA _)⟩
 rintro σ H9 ⟨o6,kvs,rfl,of9,ed9,mp⟩
 rw [lfs,yQ] at mp
 have s79:=gS.trans of9.same
 have s29:=s27.trans s79
 have s49:=s7.trans s79
 have mk9:MkD H9 w kvs:=fun f hf=>let ⟨m,a1,a2⟩:=mp.hit f hf;⟨m,a1,a2.mono (zcV ed9).same⟩
 have mR9:=mR.mono s49
 have efl9:=s79 _ _ efl
 have fa9:=fa.mono s79
 have rw9:=rw2.mono s29
 have eR9:=s29 _ _ eR
 have at9:=at2.mono s29
 have hw9:=hw.same (s1.trans (s2.trans s29))
 have hS9:=(s1.trans (s2.trans s29)).seq hS
 clear mp of9 mR efl fa
 clear s49 s29 s79 s78 kd gS of8 s2G s27 s24 s7
 refine ⟨_,rfl,_,rfl,_,rfl,fl,d,D,fs,kvs,w,rfl,efl9,fa9,ed9,mk9,mR9,wf,fun gr H10 s10 rgr=>?_⟩
 refine ⟨_,rfl,.ref r,w,rfl,rw9.mono s10,wf,fun fr gas H11 s11 nfr efr eachr egas=>?_⟩
 have rfr:Rep K H11 (.ref fr) (.list ((zdg w).map gD)):=by
  rw [← egas]
  refine .lst (.of efr) (zik fun ag hag=>?_)
  obtain ⟨_,_,us,a5,a6⟩:=eachr ag hag
  exact .lst (.of a5) a6.reps
 refine ⟨_,rfl,_,_,rfr,rgr.mono s11,zjP w,zjP w,fun _=>⟨_,rfl,iteF ?_⟩,fun ne=>absurd rfl ne⟩
 have s911:=s10.trans s11
 refine ⟨_,rfl,a,ns,8,rfl,s911.seq hS9,fun cell=>?_⟩
 have t0:=kX (cell / 2) (show ((fs.length:Nat):Int)≠0 by omega)
 have t1:=kJ (cell / 2) pfs
 obtain ⟨dv,hdv,hdv2⟩:=atI_in t0 t1
 obtain ⟨f0,hf0,b0,rfl,hb0⟩:=zaS fa9 hdv2
 have mf0:=yH hf0
 have gf0:=zbl mf0
 obtain ⟨m0,em0,mk0⟩:=mk9 f0 mf0
 obtain ⟨xs1,ex1,px1⟩:=id mk0
 refine ⟨_,rfl,_,rfl,_,_,rfl,rfl,⟨by decide,by decide⟩,_,rfl,fl,_,rfl,.inl (.of (s911 _ _ efl9)),_,_,rfl,rfl,pfs,fl,_,_,_,rfl,rfl,.of (s911 _ _ efl9),hdv,?_⟩
 have dg:∀ {H7:Hp} {b:Addr} {f:Flt} {m:Addr},Same H9 H7→H9 b=some (.tup (f.place.map kV++ [.int f.worth]))→valV kvs (fkK f)=some (.ref m)→DGet H7 d (.ref b) (some (.ref m)):=fun {H7 b f m} s7 hb e=>by
  rw [← e]
  exact DGet.t (s7 _ _ ed9) (by rw [zkK];exact s7 _ _ hb)
 have lx1:=qI px1
 have lqr:(qs.map V.ref).length=xs1.length:=by rw [lx1,lm]
 obtain ⟨asked,eask⟩:∃ asked,(zaQ w.ins.toNat).zip (zan w [f0])=asked:=⟨_,rfl⟩
 have gask:∀ (k:Nat) row o,(zaQ w.ins.toNat)[k]? =some row→(zan w [f0])[k]? =some o→asked[k]? =some (row,o):=fun k row o h1 h2=>by
  rw [← eask]
  exact ya6.mpr ⟨h1,h2⟩
 have lask:asked.length=(qs.map V.ref).length:=by
  rw [← eask,List.length_zip,lm,yB,lq]
  omega
 have hA:zjv w (zan w (nmF (some f0))) asked:=⟨fun p hp=>by
  obtain ⟨k,hk⟩:=jQ hp
  rw [← eask] at hk
  obtain ⟨h1,h2⟩:=ya6.mp hk
  exact ⟨k,h1,h2⟩,fun k row said h1 h2=>yH (gask k row said h1 h2)⟩
 refine ⟨_,rfl,_,rfl,_,rfl,d,.ref m0,rfl,dg s911 hb0 em0,R,m0,_,_,rfl,s911 _ _ eR9,s911 _ _ ex1,fun DA hDA=>zoV lqr (fun j Hx=>∃ (G:Hp) (us:List V),Off [DA] G Hx∧Same H11 G∧Hx DA=some (.lst us)∧Reps K G us ((asked.take j).map askD)∧us.length≤j)
  ⟨H11,[],Off.start hDA _,Same.refl _,zab,.nil,yN _⟩ (fun j Hx _ ⟨G,_,of,sg,_⟩=>⟨(s911.trans (sg.trans of.same)) _ _ eR9,(s911.trans (sg.trans of.same)) _ _ ex1⟩) ?_ ?_⟩
 ·rintro j x y Hx T1 hx hy ⟨G,us,of,sg,eDA,ru,lu⟩ hT
  rw [yG] at hx
  cases hz:qs[j]? with
  | none=>rw [hz] at hx;cases hx
  | some qq=>
   rw [hz] at hx
   cases hx
   obtain ⟨row,hrow,erow⟩:=at9.get hz
   obtain ⟨orow,horow,q2,rfl,eq2⟩:=zaS px1 hy
   have aj:=gask j row orow hrow horow
   have lj:j < qs.length:=(yF.mp hz).1
   have o0:=of.lay hT (.tup [.ref qq,.ref q2])
   have a0:=of.add hT (.tup [.ref qq,.ref q2])
   have k0:=zad hT (.tup [.ref qq,.ref q2])
   have s9x:=s911.trans (sg.trans (of.same.trans k0))
   refine ⟨T1,_,rfl,.of zab,rfl,_,_,rfl,_,_,rfl,rfl,?_⟩
   refine ⟨_,rfl,qq,_,rfl,.inl (.of (s9x _ _ erow)),fun l1 h1=>?_⟩
   have k1:=zad h1 (.lst (row.map V.int))
   have o1:=o0.lay h1 (.lst (row.map V.int))
   have a1:=o0.add h1 (.lst (row.map V.int))
   refine ⟨_,rfl,q2,_,rfl,.inl (.of ((s9x.trans k1) _ _ eq2)),fun l2 h2=>?_⟩
   have k2:=zad h2 (.lst (orow.map V.int))
   have o2:=o1.lay h2 (.lst (orow.map V.int))
   have a2:=o1.add h2 (.lst (orow.map V.int))
   refine ⟨(by show 2≤yM;decide),fun T2 h3=>?_⟩
   have k3:=zad h3 (.tup [.ref l1,.ref l2])
   have o3:=o2.lay h3 (.tup [.ref l1,.ref l2])
   have a3:=o2.add h3 (.tup [.ref l1,.ref l2])
   refine ⟨us,(k0.trans (k1.trans (k2.trans k3))) _ _ eDA,big (by omega),_,us++ [.ref T2],o3.write (.head _) _,sg.trans (a0.trans (a1.trans (a2.trans a3))),zab,?_,by rw [yJ];show _+1≤_;omega⟩
   rw [yO,aj,yK]
   refine (ru.mono (a0.trans (a1.trans (a2.trans a3)))).append (.cons (.tup (xs:=[.ref l1,.ref l2]) (.of zab) (.cons (.lst (.of ((a2.trans a3) _ _ zab)) (Reps.ints _)) (.cons (.lst (.of (a3 _ _ zab)) (Reps.ints _)) .nil))) .nil)
 rintro H12 ⟨G12,us12,of12,sg12,eDA,ru12,lu12⟩
 rw [← lask,yQ] at ru12
 have s1112:=sg12.trans of12.same
 have s912:=s911.trans s1112
 have rA:Rep K H12 (.ref DA) (.list (asked.map askD)):=.lst (.of eDA) (ru12.mono of12.same)
 refine ⟨_,rfl,fl,rfl,⟨_,.of (s912 _ _ efl9)⟩,fun DU hDU=>zaN (K:=K) (a:=fl) (xs:=fs)
  (fun i H6=>∃ us,Off [DU] H12 H6∧H6 DU=some (.lst us)∧Reps K H9 us ((((allF w).take i).filter fun f=>decide (zan w [f]=zan w [f0])).map fltD))
  ⟨[],Off.start hDU _,zab,.nil⟩ (fun i H6 _ ⟨_,of6,_⟩=>.of ((s912.trans of6.same) _ _ efl9)) ?_ ?_⟩
 ·rintro i v H6 hv ⟨us,of6,eD6,ru⟩
  obtain ⟨f,hf,b,rfl,hb⟩:=zaS fa9 hv
  have li:i < (allF w).length:=(yF.mp hf).1
  have et:(allF w).take (i+1)=(allF w).take i++ [f]:=by rw [yO,hf];rfl
  obtain ⟨m,em,mk1⟩:=mk9 f (yH hf)
  have s6:=s912.trans of6.same
  have lu:=ru.length
  have lu2:=xY (fun f=>decide (zan w [f]=zan w [f0])) ((allF w).take i)
  rw [yP] at lu2
  rw [yB] at lu
  refine ⟨_,rfl,_,rfl,d,.ref m,rfl,dg s6 hb em,_,rfl,_,rfl,d,.ref m0,rfl,dg s6 hb0 em0,zbf w [f],zbf w [f0],(zcd mk1).mono s6,(zcd mk0).mono s6,zbX _,zbX _,fun e=>⟨_,rfl,iteT ?_⟩,fun ne=>⟨_,rfl,iteF ?_⟩⟩
  ·refine ⟨_,rfl,us,eD6,big (by omega),us++ [.ref b],of6.write (.head _) _,zab,?_⟩
   rw [et,vF,vD (by simpa using zdk e),yat,yK]
   exact ru.snoc (zdG (.of hb))
  ·refine ⟨us,of6,eD6,?_⟩
   rw [et,vF,vC (by simpa using fun z:zan w [f]=zan w [f0]=>ne (by unfold zbf;rw [z])),yat,jW]
   exact ru
 rintro H13 ⟨us13,of13,eDU,ru13⟩
 rw [lfs,yQ] at ru13
 have s1213:=of13.same
 have s913:=s912.trans s1213
 have lu13:=ru13.length
 have lu13b:=xY (fun f=>decide (zan w [f]=zan w [f0])) (allF w)
 rw [yB] at lu13
 have nms:((allF w).filter fun f=>decide (zan w [f]=zan w [f0])).map fltD=(((allF w).filter fun f=>decide (zan w [f]=zan w [f0])).map some).map nmD:=by rw [kY];rfl
 refine' joinXW (α :=Addr) (C:=fun v Hx=>Same H13 Hx∧Rep K Hx (.ref v) (.list ((zmk w (some f0)).map nmD))) (st:=fun v=>[some (.ref a),some (.ref r),some (.ref R),some (.ref D),some (.ref fl),some (.ref d),o6,some (.ref gr),some (.int cell),some (.ref b0),some (.ref DA),some (.ref v),none,none,none,none,none]) (fun rest=>_) _
 rotate_left
 ·refine ⟨_,rfl,_,rfl,d,.ref m0,rfl,dg s913 hb0 em0,_,rfl,zbf w [f0],zbf w [],(zcd mk0).mono s913,(zcd mR9).mono s913,zbX _,zbX _,fun e=>⟨_,rfl,iteT ?_⟩,fun ne=>⟨_,rfl,iteF (rest DU H13 ⟨Same.refl _,?_⟩)⟩⟩
  ·refine ⟨(by show 1≤yM;decide),fun T1 h1=>?_⟩
   have k1:=zad h1 (.tup [.str "well"])
   refine ⟨(by show 1≤yM;decide),fun L1 h2=>?_⟩
   have k2:=zad h2 (.lst [.ref T1])
   refine ⟨_,rfl,L1,DU,_,_,rfl,rfl,zab,(k1.trans k2) _ _ eDU,bigE (by rw [yX];omega),fun C1 h3=>?_⟩
   have k3:=zad h3 (.lst ([.ref T1]++us13))
   refine rest C1 _ ⟨k1.trans (k2.trans k3),?_⟩
   rw [same9 wf mf0,if_pos (zdk e),yK,← nms]
   exact .lst (.of zab) (.append (.cons (.tup (.of ((k2.trans k3) _ _ zab)) (.cons (.str _) .nil)) .nil) (ru13.mono (s913.trans (k1.trans (k2.trans k3)))))
  ·rw [same9 wf mf0,if_neg (fun z=>ne (by unfold zbf;rw [z])),yby,← nms]
   exact .lst (.of eDU) (ru13.mono s913)
 rintro DV H14 ⟨s1314,rV⟩
 have s914:=s913.trans s1314
 have sub:∀ nm∈zmk w (some f0),nm∈allN w:=fun nm h=>(vU.mp h).1
 refine ⟨_,rfl,_,rfl,.ref r,.ref DA,w,asked,rfl,rw9.mono s914,wf,rA.mono (s1213.trans s1314),hA.ok wf,hw9.same s914,fun L us H15 s15 nL eL ru=>?_⟩
 rw [znV wf (jU _ (yY.mpr ⟨f0,mf0,rfl⟩)) hA] at ru
 refine ⟨_,rfl,_,_,.lst (.of eL) ru,rV.mono s15,zo2 sub,zo2 sub,fun _=>⟨_,rfl,iteF ?_⟩,fun ne=>absurd rfl ne⟩
 have s915:=s914.trans s15
 clear ru eL nL rV ru13 rA ru12
 refine ⟨(by show 0≤yM;decide),fun P hP=>?_⟩
 have kP:=zad hP (.lst [])
 have eP16:(upd H15 P (.lst [])) P=some (.lst []):=zab
 have gP:Same H15 (hole P (upd H15 P (.lst []))):=zem kP hP
 have ofP:=zcV eP16
 generalize upd H15 P (.lst [])=H16 at kP eP16 gP ofP
 generalize hole P H16=G16 at gP ofP
 have s9G:=s915.trans gP
 have s916:=s915.trans kP
 have one:∀ {f:Flt},f∈allF w→∀ g∈[f],zfc w g:=fun h g hg=>by rw [yE.mp hg];exact zbl h
 have oneb:∀ {f:Flt},f∈allF w→∀ g∈[f],g.worth=0∨g.worth=1:=fun h g hg=>by rw [yE.mp hg];exact (zbl h).2
 refine ⟨_,rfl,fl,rfl,⟨_,.of (s916 _ _ efl9)⟩,zaV (K:=K) (a:=fl) (xs:=fs) (fun i σ H9'=>∃ (o6' o15 o16:Option V) (us:List V),σ = [some (.ref a),some (.ref r),some (.ref R),some (.ref D),some (.ref fl),some (.ref d),o6',some (.ref gr),some (.int cell),some (.ref b0),some (.ref DA),some (.ref DV),some (.ref P),none,none,o15,o16]∧Off [P] G16 H9'∧H9' P=some (.lst us)∧us.length≤i∧∀ v∈us,∃ pp,Rep K H9' v (pprD pp)∧dep pp < 9)
  ⟨_,_,_,[],rfl,ofP,eP16,yN _,fun _ h=>nomatch h⟩ (fun i σ H9' _ ⟨_,_,_,_,_,o,_⟩=>.of ((s9G.trans o.same) _ _ efl9)) ?_ ?_⟩
 ·rintro i v σ H17 hv ⟨o6',o15,o16,us,rfl,of17,eP17,lu,pps⟩
  obtain ⟨f,hf,b,rfl,hb⟩:=zaS fa9 hv
  have li:i < (allF w).length:=(yF.mp hf).1
  have mf:=yH hf
  obtain ⟨m,em,mk1⟩:=mk9 f mf
  have s917:=s9G.trans of17.same
  refine ⟨_,rfl,_,rfl,_,rfl,d,.ref m,rfl,dg s917 hb em,_,rfl,R,m,D,qs,w,[f],[],rfl,s917 _ _ eR9,at9.mono s917,mk1.mono s917,mR9.mono s917,wf,fun rv hrv=>?_⟩
  refine ⟨_,rfl,_,rfl,(by show 1≤yM;decide),fun L1 h1=>?_⟩
  have k1:=zad h1 (.lst [.ref b])
  have s918:=s917.trans k1
  have rb:∀ {Hq:Hp},Same H9 Hq→Rep K Hq (.ref b) (fltD f):=fun sq=>zdG (.of (sq _ _ hb))
  refine ⟨.ref r,.ref L1,w,[f],rfl,rw9.mono s918,wf,.lst (.of zab) (.cons (rb s918) .nil),one mf,zhE f,by show 1≤1000;decide,fun tt H19 s19 ntt told=>?_⟩
  have s1719:=k1.trans s19
  have s919:=s917.trans s1719
  refine ⟨_,rfl,_,rfl,(by show 1≤yM;decide),fun L2 h2=>?_⟩
  have k2:=zad h2 (.lst [.ref b])
  have s920:=s919.trans k2
  refine ⟨.ref r,.ref L2,w,[f],rfl,rw9.mono s920,wf,.lst (.of zab) (.cons (rb s920) .nil),one mf,zhE f,by show 1≤1000;decide,fun fv H21 s21 hfv=>?_⟩
  have s1921:=k2.trans s21
  have s1721:=s1719.trans s1921
  have s921:=s919.trans s1921
  have rv21:=hrv.mono s1721
  refine ⟨_,rfl,optD (zbo w [f] []),optD (zbo w [f] []),ziU (zkT hfv),ziU rv21,zk3 _,zk3 _,fun _=>⟨_,rfl,iteF ?_⟩,fun ne=>absurd rfl ne⟩
  have eP21:=s1721 _ _ eP17
  have pps21:∀ v∈us,∃ pp,Rep K H21 v (pprD pp)∧dep pp < 9:=fun v hv=>let ⟨pp,a1,a2⟩:=pps v hv;⟨pp,a1.mono s1721,a2⟩
  rcases told with ⟨e0,pv,et,rp⟩ | ⟨row,q0,e0,et,_,eq0⟩
  ·rw [e0] at rv21
   cases (show rv= .non from rv21)
   have et21:=s1921 _ _ et
   refine ⟨_,rfl,tt,_,_,_,rfl,rfl,.of et21,rfl,rfl,_,rfl,rfl,_,rfl,iteF ?_⟩
   refine ⟨_,rfl,_,rfl,iteF (iteF ?_)⟩
   refine ⟨_,rfl,_,rfl,iteT ?_⟩
   refine ⟨_,rfl,.inl ⟨rfl,_,.of eP21⟩,_,rfl,tt,_,_,_,rfl,rfl,.of et21,rfl,P,us,_,rfl,rfl,eP21,big (by omega),?_⟩
   have sbP:ziG P H21 (upd H21 P (.lst (us++ [pv]))):=(ziG.refl P H21).write _
   have of22:=(of17.grow s1721).write (m:=P) (.head _) (.lst (us++ [pv]))
   have eP22:(upd H21 P (.lst (us++ [pv]))) P=some (.lst (us++ [pv])):=zab
   have dp:dep (zbD w [f] w.ins.toNat []) < 9:=by
    have:=zfN w [f] w.ins.toNat []
    omega
   have rp22:=zlB sbP eP21 (rp.mono s1921)
   have pps22:∀ v∈us++ [pv],∃ pp,Rep K (upd H21 P (.lst (us++ [pv]))) v (pprD pp)∧dep pp < 9:=fun v hv=>by
    rcases yU.mp hv with hv | hv
    ·obtain ⟨pp,a1,a2⟩:=pps21 v hv
     exact ⟨pp,zlB sbP eP21 a1,a2⟩
    ·rw [yE.mp hv]
     exact ⟨_,rp22,dp⟩
   have et22:(upd H21 P (.lst (us++ [pv]))) tt=some (.tup [.str "paper",pv]):=by rw [zai (fun z=>by rw [z,eP21] at et21;cases et21)];exact et21
   generalize upd H21 P (.lst (us++ [pv]))=H22 at of22 eP22 rp22 pps22 et22
   have s922:=s9G.trans of22.same
   refine ⟨_,rfl,_,rfl,(by show 1≤yM;decide),fun L3 h3=>?_⟩
   have k3:=zad h3 (.lst [.ref b])
   have s923:=s922.trans k3
   refine ⟨_,rfl,tt,_,_,_,rfl,rfl,.of (k3 _ _ et22),rfl,?_⟩
   refine ⟨.ref r,.ref L3,pv,w,[f],zbD w [f] w.ins.toNat [],rfl,rw9.mono s923,wf,.lst (.of zab) (.cons (rb s923) .nil),one mf,zhE f,by show 1≤1000;decide,rp22.mono k3,dp,fun H24 s24=>?_⟩
   have yes:zcO w [f] (qG w.ins.toNat none) (zbD w [f] w.ins.toNat [])=true:=zed (oneb mf) wf e0 w.ins.toNat [] (fun _ h=>nomatch h) (by simp;omega)
   rw [yes]
   have s2224:=k3.trans s24
   exact ⟨_,rfl,iteF ⟨_,_,_,us++ [pv],rfl,of22.grow s2224,s2224 _ _ eP22,by rw [yJ];show _+1≤_;omega,fun v hv=>let ⟨pp,a1,a2⟩:=pps22 v hv;⟨pp,a1.mono s2224,a2⟩⟩⟩
  ·rw [e0] at rv21
   obtain ⟨q1,rfl,eq1⟩:=rv21
   have et21:=s1921 _ _ et
   refine ⟨_,rfl,tt,_,_,_,rfl,rfl,.of et21,rfl,rfl,_,rfl,rfl,_,rfl,iteF ?_⟩
   refine ⟨_,rfl,_,rfl,iteT ?_⟩
   refine ⟨_,rfl,_,rfl,(by show 2≤yM;decide),fun T2 h3=>?_⟩
   have k3:=zad h3 (.tup [.str "row",.ref q1])
   refine ⟨.tuple [.str "row",rowD row],.tuple [.str "row",rowD row],.tup (.of (k3 _ _ et21)) (.cons (.str _) (.cons (.lst (.of (k3 _ _ (s1921 _ _ eq0))) (Reps.ints _)) .nil)),.tup (.of zab) (.cons (.str _) (.cons (.lst (.of (k3 _ _ eq1)) (Reps.ints _)) .nil)),zmB row,zmB row,fun _=>⟨_,rfl,iteF ?_⟩,fun ne=>absurd rfl ne⟩
   refine ⟨_,rfl,_,rfl,iteF ?_⟩
   have s1725:=s1721.trans k3
   exact ⟨_,_,_,us,rfl,of17.grow s1725,s1725 _ _ eP17,by omega,fun v hv=>let ⟨pp,a1,a2⟩:=pps v hv;⟨pp,a1.mono s1725,a2⟩⟩
 rintro σ H17 ⟨o6',o15,o16,us,rfl,of17,eP17,lu,pps⟩
 have s917:=s9G.trans of17.same
 have c3:cutV us none (some 3)=us.take 3:=zmS us
 refine ⟨_,rfl,_,rfl,P,_,rfl,.of eP17,fun C1 h1=>?_⟩
 rw [c3]
 have k1:=zad h1 (.lst (us.take 3))
 have eC:(upd H17 C1 (.lst (us.take 3))) C1=some (.lst (us.take 3)):=zab
 have pp18:∀ v∈us.take 3,∃ pp,Rep K (upd H17 C1 (.lst (us.take 3))) v (pprD pp)∧dep pp < 9:=fun v hv=>let ⟨pp,a1,a2⟩:=pps v (yaL hv);⟨pp,a1.mono k1,a2⟩
 have s918:=s917.trans k1
 generalize upd H17 C1 (.lst (us.take 3))=H18 at eC pp18 s918
 have rb0:∀ {Hq:Hp},Same H9 Hq→Rep K Hq (.ref b0) (fltD f0):=fun sq=>zdG (.of (sq _ _ hb0))
 refine ⟨C1,rfl,⟨_,.of eC⟩,zaV (K:=K) (a:=C1) (xs:=us.take 3) (fun i σ H9'=>∃ (o13:Option V),σ = [some (.ref a),some (.ref r),some (.ref R),some (.ref D),some (.ref fl),some (.ref d),o6',some (.ref gr),some (.int cell),some (.ref b0),some (.ref DA),some (.ref DV),some (.ref P),o13,none,o15,o16]∧Same H18 H9')
  ⟨_,rfl,Same.refl _⟩ (fun i σ H9' _ ⟨_,_,s⟩=>.of (s _ _ eC)) ?_ ?_⟩
 ·rintro i v σ H19 hv ⟨o13,rfl,s19⟩
  obtain ⟨pp,rp,dp⟩:=pp18 v (yH hv)
  have s919:=s918.trans s19
  refine ⟨_,rfl,_,rfl,d,.ref m0,rfl,dg s919 hb0 em0,_,rfl,zbf w [f0],zbf w [],(zcd mk0).mono s919,(zcd mR9).mono s919,zbX _,zbX _,fun _=>⟨_,rfl,iteF (iteF ⟨_,rfl,s19⟩)⟩,fun ne=>⟨_,rfl,iteT ?_⟩⟩
  refine ⟨_,rfl,_,rfl,(by show 1≤yM;decide),fun L1 h1=>?_⟩
  have k2:=zad h1 (.lst [.ref b0])
  have s920:=s919.trans k2
  refine ⟨_,rfl,.ref r,.ref L1,v,w,[f0],pp,rfl,rw9.mono s920,wf,.lst (.of zab) (.cons (rb0 s920) .nil),one mf0,zhE f0,by show 1≤1000;decide,rp.mono (s19.trans k2),dp,fun H21 s21=>?_⟩
  have no:zcO w [f0] (qG w.ins.toNat none) pp=false:=by
   cases z:zcO w [f0] (qG w.ins.toNat none) pp with
   | false=>rfl
   | true=>
    have nv:=zkp (oneb mf0) wf z
    exact absurd (by unfold zbf;rw [zkn nv]) ne
  rw [no]
  exact ⟨_,rfl,iteF ⟨_,rfl,s19.trans (k2.trans s21)⟩⟩
 rintro σ H19 ⟨o13,rfl,s19⟩
 have s919:=s918.trans s19
 refine ⟨_,rfl,_,rfl,_,_,rfl,rfl,(by show (0:Int) < 3;decide),fl,_,_,_,rfl,rfl,rfl,(by decide),.of (s919 _ _ efl9),fun C2 ys h2 mys lys=>?_⟩
 have k2:=zad h2 (.lst ys)
 have eC2:(upd H19 C2 (.lst ys)) C2=some (.lst ys):=zab
 have s920:=s919.trans k2
 generalize upd H19 C2 (.lst ys)=H20 at eC2 s920
 refine ⟨C2,rfl,⟨_,.of eC2⟩,zaV (K:=K) (a:=C2) (xs:=ys) (fun i σ H9'=>∃ (o14:Option V),σ = [some (.ref a),some (.ref r),some (.ref R),some (.ref D),some (.ref fl),some (.ref d),o6',some (.ref gr),some (.int cell),some (.ref b0),some (.ref DA),some (.ref DV),some (.ref P),o13,o14,o15,o16]∧Same H20 H9')
  ⟨_,rfl,Same.refl _⟩ (fun i σ H9' _ ⟨_,_,s⟩=>.of (s _ _ eC2)) ?_ ?_⟩
 ·rintro i v σ H21 hv ⟨o14,rfl,s21⟩
  obtain ⟨j,hj⟩:=jQ (mys v (yH hv))
  obtain ⟨f,hf,b,rfl,hb⟩:=zaS fa9 hj
  have mf:=yH hf
  obtain ⟨m,em,mk1⟩:=mk9 f mf
  have s921:=s920.trans s21
  refine ⟨_,rfl,_,rfl,(by show 1≤yM;decide),fun L1 h1=>?_⟩
  have k3:=zad h1 (.lst [.ref b0])
  refine ⟨_,rfl,(by show 1≤yM;decide),fun L2 h3=>?_⟩
  have k4:=zad h3 (.lst [.ref b])
  have s923:=s921.trans (k3.trans k4)
  refine ⟨.ref r,.ref L1,.ref L2,w,[f0],[f],rfl,rw9.mono s923,wf,.lst (.of (k4 _ _ zab)) (.cons (rb0 s923) .nil),one mf0,zhE f0,by show 1≤1000;decide,.lst (.of zab) (.cons (zdG (.of (s923 _ _ hb))) .nil),one mf,zhE f,by show 1≤1000;decide,fun pv H24 s24 hpv=>?_⟩
  have s924:=s923.trans s24
  refine ⟨_,rfl,_,rfl,_,rfl,d,.ref m0,rfl,dg s924 hb0 em0,_,rfl,_,rfl,d,.ref m,rfl,dg s924 hb em,R,m0,m,qs,w,[f0],[f],rfl,s924 _ _ eR9,at9.mono s924,mk0.mono s924,mk1.mono s924,wf,fun rv hrv=>?_⟩
  exact ⟨optD (zbo w [f0] [f]),optD (zbo w [f0] [f]),ziU (zkT hpv),ziU hrv,zk3 _,zk3 _,fun _=>⟨_,rfl,iteF ⟨_,rfl,s21.trans (k3.trans (k4.trans s24))⟩⟩,fun ne=>absurd rfl ne⟩
 ·rintro σ H21 ⟨o14,rfl,s21⟩
  exact q _
end
noncomputable def DfK (K:PySem.W.Frag) (x:Str) (st:Stmt) (f:Addr):Prop:=∃ (oc:Value) (od:Option Addr) (kV dc pm:Value) (an:Option Addr) (cd ct:Value) (sl:Array (Option Value)),PySem.W.nsIn K jD x=some (some (.ref f))∧K.lookup f=some ⟨oc,od,.func (PySem.W.fnOf x x (zb6 st) (zbN st) (zak st) .none kV dc pm an cd ct),sl⟩∧PySem.W.codeIn K cd x=true∧PySem.W.keepIn K (.ref f)=true
noncomputable def DfV (K:PySem.W.Frag) (x:Str) (st:Stmt) (f T:Addr) (kT:Tok):Prop:=∃ (oc:Value) (od:Option Addr) (kV dc pm:Value) (an:Option Addr) (cd ct:Value) (sl:Array (Option Value)) (cT:Value) (dT:Option Addr) (nT:Nat) (sT:Array (Option Value)),PySem.W.nsIn K jD x=some (some (.ref f))∧K.lookup f=some ⟨oc,od,.func (PySem.W.fnOf x x (zb6 st) (zbN st) (zak st) (.ref T) kV dc pm an cd ct),sl⟩∧PySem.W.codeIn K cd x=true∧PySem.W.keepIn K (.ref f)=true∧K.lookup T=some ⟨cT,dT,.seq #[.int 1 kT] nT,sT⟩
theorem DfK.mk {K:PySem.W.Frag}{h:Heap}{mg:Str→Option Value}{x:Str}{st:Stmt}{f:Addr}{c:Addr}{xs:List Str}(ku:TupK K c xs)(d:DfK K x st f)(X:K.In h)(G:h.Ns jD mg)(ps:List Str)
  (hb:∀ (kV doc pm:Value) (an:Option Addr) (cdv ct:Value) (us:List Value),us.length=ps.length→bindArgs (PySem.W.fnOf x x (zb6 st) (zbN st) (zak st) .none kV doc pm an cdv ct) ⟨us,[]⟩=pure (ps.zip us)):∃ fd,Def (zbV K c) mg x st ps f fd:=by
 obtain ⟨oc,od,kV,dc,pm,an,cd,ct,sl,a,l,cc,k⟩:=d
 exact ⟨_,zmI (st:=st) (zdT ku l) (zdm ku cc) (zdx ku l),(zmI (st:=st) (zdT ku l) (zdm ku cc) (zdx ku l)).binds hb,PySem.W.mg_of X G a⟩
theorem all_mk {l:ybC}{w:World}{K:PySem.W.Frag}{h:Heap}{mg:Str→Option Value}{fa f1 f2 f3 f4 f5 f6 f7 f8 f9 f10 f11 f12 f13 f14 f15 f16 f17 f18 f19 f20 f21 f22 f23 f24 f25 f26 f27 f28 f29 f30 f31 f32 f33 f34 f35 f36 f37 f38 f39 f40 f41 f42 f43 f44 f45 f46 f47 f48:Addr}(X:K.In h)(G:h.Ns jD mg)(hfa:mg "law" =some (.ref fa))
  (h1:DfK K "every_row" zdF f1)
  (h2:DfK K "check_row" zdB f2)
  {T3:Addr} {kT3:Tok} (h3:DfV K "gate_worth" zcp f3 T3 kT3)
  (h4:DfK K "every_fault" zcw f4)
  (h5:DfK K "stuck_places" zcm f5)
  {T6:Addr} {kT6:Tok} (h6:DfV K "worths_with" zb3 f6 T6 kT6)
  (h7:DfK K "leg_worths" zcY f7)
  {T8:Addr} {kT8:Tok} (h8:DfV K "outputs_with" zbO f8 T8 kT8)
  (h9:DfK K "outputs_seen" zcc f9)
  (h10:DfK K "rows_at_once" zcf f10)
  (h11:DfK K "outputs_in" zc1 f11)
  (h12:DfK K "seen_of_each" zch f12)
  (h13:DfK K "first_unlike" zcb f13)
  (h14:DfK K "unlike_numbers" zbP f14)
  (h15:DfK K "what_fits" zdI f15)
  (h16:DfK K "seen_of_fitting" zbK f16)
  (h17:DfK K "seen_of_all" zcv f17)
  (h18:DfK K "row_number" zc3 f18)
  (h19:DfK K "left_behind" zcx f19)
  (h20:DfK K "paper_shows" zcA f20)
  (h21:DfK K "is_let_by" zdE f21)
  (h22:DfK K "every_pairs" zcE f22)
  (h23:DfK K "input_pairs" zcy f23)
  (h24:DfK K "leg_pairs" zdK f24)
  (h25:DfK K "with_stuck" zcX f25)
  (h26:DfK K "gate_pairs" zcQ f26)
  (h27:DfK K "every_choice" zci f27)
  (h28:DfK K "chosen_pair" zcB f28)
  (h29:DfK K "outputs_alike" zbY f29)
  (h30:DfK K "are_alike" zdW f30)
  (h31:DfK K "first_test" zda f31)
  (h32:DfK K "test_told" zdL f32)
  (h33:DfK K "paper_behind" zcj f33)
  (h34:DfK K "parted_at" zdA f34)
  (h35:DfK K "fault_groups" zck f35)
  (h36:DfK K "_law_cell_at" zcF f36)
  (h37:DfK K "_law_stir" zeo f37)
  (h38:DfK K "_law_digit" zdJ f38)
  (h39:DfK K "_law_gate" zer f39)
  (h40:DfK K "_law_works" zdM f40)
  (h41:DfK K "_law_rows" zet f41)
  (h42:DfK K "_law_longer" zc5 f42)
  (h43:DfK K "_law_worth" zdR f43)
  (h44:DfK K "_law_stuck" zdX f44)
  (h45:DfK K "_law_faults" zcS f45)
  (h46:DfK K "_law_first" zdH f46)
  (h47:DfK K "_law_groups" zcU f47)
  (h48:DfK K "law" zi6 f48)
  (z1:PySem.W.nsIn K jD "all" =some none)
  (z2:PySem.W.nsIn K jD "dict" =some none)
  (z3:PySem.W.nsIn K jD "enumerate" =some none)
  (z4:PySem.W.nsIn K jD "int" =some none)
  (z5:PySem.W.nsIn K jD "len" =some none)
  (z6:PySem.W.nsIn K jD "list" =some none)
  (z7:PySem.W.nsIn K jD "min" =some none)
  (z8:PySem.W.nsIn K jD "range" =some none)
  (z9:PySem.W.nsIn K jD "set" =some none)
  (z10:PySem.W.nsIn K jD "sorted" =some none)
  (z11:PySem.W.nsIn K jD "sum" =some none)
  (z12:PySem.W.nsIn K jD "tuple" =some none)
  (z13:PySem.W.nsIn K jD "zip" =some none)
  {u1_:Addr} (au1:PySem.W.nsIn K jD "WELL" =some (some (.ref u1_))) (ku1:TupK K u1_ ["well"])
  {u2_:Addr} (au2:PySem.W.nsIn K jD "FOLDED_KINDS" =some (some (.ref u2_))) (ku2:TupK (zbV K u1_) u2_ ["and","or","odd"])
  :∃ (c:Addr) (fd:FuncData),TupK K c ["well"]∧(∀ (s:Shared) (v:Value),BindsTo s fd ⟨[v],[]⟩ [("script",v)])∧∀ base:Heap,(zbV K c).In base→base.Ns jD mg→FnOk l.prog w (zbV K c) mg base CX0 18 fa fd ["script"] (ziv (zbV K c) c):=by
 obtain ⟨oc,od,kVL,dcL,pmL,anL,cdL,ctL,sl,aL,lL,cL,kL⟩:=h48
 have e:=hfa.symm.trans (PySem.W.mg_of X G aL)
 cases e
 obtain ⟨e1,D1⟩:=h1.mk ku1 X G ["works"] fun _ _ _ _ _ _ us hl=>by obtain ⟨x0,e⟩:=ze3 hl;subst e;rfl
 obtain ⟨e2,D2⟩:=h2.mk ku1 X G ["works","row"] fun _ _ _ _ _ _ us hl=>by obtain ⟨x0,x1,e⟩:=zeL hl;subst e;rfl
 obtain ⟨oc,od,kV,dc,pm,an,cd,ct,sl,cT,dT,nT,sT,a3,l3,c3,k3,v3⟩:=h3
 have v3:=ziP ku1 v3
 have F3:=zkG (st:=zcp) (zdT ku1 l3) (zdm ku1 c3) (zdx ku1 l3)
 have b3:=F3.binds (ps:=["kind","worths","ones"]) (ds:=[]) fun _ _ _ _ _ _ s us X hl=>match us,hl with | [_,_,_],_=>PySem.W.binds_K X rfl v3 rfl rfl rfl
 have e3:=F3.binds (ps:=["kind","worths","ones"]) (ds:=[.int 1 kT3]) fun _ _ _ _ _ _ s us X hl=>match us,(show us.length=2 by rw [yJ] at hl;exact ybB hl) with | [_,_],_=>PySem.W.binds_K X rfl v3 rfl rfl rfl
 obtain ⟨e4,D4⟩:=h4.mk ku1 X G ["works"] fun _ _ _ _ _ _ us hl=>by obtain ⟨x0,e⟩:=ze3 hl;subst e;rfl
 obtain ⟨e5,D5⟩:=h5.mk ku1 X G ["works","faults"] fun _ _ _ _ _ _ us hl=>by obtain ⟨x0,x1,e⟩:=zeL hl;subst e;rfl
 obtain ⟨oc,od,kV,dc,pm,an,cd,ct,sl,cT,dT,nT,sT,a6,l6,c6,k6,v6⟩:=h6
 have v6:=ziP ku1 v6
 have F6:=zkG (st:=zb3) (zdT ku1 l6) (zdm ku1 c6) (zdx ku1 l6)
 have b6:=F6.binds (ps:=["works","stuck","row","ones"]) (ds:=[]) fun _ _ _ _ _ _ s us X hl=>match us,hl with | [_,_,_,_],_=>PySem.W.binds_K X rfl v6 rfl rfl rfl
 have e6:=F6.binds (ps:=["works","stuck","row","ones"]) (ds:=[.int 1 kT6]) fun _ _ _ _ _ _ s us X hl=>match us,(show us.length=3 by rw [yJ] at hl;exact ybB hl) with | [_,_,_],_=>PySem.W.binds_K X rfl v6 rfl rfl rfl
 obtain ⟨e7,D7⟩:=h7.mk ku1 X G ["stuck","gate","worths"] fun _ _ _ _ _ _ us hl=>by obtain ⟨x0,x1,x2,e⟩:=zeN hl;subst e;rfl
 obtain ⟨oc,od,kV,dc,pm,an,cd,ct,sl,cT,dT,nT,sT,a8,l8,c8,k8,v8⟩:=h8
 have v8:=ziP ku1 v8
 have F8:=zkG (st:=zbO) (zdT ku1 l8) (zdm ku1 c8) (zdx ku1 l8)
 have b8:=F8.binds (ps:=["works","stuck","row","ones"]) (ds:=[]) fun _ _ _ _ _ _ s us X hl=>match us,hl with | [_,_,_,_],_=>PySem.W.binds_K X rfl v8 rfl rfl rfl
 have e8:=F8.binds (ps:=["works","stuck","row","ones"]) (ds:=[.int 1 kT8]) fun _ _ _ _ _ _ s us X hl=>match us,(show us.length=3 by rw [yJ] at hl;exact ybB hl) with | [_,_,_],_=>PySem.W.binds_K X rfl v8 rfl rfl rfl
 obtain ⟨e9,D9⟩:=h9.mk ku1 X G ["works","stuck"] fun _ _ _ _ _ _ us hl=>by obtain ⟨x0,x1,e⟩:=zeL hl;subst e;rfl
 obtain ⟨e10,D10⟩:=h10.mk ku1 X G ["inputs"] fun _ _ _ _ _ _ us hl=>by obtain ⟨x0,e⟩:=ze3 hl;subst e;rfl
 obtain ⟨e11,D11⟩:=h11.mk ku1 X G ["seen","number"] fun _ _ _ _ _ _ us hl=>by obtain ⟨x0,x1,e⟩:=zeL hl;subst e;rfl
 obtain ⟨e12,D12⟩:=h12.mk ku1 X G ["works"] fun _ _ _ _ _ _ us hl=>by obtain ⟨x0,e⟩:=ze3 hl;subst e;rfl
 obtain ⟨e13,D13⟩:=h13.mk ku1 X G ["works","stuck","others"] fun _ _ _ _ _ _ us hl=>by obtain ⟨x0,x1,x2,e⟩:=zeN hl;subst e;rfl
 obtain ⟨e14,D14⟩:=h14.mk ku1 X G ["seen","others"] fun _ _ _ _ _ _ us hl=>by obtain ⟨x0,x1,e⟩:=zeL hl;subst e;rfl
 obtain ⟨e15,D15⟩:=h15.mk ku1 X G ["works","answers"] fun _ _ _ _ _ _ us hl=>by obtain ⟨x0,x1,e⟩:=zeL hl;subst e;rfl
 obtain ⟨e16,D16⟩:=h16.mk ku1 X G ["works","answers"] fun _ _ _ _ _ _ us hl=>by obtain ⟨x0,x1,e⟩:=zeL hl;subst e;rfl
 obtain ⟨e17,D17⟩:=h17.mk ku1 X G ["works"] fun _ _ _ _ _ _ us hl=>by obtain ⟨x0,e⟩:=ze3 hl;subst e;rfl
 obtain ⟨e18,D18⟩:=h18.mk ku1 X G ["row"] fun _ _ _ _ _ _ us hl=>by obtain ⟨x0,e⟩:=ze3 hl;subst e;rfl
 obtain ⟨e19,D19⟩:=h19.mk ku1 X G ["left","number","outputs"] fun _ _ _ _ _ _ us hl=>by obtain ⟨x0,x1,x2,e⟩:=zeN hl;subst e;rfl
 obtain ⟨e20,D20⟩:=h20.mk ku1 X G ["works","faults","paper"] fun _ _ _ _ _ _ us hl=>by obtain ⟨x0,x1,x2,e⟩:=zeN hl;subst e;rfl
 obtain ⟨e21,D21⟩:=h21.mk ku1 X G ["works","stuck","known","paper"] fun _ _ _ _ _ _ us hl=>by obtain ⟨x0,x1,x2,x3,e⟩:=lenV4 hl;subst e;rfl
 obtain ⟨e22,D22⟩:=h22.mk ku1 X G ["works","stuck","known"] fun _ _ _ _ _ _ us hl=>by obtain ⟨x0,x1,x2,e⟩:=zeN hl;subst e;rfl
 obtain ⟨e23,D23⟩:=h23.mk ku1 X G ["worth"] fun _ _ _ _ _ _ us hl=>by obtain ⟨x0,e⟩:=ze3 hl;subst e;rfl
 obtain ⟨e24,D24⟩:=h24.mk ku1 X G ["stuck","gate","wires"] fun _ _ _ _ _ _ us hl=>by obtain ⟨x0,x1,x2,e⟩:=zeN hl;subst e;rfl
 obtain ⟨e25,D25⟩:=h25.mk ku1 X G ["pairs","stuck","place"] fun _ _ _ _ _ _ us hl=>by obtain ⟨x0,x1,x2,e⟩:=zeN hl;subst e;rfl
 obtain ⟨e26,D26⟩:=h26.mk ku1 X G ["kind","legs"] fun _ _ _ _ _ _ us hl=>by obtain ⟨x0,x1,e⟩:=zeL hl;subst e;rfl
 obtain ⟨e27,D27⟩:=h27.mk ku1 X G ["legs"] fun _ _ _ _ _ _ us hl=>by obtain ⟨x0,e⟩:=ze3 hl;subst e;rfl
 obtain ⟨e28,D28⟩:=h28.mk ku1 X G ["kind","choice"] fun _ _ _ _ _ _ us hl=>by obtain ⟨x0,x1,e⟩:=zeL hl;subst e;rfl
 obtain ⟨e29,D29⟩:=h29.mk ku1 X G ["works","stuck","known"] fun _ _ _ _ _ _ us hl=>by obtain ⟨x0,x1,x2,e⟩:=zeN hl;subst e;rfl
 obtain ⟨e30,D30⟩:=h30.mk ku1 X G ["pairs"] fun _ _ _ _ _ _ us hl=>by obtain ⟨x0,e⟩:=ze3 hl;subst e;rfl
 obtain ⟨e31,D31⟩:=h31.mk ku1 X G ["works","faults"] fun _ _ _ _ _ _ us hl=>by obtain ⟨x0,x1,e⟩:=zeL hl;subst e;rfl
 obtain ⟨e32,D32⟩:=h32.mk ku1 X G ["works","faults"] fun _ _ _ _ _ _ us hl=>by obtain ⟨x0,x1,e⟩:=zeL hl;subst e;rfl
 obtain ⟨e33,D33⟩:=h33.mk ku1 X G ["works","stuck","known"] fun _ _ _ _ _ _ us hl=>by obtain ⟨x0,x1,x2,e⟩:=zeN hl;subst e;rfl
 obtain ⟨e34,D34⟩:=h34.mk ku1 X G ["works","faults","others"] fun _ _ _ _ _ _ us hl=>by obtain ⟨x0,x1,x2,e⟩:=zeN hl;subst e;rfl
 obtain ⟨e35,D35⟩:=h35.mk ku1 X G ["works"] fun _ _ _ _ _ _ us hl=>by obtain ⟨x0,e⟩:=ze3 hl;subst e;rfl
 obtain ⟨e36,D36⟩:=h36.mk ku1 X G ["script","k"] fun _ _ _ _ _ _ us hl=>by obtain ⟨x0,x1,e⟩:=zeL hl;subst e;rfl
 obtain ⟨e37,D37⟩:=h37.mk ku1 X G ["cell","k"] fun _ _ _ _ _ _ us hl=>by obtain ⟨x0,x1,e⟩:=zeL hl;subst e;rfl
 obtain ⟨e38,D38⟩:=h38.mk ku1 X G ["cell","k","many"] fun _ _ _ _ _ _ us hl=>by obtain ⟨x0,x1,x2,e⟩:=zeN hl;subst e;rfl
 obtain ⟨e39,D39⟩:=h39.mk ku1 X G ["cell","wires"] fun _ _ _ _ _ _ us hl=>by obtain ⟨x0,x1,e⟩:=zeL hl;subst e;rfl
 obtain ⟨e40,D40⟩:=h40.mk ku1 X G ["script","most_inputs","most_gates"] fun _ _ _ _ _ _ us hl=>by obtain ⟨x0,x1,x2,e⟩:=zeN hl;subst e;rfl
 obtain ⟨e41,D41⟩:=h41.mk ku1 X G ["inputs"] fun _ _ _ _ _ _ us hl=>by obtain ⟨x0,e⟩:=ze3 hl;subst e;rfl
 obtain ⟨e42,D42⟩:=h42.mk ku1 X G ["rows"] fun _ _ _ _ _ _ us hl=>by obtain ⟨x0,e⟩:=ze3 hl;subst e;rfl
 obtain ⟨e43,D43⟩:=h43.mk ku1 X G ["kind","legs"] fun _ _ _ _ _ _ us hl=>by obtain ⟨x0,x1,e⟩:=zeL hl;subst e;rfl
 obtain ⟨e44,D44⟩:=h44.mk ku1 X G ["works","faults","row"] fun _ _ _ _ _ _ us hl=>by obtain ⟨x0,x1,x2,e⟩:=zeN hl;subst e;rfl
 obtain ⟨e45,D45⟩:=h45.mk ku1 X G ["works"] fun _ _ _ _ _ _ us hl=>by obtain ⟨x0,e⟩:=ze3 hl;subst e;rfl
 obtain ⟨e46,D46⟩:=h46.mk ku1 X G ["rows","one","other"] fun _ _ _ _ _ _ us hl=>by obtain ⟨x0,x1,x2,e⟩:=zeN hl;subst e;rfl
 obtain ⟨e47,D47⟩:=h47.mk ku1 X G ["faults","seen","right"] fun _ _ _ _ _ _ us hl=>by obtain ⟨x0,x1,x2,e⟩:=zeN hl;subst e;rfl
 have F48:=zmI (st:=zi6) (zdT ku1 lL) (zdm ku1 cL) (zdx ku1 lL)
 have b48:=F48.binds (ps:=["script"]) fun _ _ _ _ _ _ us hl=>by obtain ⟨x0,e⟩:=ze3 hl;subst e;rfl
 refine ⟨u1_,PySem.W.fnOf "law" "law" (zb6 zi6) (zbN zi6) (zak zi6) .none kVL dcL pmL anL cdL ctL,ku1,fun s v=>.of_eq rfl,fun base _ _=>?_⟩
 exact ok_law (t:=⟨f1,e1,f2,e2,f3,_,T3,kT3,f4,e4,f5,e5,f6,_,T6,kT6,f7,e7,f8,_,T8,kT8,f9,e9,f10,e10,f11,e11,f12,e12,f13,e13,f14,e14,f15,e15,f16,e16,f17,e17,f18,e18,f19,e19,f20,e20,f21,e21,f22,e22,f23,e23,f24,e24,f25,e25,f26,e26,f27,e27,f28,e28,f29,e29,f30,e30,f31,e31,f32,e32,f33,e33,f34,e34,f35,e35,f36,e36,f37,e37,f38,e38,f39,e39,f40,e40,f41,e41,f42,e42,f43,e43,f44,e44,f45,e45,f46,e46,f47,e47,_,_,u1_,u2_⟩) ⟨D1,D2,⟨F3,b3,e3,PySem.W.mg_of X G a3⟩,D4,D5,⟨F6,b6,e6,PySem.W.mg_of X G a6⟩,D7,⟨F8,b8,e8,PySem.W.mg_of X G a8⟩,D9,D10,D11,D12,D13,D14,D15,D16,D17,D18,D19,D20,D21,D22,D23,D24,D25,D26,D27,D28,D29,D30,D31,D32,D33,D34,D35,D36,D37,D38,D39,D40,D41,D42,D43,D44,D45,D46,D47,⟨F48,b48,PySem.W.mg_of X G aL⟩,PySem.W.mg_none_of X G z1,PySem.W.mg_none_of X G z2,PySem.W.mg_none_of X G z3,PySem.W.mg_none_of X G z4,PySem.W.mg_none_of X G z5,PySem.W.mg_none_of X G z6,PySem.W.mg_none_of X G z7,PySem.W.mg_none_of X G z8,PySem.W.mg_none_of X G z9,PySem.W.mg_none_of X G z10,PySem.W.mg_none_of X G z11,PySem.W.mg_none_of X G z12,PySem.W.mg_none_of X G z13,PySem.W.mg_of X G au1,PySem.W.mg_of X G au2,ku2⟩
theorem walk {l:ybC}{q:Program}{loose:List Str}{XP:(Str→Option Value)→Heap→Prop}{YP:World→Heap→Prop}{d:DefRec}{K:Params→PySem.W.Frag}(hn:l.most=some 63)(hdf:d.params.defaults= [])
  (hY:∀ (w:World) (h:Heap),YP w h→(K w.params).In h)
  (F:∀ (w:World) (mg:Str→Option Value) (fa:Addr) (h:Heap),(K w.params).In h→h.Ns jD mg→mg d.name=some (.ref fa)→
   ∃ (c:Addr) (fd:FuncData),TupK (K w.params) c ["well"]∧(∀ (s:Shared) (u:Value),BindsTo s fd ⟨[u],[]⟩ [("script",u)])∧∀ base:Heap,(zbV (K w.params) c).In base→base.Ns jD mg→FnOk l.prog w (zbV (K w.params) c) mg base CX0 18 fa fd ["script"] (ziv (zbV (K w.params) c) c)):
  PySem.W.WalkO q loose XP YP l.row.toRowW d [] (fun f vs=>ycm f vs):=
 L2.zn3 (n:=63) (k:=18) (x:="script") (ts:=["well"]) (CX:=CX0) (sp:=ziv) hn (by decide) hdf ⟨rfl,by decide,by decide,rfl⟩ (by decide) hY F (fun _ _ _ a ns hl hS hW=>⟨a,ns,rfl,hS,hl,hW,fun _=>rfl⟩) fun _ _ _ _ z=>z
end My
open PySem PySem.W PyProof.Rows
set_option maxRecDepth 100000 in
set_option maxHeartbeats 0 in
theorem PySem.Challenge.cw_stuckwires_k90_whole_answers_and_groups_holds : PySem.Challenge.rw_stuckwires_k90_whole_answers_and_groups.Holds := by
 w_on;o_law
 refine PySem.W.holds_open (q:=My.view) (loose:=["gate_worth","worths_with","outputs_with"])
  (Xt:=fun s=>xlAt My.view [] s && recOk (RowW.records (OpenRow.toRowW qW.row)) s) (XP:=XL My.view [])
  (Yf:=Hook.obs (kHook My.part My.zi8 (fun _=>by kernel_rfl))) (Ya:=Hook.val (kHook My.part My.zi8 (fun _=>by kernel_rfl)))
  (YP:=Hook.says (kHook My.part My.zi8 (fun _=>by kernel_rfl))) (N:=4366) ?hl (Hook.of _) (Hook.keeps _)
  (fun s e=>xl_of s (ybI.mp e).1) XL.keeps (by rfl) (by rfl) (by rfl)
  (fun s e=>recFacts_of (ybI.mp e).2) (by rfl) (by first | assumption | decide+kernel) (by decide+kernel)
  ⟨rfl,rfl,rfl,rfl,rfl,by decide+kernel⟩ ?hw ?hc
 case hl=>exact My.hl0
 case hw=>w_witness2
 k_fill
 refine My.walk (l:=qW) rfl rfl (fun w h Y=>PySem.W.kIn_of Y) ?F
 case F=>
  intro w mg fa h KX G hmg
  refine' My.all_mk KX G hmg ?h1 ?h2 ?h3 ?h4 ?h5 ?h6 ?h7 ?h8 ?h9 ?h10 ?h11 ?h12 ?h13 ?h14 ?h15 ?h16 ?h17 ?h18 ?h19 ?h20 ?h21 ?h22 ?h23 ?h24 ?h25 ?h26 ?h27 ?h28 ?h29 ?h30 ?h31 ?h32 ?h33 ?h34 ?h35 ?h36 ?h37 ?h38 ?h39 ?h40 ?h41 ?h42 ?h43 ?h44 ?h45 ?h46 ?h47 ?h48 ?z1 ?z2 ?z3 ?z4 ?z5 ?z6 ?z7 ?z8 ?z9 ?z10 ?z11 ?z12 ?z13 ?au1 ?ku1 ?au2 ?ku2
  all_goals first | ((iterate 9 apply Exists.intro);(refine ⟨?_,?_,?_,?_⟩ <;> k_is)) | ((iterate 13 apply Exists.intro);(refine ⟨?_,?_,?_,?_,?_⟩ <;> k_is)) | skip
  (case z1=>k_is)
  (case z2=>k_is)
  (case z3=>k_is)
  (case z4=>k_is)
  (case z5=>k_is)
  (case z6=>k_is)
  (case z7=>k_is)
  (case z8=>k_is)
  (case z9=>k_is)
  (case z10=>k_is)
  (case z11=>k_is)
  (case z12=>k_is)
  (case z13=>k_is)
  (case au1=>k_is)
  (case ku1=>(unfold L2.TupK;kernel_rfl))
  (case au2=>k_is)
  (case ku2=>(unfold L2.TupK;kernel_rfl))
