import PyProof.Rows.All
import Wide.All
import OpenK.AllK
import Wide.FinOn
import Lean
import PyProof.EqAt
import PyProof.EqKinds
import PyProof.TupleCall
import PySem.Challenge.RW_stuckwires_k36_whole_no_fewer_rows
noncomputable def PySem.W.Fast.tw14065356560043109221:PySem.Program:=PySem.Challenge.pw_stuckwires_k36_whole_no_fewer_rows
theorem PySem.W.Fast.te14065356560043109221:PySem.Challenge.pw_stuckwires_k36_whole_no_fewer_rows=PySem.W.Fast.tw14065356560043109221:=rfl
open PySem renaming wpAny_bind→yA,wpAny_pure→yC,sizeLine→yK,boot_len→qL,mainGlobals→qQ,mem_of_lookup→xB,Obj→vS,Data→wO,evalArgs_none→yaA,ClassData→ybi,call→ych
open List renaming length_map→yB,getElem?_eq_some_iff→yE,getElem?_eq_getElem→yF,mem_singleton→yG,mem_of_getElem?→yH,length_append→yI,getElem?_map→yJ,getD_eq_getElem?_getD→yM,map_append→yN,size_toArray→yP,take_add_one→yR,mem_filter→yT,length_take→yU,take_length→yV,mem_cons→yY,all_eq_true→yZ,length_singleton→qC,mem_map→qE,mem_append→qG,range→qI,map_cons→qJ,mem_range→qN,filter_append→qP,length_filter_le→qU,filter_cons_of_neg→qZ,mem_append_right→jA,nodup_append→jB,length_cons→jE,getElem?_append_left→jG,append_nil→jH,getElem?_append_right→jJ,filter_cons_of_pos→jK,length_eq_zero_iff→jQ,lookup_cons→jT,not_mem_nil→jU,nodup_cons→xA,take_of_length_le→xD,length_range→xH,getElem?_mapIdx→xK,append_assoc→xL,map_congr_left→xM,nodup_nil→xN,range_succ→xS,getElem_mem→xU,any_eq_true→xV,mem_cons_of_mem→xW,ext_getElem?→vA,mem_of_head?→vB,find?_cons→vC,length_nil→vD,flatMap_append→vE,filter_nil→vF,mem_cons_self→vK,getElem?_eq_none→vL,take_append_drop→vM,mem_append_left→vP,getElem?_set_ne→vQ,getElem?_of_mem→vR,any_eq_false→vU,Perm→vX,all_map→vZ,mem_flatMap→kJ,replicate→kK,foldl_cons→kQ,map_map→kR,getElem?_zip_eq_some→wG,filterMap_cons→wH,length→wI,map_inj_right→wW,getElem?_set_self→wY,find?_cons_of_pos→yaa,find?_cons_of_neg→yab,foldl_append→yaf,length_filterMap_eq_countP→yah,flatMap_cons→yaj,eq_nil_or_concat→yao,concat_eq_append→yap,pairwise_append→yau,any_cons→yav,filter_sublist→yaG,map_nil→yaL,find?_eq_none→yaN,pairwise_cons→yaO,mem_of_find?_eq_some→yaP,exists_mem_of_ne_nil→yaT,getElem?_take_of_lt→yaU,getElem?_replicate→yaZ,perm_middle→yba,filter_eq_nil_iff→ybf,pairwise_lt_range→ybg,length_pos_of_mem→ybh,of_mem_zip→ybj,length_replicate→ybk,forIn_cons→ybl,mem_mapIdx→ybo,contains_iff_mem→ybs,getElem?_toArray→ybv,any_map→ybx,mem_iff_getElem→ybB,getLast?_append→ybD,replicate_succ→ybH,mem_map_of_mem→ybI,mem_filterMap→ybM,all_cons→ybN,Pairwise→ybQ,length_mapIdx→ybS,mapIdx_concat→ybT,reverse_cons→ybU,flatten_cons→ybV,all_eq_false→yb1,getElem_inj→yb4,length_drop→yb5,filter_cons→yb7,find?_some→ycd
open PySem.Heap renaming get?_push_of_some→yD,get?_push_size→yO,lt_size→yS,get?_update_other→qW,SameBut→qX,get?_update_self→xC,size_push→vN,get?_none_of_le→yat,ExtBut→ya5
open Nat renaming le_refl→yL,ne_of_lt→qA,lt_of_lt_of_le→qB,zero_le→qM,le_trans→jY,le_add_right→xT,pow_le_pow_right→xX,lt_irrefl→vJ,le_of_lt→wP,two_pow_pos→wT,lt_succ_of_lt→yai,lt_succ_self→yar,testBit_two_pow_sub_one→yaB,not_lt_zero→yaD,ne_of_gt→yaK,testBit_lt_two_pow→ybe,pow_succ→ybn,sub_self→ybp,lt_of_le_of_lt→ybR,le_of_lt_succ→ybY,mul_comm→yb2,succ_pos→yb3,zero_testBit→yca,le_succ→ycc,testBit_xor→ycf,testBit_and→ycg,mod_lt→yci
open Bool renaming false_ne_true→yQ,and_eq_true→yW,false_eq_true→jN,eq_iff_iff→xG,not_eq_true'→kY,true_and→yaw,and_eq_true_iff→ybE,false_or→ybP
open PySem.Paired renaming length→yX,snoc→kF
open Option.some renaming inj→qF,injEq→ybX
open PySem.PassesOwn renaming never→qH
open PySem.Builtin.Int renaming intBits→qK
open PySem.Builtin renaming bitXor→qO,bitAnd→qT,bitOr→qY,bitNot→jW
open Ne renaming symm→qR
open PySem.F renaming plainAttrs_list→qS,slot_list_append→jC,type_list_append→jD,slot_dict_valueiterator_next→jO,slot_dict_itemiterator_next→jR,slot_dict_keyiterator_next→jV,plain_min_loop→xF,called_set→xJ,args_dict_valueiterator_next_1→kX,args_dict_itemiterator_next_1→wA,entry_dict_valueiterator_next→wB,entry_dict_itemiterator_next→wD,args_dict_keyiterator_next_1→wE,entry_dict_keyiterator_next→wM,plainAttrs_dict→wS,entry_min_loop→yad,slot_dict_get→yam,slot_dict_values_iter→yas,slot_dict_items_iter→yax,args_tuple_add_2→yaV,slot_dict_values→yaW,entry_tuple_add→ya0,args_dict_get_3→ya1,slot_dict_items→ya3,slot_list_index→ya6,plain_list_iadd→ya7,slot_tuple_add→ybb,entry_dict_get→ybc,slot_dict_iter→ybd,plain_set_new→ybr,slot_set_iter→ybw
open PySem.Challenge renaming rw_stuckwires_k36_whole_no_fewer_rows→qV,pw_stuckwires_k36_whole_no_fewer_rows→jX
open PySem.Builtin.Dict_items renaming ownsTuple→jF,ownedTupleFields→wJ,ownedTupleIsFree→wK,pairFromOwner→wX,newIterator→yan,dictOf→yaQ
open Prod renaming fst→jI
open PySem.Around renaming under_plainId→jL,frames_deeper→ybz,in1_units→yb8
open Int renaming toNat_natCast→jM,zero_add→vY,le_refl→kI,emod_lt_of_pos→kN,fdiv_eq_ediv_of_nonneg→kZ,toNat_of_nonneg→wN,natCast_nonneg→wR,emod_nonneg→wV
open PySem.SeqAt renaming EqAt→jP,canLay_of_shaped→xE,notIn_listAt→ybO,eqAt_reads→yb9,in_listAt→ycb
open PySem.Heap.SameBut renaming update→jS,extBut→wL
open PyProof.Rows renaming callWith_type1→jZ,boot_list→vH,slot_tuple_getitem→vV,boot_isinstance→kP,callWith_builtin1→yal,boot_int→yaq,boot_tuple→ya9,boot_all→yby
open PySem.Obj renaming data_mapFields→xI,mapFields→xO,mapSeq→vI,isFreed_of_fields→kU,cls_mapFields→yag,putSet→ycj
open PySem.SetTable renaming Probe→xP,below→xY,bits→kH,runEnd→wU,grown→yak,turns→ybF,insertAt→ybZ
open PySem.Str renaming ofString→xQ
open PySem.Builtin.Dict renaming showsAll→xR,noArgs→yaC,updateFrom→ya2
open PyProof.Rows.F renaming plain_set_update_loop→xZ,entry_set_update_loop→wF
open PySem.Calls renaming callWith_builtin→vG,spliced_cons→kM,spliced_nil→yae,Name_function_global→yaH,evalArgs_plain→ybA
open PySem.Builtin.Slice renaming slicePlaces→vO,sliceAdjust→wC,sliceApplied→yaI
open False renaming elim→vT
open PySem.Builtin.Tuple renaming tupleExact→vW
open Array renaming length_toList→kA,getElem?_eq_none→yac,getElem?_eq_some_iff→yaJ,getElem?_eq_getElem→yaS,getElem?_toList→ybu,toArray_toList→ybC,append_assoc→ybL
open PySem.Builtin.List renaming listTooLong→wQ,listExtendWith→yaF,listSameRef→yaX
open Option renaming map_eq_some_iff→wZ,isSome_map→ybW,getD_none→yb6,map_some→yce
open PySem.PyData renaming eqv→yay,strOk→ybm
open PySem.Walks renaming list→yaz
open PySem.Builtin.Builtins renaming bindParams→yaE
open PySem.SeqAt.Reads renaming unique→yaM
open Classical renaming byContradiction→yaR
open Sum.inl renaming inj→yaY
open PySem.Shared renaming TypeIs→ya4
open List.cons renaming inj→ya8
open Nat.succ renaming inj→ybq
open PySem.W renaming OpenLaw→ybt
open PySem.Value renaming isInt→ybG
open PySem.SeqAt.EqAt renaming int_str→ybJ,str_int→ybK
open List.Pairwise renaming map→yb0
open PyProof.Rows.IsTup renaming new→yck
set_option Elab.async false
set_option linter.all false
set_option maxRecDepth 100000
set_option genSizeOf false
local macro_rules | `(tactic| omega)=>`(tactic| lia)
namespace L2
open PySem
noncomputable def zbV (s:Stmt):Arguments:=match s with
 | .FunctionDef _ a _ _ _ _ _ _ _ _=>a
 | _=>{posonlyargs:=[],args:=[],vararg:=none,kwonlyargs:=[],kw_defaults:=[],kwarg:=none,defaults:=[]}
noncomputable def zbs (s:Stmt):List Stmt:=match s with
 | .FunctionDef _ _ b _ _ _ _ _ _ _=>b
 | _=>[]
noncomputable def zak (s:Stmt):Scope:=match s with
 | .FunctionDef _ _ _ _ _ _ sc _ _ _=>sc
 | _=>{kind:=.function,names:=[],isGenerator:=false,isCoroutine:=false}
end L2
namespace My
open PySem L2
noncomputable def top (i:Nat):Stmt:=jX.main.body.getD i (.Pass ⟨0,0,0,0⟩)
noncomputable abbrev zdq:Stmt:=top 5
noncomputable abbrev zdf:Stmt:=top 6
noncomputable abbrev zci:Stmt:=top 7
noncomputable abbrev zcv:Stmt:=top 9
noncomputable abbrev zbX:Stmt:=top 10
noncomputable abbrev zcT:Stmt:=top 11
noncomputable abbrev zbC:Stmt:=top 12
noncomputable abbrev zcg:Stmt:=top 14
noncomputable abbrev zb6:Stmt:=top 15
noncomputable abbrev zb9:Stmt:=top 16
noncomputable abbrev zbF:Stmt:=top 17
noncomputable abbrev zca:Stmt:=top 18
noncomputable abbrev zdp:Stmt:=top 21
noncomputable abbrev zco:Stmt:=top 22
noncomputable abbrev zcW:Stmt:=top 23
noncomputable abbrev zcN:Stmt:=top 24
noncomputable abbrev zb3:Stmt:=top 25
noncomputable abbrev zcP:Stmt:=top 26
noncomputable abbrev ziS:Stmt:=top 27
noncomputable abbrev zbG:Stmt:=top 28
noncomputable abbrev zbE:Stmt:=top 29
noncomputable abbrev zbW:Stmt:=top 30
noncomputable abbrev zbJ:Stmt:=top 31
noncomputable abbrev zcr:Stmt:=top 33
noncomputable abbrev zcJ:Stmt:=top 34
noncomputable abbrev zdZ:Stmt:=top 35
noncomputable abbrev zb7:Stmt:=top 36
noncomputable abbrev zdg:Stmt:=top 37
noncomputable abbrev zdo:Stmt:=top 38
noncomputable abbrev zdY:Stmt:=top 39
noncomputable abbrev zcR:Stmt:=top 40
noncomputable abbrev zcf:Stmt:=top 41
noncomputable abbrev zcq:Stmt:=top 42
noncomputable abbrev zcu:Stmt:=top 43
noncomputable abbrev zdX:Stmt:=top 44
noncomputable abbrev zdS:Stmt:=top 45
noncomputable abbrev zd4:Stmt:=top 46
noncomputable abbrev zhz:Stmt:=top 47
end My
namespace My
open PySem PySem.W
noncomputable abbrev dE (P:Params) (x:Str) (n:Nat) (v:Value):DictEntry:=.mk (PyData.keyHash P x) (.str x n) v
noncomputable abbrev tO (vs:Array Value):Obj:=.mk (.type "tuple") none (.seq vs) #[]
noncomputable abbrev fO (x:Str) (s:Stmt) (dV kV doc pm:Value) (an:Option Addr) (cd ct:Value):Obj:=.mk (.type "function") none (.func (PySem.W.fnOf x x (L2.zbV s) (L2.zbs s) (L2.zak s) dV kV doc pm an cd ct)) #[]
noncomputable abbrev fM (x y:Str) (s:Stmt) (dV kV doc pm:Value) (an:Option Addr) (cd ct:Value):Obj:=.mk (.type "function") none (.func (PySem.W.fnOf x y (L2.zbV s) (L2.zbs s) (L2.zak s) dV kV doc pm an cd ct)) #[]
noncomputable abbrev fD (x:Str) (s:Stmt) (f:Str) (n c:Nat):Obj:=fO x s .none .none .none (.str f n) none (.ref c) .none
noncomputable abbrev cO (x:Str) (n:Nat) (l a:Int) (r:Nat) (u v:Value) (q:Nat) (t:Nat):Obj:=.mk (.type "code") none (.fields #[.str x n,.str x (n+1),.str "/claim/cut.py" (n+2),.int l 0,.int a 0,.int 0 0,.int 0 0,.int 3 0,.ref r,.bool true,.int 181 0,.ref (r+1),.none,u,v,.ref q,.int t 0,.int l 0,.str "/claim/cut.py" (t+1)]) #[]
noncomputable def part:Params→Frag:=fun P=>
 (nat_lit 2,vS.mk .none none (wO.dict #[]) #[])::
 (nat_lit 3,vS.mk (.type "dict") none (wO.dict #[dE P "__name__" 165 (.str "law_stuckwires_k36_whole_no_fewer_rows" 419),dE P "__doc__" 166 .none,dE P "__package__" 167 .none,dE P "__loader__" 168 (.builtin "__main__.__loader__#opaque"),dE P "__spec__" 169 .none,dE P "__annotations__" 170 (.ref 6),dE P "__builtins__" 171 (.ref 4),dE P "__file__" 173 (.str "/claim/cut.py" 172),dE P "__cached__" 174 .none,dE P "StuckError" 206 (.ref 24),dE P "NoRow" 222 (.ref 37),dE P "TooMany" 238 (.ref 49),dE P "every_row" 246 (.ref 56),dE P "check_row" 252 (.ref 61),dE P "gate_worth" 264 (.ref 69),dE P "every_fault" 272 (.ref 74),dE P "worths_with" 279 (.ref 80),dE P "leg_worths" 285 (.ref 85),dE P "outputs_with" 292 (.ref 91),dE P "outputs_seen" 300 (.ref 96),dE P "rows_at_once" 306 (.ref 101),dE P "seen_of_each" 315 (.ref 108),dE P "unlike_numbers" 321 (.ref 113),dE P "finding_rows" 333 (.ref 120),dE P "MOST_INPUTS" 337 (.int 3 336),dE P "finds_all" 343 (.ref 125),dE P "fewest_rows" 349 (.ref 130),dE P "need_paper" 358 (.ref 137),dE P "need_shows" 367 (.ref 144),dE P "check_inputs" 374 (.ref 151),dE P "meets_each" 380 (.ref 156),dE P "meet" 386 (.ref 161),dE P "fewest_numbers" 392 (.ref 166),dE P "longer_choices" 398 (.ref 171),dE P "need_behind" 404 (.ref 176),dE P "is_need_let_by" 418 (.ref 183),dE P "_law_cell_at" 428 (.ref 190),dE P "_law_digits" 441 (.ref 197),dE P "_law_gate" 447 (.ref 202),dE P "_law_works_of" 465 (.ref 209),dE P "_law_works" 473 (.ref 216),dE P "_law_worth" 481 (.ref 223),dE P "_law_outs" 487 (.ref 228),dE P "_law_faults" 498 (.ref 235),dE P "_law_all_rows" 509 (.ref 242),dE P "_law_answers" 515 (.ref 247),dE P "_law_finding" 521 (.ref 252),dE P "_law_open" 527 (.ref 257),dE P "_law_copy" 534 (.ref 264),dE P "_law_walk" 540 (.ref 269),dE P "law" 546 (.ref 274)] 51) #[])::
 (nat_lit 15,tO #[.type "ValueError"])::
 (nat_lit 22,tO #[])::
 (nat_lit 23,vS.mk (.type "dict") none (wO.dict #[dE P "__module__" 196 (.str "stuckwires.errors" 187),dE P "__firstlineno__" 200 (.int 2 199),dE P "__static_attributes__" 201 (.ref 22),dE P "__weakref__" 203 (.ref 25),dE P "__doc__" 204 .none] 3) #[])::
 (nat_lit 24,vS.mk (.type "type") none (wO.cls (ybi.mk "StuckError" [.type "ValueError"] [.ref 24,.type "ValueError",.type "Exception",.type "BaseException",.type "object"] 23 "StuckError" Bool.true [] [.ref 37,.ref 49] Bool.false none Bool.false)) #[Option.some (.ref 15),none,Option.some (.str "StuckError" 189),Option.some (.str "StuckError" 197),Option.some (.builtin "ValueError.__new__"),Option.some (.bool Bool.true)])::
 (nat_lit 25,vS.mk (.type "getset_descriptor") none (wO.fields #[.str "__weakref__" 202,.ref 24,.builtin "ExceptionGroup.__weakref__",.none]) #[])::
 (nat_lit 28,tO #[.ref 24])::
 (nat_lit 35,tO #[])::
 (nat_lit 36,vS.mk (.type "dict") none (wO.dict #[dE P "__module__" 214 (.str "stuckwires.errors" 187),dE P "__firstlineno__" 218 (.int 4 217),dE P "__static_attributes__" 219 (.ref 35),dE P "__doc__" 220 .none] 2) #[])::
 (nat_lit 37,vS.mk (.type "type") none (wO.cls (ybi.mk "NoRow" [.ref 24] [.ref 37,.ref 24,.type "ValueError",.type "Exception",.type "BaseException",.type "object"] 36 "NoRow" Bool.true [] [] Bool.false none Bool.false)) #[Option.some (.ref 28),none,Option.some (.str "NoRow" 207),Option.some (.str "NoRow" 215),Option.some (.builtin "ValueError.__new__"),Option.some (.bool Bool.true)])::
 (nat_lit 40,tO #[.ref 24])::
 (nat_lit 47,tO #[])::
 (nat_lit 48,vS.mk (.type "dict") none (wO.dict #[dE P "__module__" 230 (.str "stuckwires.errors" 187),dE P "__firstlineno__" 234 (.int 6 233),dE P "__static_attributes__" 235 (.ref 47),dE P "__doc__" 236 .none] 2) #[])::
 (nat_lit 49,vS.mk (.type "type") none (wO.cls (ybi.mk "TooMany" [.ref 24] [.ref 49,.ref 24,.type "ValueError",.type "Exception",.type "BaseException",.type "object"] 48 "TooMany" Bool.true [] [] Bool.false none Bool.false)) #[Option.some (.ref 40),none,Option.some (.str "TooMany" 223),Option.some (.str "TooMany" 231),Option.some (.builtin "ValueError.__new__"),Option.some (.bool Bool.true)])::
 (nat_lit 52,tO #[])::
 (nat_lit 55,cO "every_row" 241 9 1 52 .none .none 54 244)::
 (nat_lit 56,fD "every_row" zdq "stuckwires.works" 239 55)::
 (nat_lit 57,tO #[])::
 (nat_lit 60,cO "check_row" 247 14 2 57 .none .none 59 250)::
 (nat_lit 61,fD "check_row" zdf "stuckwires.works" 239 60)::
 (nat_lit 62,tO #[.int 1 253])::
 (nat_lit 63,tO #[])::
 (nat_lit 65,tO #[.str "kind" 257,.str "worths" 258,.str "ones" 259,.str "told" 260,.str "worth" 261])::
 (nat_lit 66,tO #[])::
 (nat_lit 68,cO "gate_worth" 254 19 3 63 (.ref 65) (.ref 66) 67 262)::
 (nat_lit 69,fO "gate_worth" zci (.ref 62) .none .none (.str "stuckwires.works" 239) none (.ref 68) .none)::
 (nat_lit 70,tO #[])::
 (nat_lit 73,cO "every_fault" 267 34 1 70 .none .none 72 270)::
 (nat_lit 74,fD "every_fault" zcv "stuckwires.faults" 265 73)::
 (nat_lit 75,tO #[.int 1 273])::
 (nat_lit 76,tO #[])::
 (nat_lit 79,cO "worths_with" 274 44 4 76 .none .none 78 277)::
 (nat_lit 80,fO "worths_with" zbX (.ref 75) .none .none (.str "stuckwires.faults" 265) none (.ref 79) .none)::
 (nat_lit 81,tO #[])::
 (nat_lit 84,cO "leg_worths" 280 51 3 81 .none .none 83 283)::
 (nat_lit 85,fD "leg_worths" zcT "stuckwires.faults" 265 84)::
 (nat_lit 86,tO #[.int 1 286])::
 (nat_lit 87,tO #[])::
 (nat_lit 90,cO "outputs_with" 287 53 4 87 .none .none 89 290)::
 (nat_lit 91,fO "outputs_with" zbC (.ref 86) .none .none (.str "stuckwires.faults" 265) none (.ref 90) .none)::
 (nat_lit 92,tO #[])::
 (nat_lit 95,cO "outputs_seen" 295 57 2 92 .none .none 94 298)::
 (nat_lit 96,fD "outputs_seen" zcg "stuckwires.seen" 293 95)::
 (nat_lit 97,tO #[])::
 (nat_lit 100,cO "rows_at_once" 301 62 1 97 .none .none 99 304)::
 (nat_lit 101,fD "rows_at_once" zb6 "stuckwires.seen" 293 100)::
 (nat_lit 102,tO #[])::
 (nat_lit 104,tO #[.str "works" 310,.str "seen" 311,.str "fault" 312])::
 (nat_lit 105,tO #[])::
 (nat_lit 107,cO "seen_of_each" 307 70 1 102 (.ref 104) (.ref 105) 106 313)::
 (nat_lit 108,fD "seen_of_each" zb9 "stuckwires.seen" 293 107)::
 (nat_lit 109,tO #[])::
 (nat_lit 112,cO "unlike_numbers" 316 75 2 109 .none .none 111 319)::
 (nat_lit 113,fD "unlike_numbers" zbF "stuckwires.seen" 293 112)::
 (nat_lit 114,tO #[])::
 (nat_lit 116,tO #[.str "works" 325,.str "right" 326,.str "finding" 327,.str "fault" 328,.str "seen" 329,.str "numbers" 330])::
 (nat_lit 117,tO #[])::
 (nat_lit 119,cO "finding_rows" 322 80 1 114 (.ref 116) (.ref 117) 118 331)::
 (nat_lit 120,fD "finding_rows" zca "stuckwires.seen" 293 119)::
 (nat_lit 121,tO #[])::
 (nat_lit 124,cO "finds_all" 338 90 2 121 .none .none 123 341)::
 (nat_lit 125,fD "finds_all" zdp "stuckwires.fewest" 334 124)::
 (nat_lit 126,tO #[])::
 (nat_lit 129,cO "fewest_rows" 344 95 1 126 .none .none 128 347)::
 (nat_lit 130,fD "fewest_rows" zco "stuckwires.fewest" 334 129)::
 (nat_lit 131,tO #[])::
 (nat_lit 133,tO #[.str "works" 353,.str "finding" 354,.str "fewest" 355])::
 (nat_lit 134,tO #[])::
 (nat_lit 136,cO "need_paper" 350 99 1 131 (.ref 133) (.ref 134) 135 356)::
 (nat_lit 137,fD "need_paper" zcW "stuckwires.fewest" 334 136)::
 (nat_lit 138,tO #[])::
 (nat_lit 140,tO #[.str "works" 362,.str "k" 363,.str "paper" 364])::
 (nat_lit 141,tO #[])::
 (nat_lit 143,cO "need_shows" 359 104 3 138 (.ref 140) (.ref 141) 142 365)::
 (nat_lit 144,fD "need_shows" zcN "stuckwires.fewest" 334 143)::
 (nat_lit 145,tO #[])::
 (nat_lit 147,tO #[.str "works" 371])::
 (nat_lit 148,tO #[])::
 (nat_lit 150,cO "check_inputs" 368 106 1 145 (.ref 147) (.ref 148) 149 372)::
 (nat_lit 151,fD "check_inputs" zb3 "stuckwires.fewest" 334 150)::
 (nat_lit 152,tO #[])::
 (nat_lit 155,cO "meets_each" 375 109 2 152 .none .none 154 378)::
 (nat_lit 156,fD "meets_each" zcP "stuckwires.fewest" 334 155)::
 (nat_lit 157,tO #[])::
 (nat_lit 160,cO "meet" 381 111 2 157 .none .none 159 384)::
 (nat_lit 161,fD "meet" ziS "stuckwires.fewest" 334 160)::
 (nat_lit 162,tO #[])::
 (nat_lit 165,cO "fewest_numbers" 387 113 2 162 .none .none 164 390)::
 (nat_lit 166,fD "fewest_numbers" zbG "stuckwires.fewest" 334 165)::
 (nat_lit 167,tO #[])::
 (nat_lit 170,cO "longer_choices" 393 120 2 167 .none .none 169 396)::
 (nat_lit 171,fD "longer_choices" zbE "stuckwires.fewest" 334 170)::
 (nat_lit 172,tO #[])::
 (nat_lit 175,cO "need_behind" 399 126 3 172 .none .none 174 402)::
 (nat_lit 176,fD "need_behind" zbW "stuckwires.fewest" 334 175)::
 (nat_lit 177,tO #[])::
 (nat_lit 179,tO #[.str "finding" 408,.str "taken" 409,.str "k" 410,.str "paper" 411,.str "fault" 412,.str "numbers" 413,.str "number" 414,.str "inner" 415])::
 (nat_lit 180,tO #[])::
 (nat_lit 182,cO "is_need_let_by" 405 133 4 177 (.ref 179) (.ref 180) 181 416)::
 (nat_lit 183,fD "is_need_let_by" zbJ "stuckwires.fewest" 334 182)::
 (nat_lit 184,tO #[])::
 (nat_lit 186,tO #[.str "script" 424,.str "k" 425])::
 (nat_lit 187,tO #[])::
 (nat_lit 189,cO "_law_cell_at" 421 147 2 184 (.ref 186) (.ref 187) 188 426)::
 (nat_lit 190,fD "_law_cell_at" zcr "law_stuckwires_k36_whole_no_fewer_rows" 419 189)::
 (nat_lit 191,tO #[])::
 (nat_lit 193,tO #[.str "cell" 432,.str "many" 433,.str "top" 434,.str "found" 435,.str "rest" 436,.str "k" 437,.str "stir" 438])::
 (nat_lit 194,tO #[])::
 (nat_lit 196,cO "_law_digits" 429 151 3 191 (.ref 193) (.ref 194) 195 439)::
 (nat_lit 197,fD "_law_digits" zcJ "law_stuckwires_k36_whole_no_fewer_rows" 419 196)::
 (nat_lit 198,tO #[])::
 (nat_lit 201,cO "_law_gate" 442 163 2 198 .none .none 200 445)::
 (nat_lit 202,fD "_law_gate" zdZ "law_stuckwires_k36_whole_no_fewer_rows" 419 201)::
 (nat_lit 203,tO #[])::
 (nat_lit 205,tO #[.str "script" 451,.str "inputs" 452,.str "most" 453,.str "first" 454,.str "many" 455,.str "cells" 456,.str "gates" 457,.str "cell" 458,.str "wires" 459,.str "xs" 460,.str "outputs" 461,.str "k" 462])::
 (nat_lit 206,tO #[])::
 (nat_lit 208,cO "_law_works_of" 448 169 3 203 (.ref 205) (.ref 206) 207 463)::
 (nat_lit 209,fD "_law_works_of" zb7 "law_stuckwires_k36_whole_no_fewer_rows" 419 208)::
 (nat_lit 210,tO #[])::
 (nat_lit 212,tO #[.str "script" 469,.str "most" 470])::
 (nat_lit 213,tO #[])::
 (nat_lit 215,cO "_law_works" 466 183 2 210 (.ref 212) (.ref 213) 214 471)::
 (nat_lit 216,fD "_law_works" zdg "law_stuckwires_k36_whole_no_fewer_rows" 419 215)::
 (nat_lit 217,tO #[])::
 (nat_lit 219,tO #[.str "kind" 477,.str "legs" 478])::
 (nat_lit 220,tO #[])::
 (nat_lit 222,cO "_law_worth" 474 185 2 217 (.ref 219) (.ref 220) 221 479)::
 (nat_lit 223,fD "_law_worth" zdo "law_stuckwires_k36_whole_no_fewer_rows" 419 222)::
 (nat_lit 224,tO #[])::
 (nat_lit 227,cO "_law_outs" 482 197 3 224 .none .none 226 485)::
 (nat_lit 228,fD "_law_outs" zdY "law_stuckwires_k36_whole_no_fewer_rows" 419 227)::
 (nat_lit 229,tO #[])::
 (nat_lit 231,tO #[.str "works" 491,.str "found" 492,.str "wire" 493,.str "g" 494,.str "p" 495])::
 (nat_lit 232,tO #[])::
 (nat_lit 234,cO "_law_faults" 488 212 1 229 (.ref 231) (.ref 232) 233 496)::
 (nat_lit 235,fD "_law_faults" zcR "law_stuckwires_k36_whole_no_fewer_rows" 419 234)::
 (nat_lit 236,tO #[])::
 (nat_lit 238,tO #[.str "inputs" 502,.str "found" 503,.str "k" 504,.str "longer_rows" 505,.str "row" 506])::
 (nat_lit 239,tO #[])::
 (nat_lit 241,cO "_law_all_rows" 499 220 1 236 (.ref 238) (.ref 239) 240 507)::
 (nat_lit 242,fD "_law_all_rows" zcf "law_stuckwires_k36_whole_no_fewer_rows" 419 241)::
 (nat_lit 243,tO #[])::
 (nat_lit 246,cO "_law_answers" 510 228 1 243 .none .none 245 513)::
 (nat_lit 247,fD "_law_answers" zcq "law_stuckwires_k36_whole_no_fewer_rows" 419 246)::
 (nat_lit 248,tO #[])::
 (nat_lit 251,cO "_law_finding" 516 234 1 248 .none .none 250 519)::
 (nat_lit 252,fD "_law_finding" zcu "law_stuckwires_k36_whole_no_fewer_rows" 419 251)::
 (nat_lit 253,tO #[])::
 (nat_lit 256,cO "_law_open" 522 241 2 253 .none .none 255 525)::
 (nat_lit 257,fD "_law_open" zdX "law_stuckwires_k36_whole_no_fewer_rows" 419 256)::
 (nat_lit 258,tO #[])::
 (nat_lit 260,tO #[.str "works" 531])::
 (nat_lit 261,tO #[])::
 (nat_lit 263,cO "_law_copy" 528 247 1 258 (.ref 260) (.ref 261) 262 532)::
 (nat_lit 264,fD "_law_copy" zdS "law_stuckwires_k36_whole_no_fewer_rows" 419 263)::
 (nat_lit 265,tO #[])::
 (nat_lit 268,cO "_law_walk" 535 249 4 265 .none .none 267 538)::
 (nat_lit 269,fD "_law_walk" zd4 "law_stuckwires_k36_whole_no_fewer_rows" 419 268)::
 (nat_lit 270,tO #[])::
 (nat_lit 273,cO "law" 541 265 1 270 .none .none 272 544)::
 (nat_lit 274,fD "law" zhz "law_stuckwires_k36_whole_no_fewer_rows" 419 273)::
 (nat_lit 4,vS.mk (.type "module") (some builtinsNs) .plain #[])::
 (nat_lit 173,vS.mk .none none (.fields #[]) #[])::[]
def zhx:List Addr:=[2,3,15,22,23,24,25,28,35,36,37,40,47,48,49,52,55,56,57,60,61,62,63,65,66,68,69,70,73,74,75,76,79,80,81,84,85,86,87,90,91,92,95,96,97,100,101,102,104,105,107,108,109,112,113,114,116,117,119,120,121,124,125,126,129,130,131,133,134,136,137,138,140,141,143,144,145,147,148,150,151,152,155,156,157,160,161,162,165,166,167,170,171,172,175,176,177,179,180,182,183,184,186,187,189,190,191,193,194,196,197,198,201,202,203,205,206,208,209,210,212,213,215,216,217,219,220,222,223,224,227,228,229,231,232,234,235,236,238,239,241,242,243,246,247,248,251,252,253,256,257,258,260,261,263,264,265,268,269,270,273,274,4,173]
def lamT:Addr:=nat_lit 173
noncomputable def loo:List Str:="gate_worth" ::"worths_with" ::"outputs_with" ::[]
noncomputable def view:Program:={jX with main:={jX.main with body:=[1,2,3,5,6,9,11,14,15,16,17,18,20,21,22,23,24,25,26,27,28,29,30,31,33,34,35,36,37,38,39,40,41,42,43,44,45,46,47].map top}}
end My
section
open PySem PySem.W PyProof.Rows
set_option maxRecDepth 100000 in
set_option maxHeartbeats 0 in
theorem My.hl0:PySem.W.LeftO qV.row.prog My.view My.loo (fun s=>xlAt My.view [] s && recOk (RowW.records (OpenRow.toRowW qV.row)) s) (Hook.obs (kHook My.part My.zhx (fun _=>by kernel_rfl))) (Hook.val (kHook My.part My.zhx (fun _=>by kernel_rfl))) 3654:=by intro w;kernel_rfl
end
namespace L2
open PySem PySem.Spec PyProof.Rows
noncomputable abbrev Key:=Sum Int Str
noncomputable def zjJ:Key→Value→Bool
 | .inl k,v=>ybG k v
 | .inr x,v=>Value.isStrOf x v
noncomputable def keyH (w:World):Key→Int
 | .inl k=>hashInt k
 | .inr x=>hashStr w x
theorem zbk:∀ {k:Key} {v:Value},zjJ k v=true→(∃ i t,k=Sum.inl i∧v=Value.int i t)∨(∃ x t,k=Sum.inr x∧v=Value.str x t)
 | .inl i,v,h=>by
  obtain ⟨t,e⟩:=Value.isInt_shape (k:=i) (v:=v) h
  exact .inl ⟨i,t,rfl,e⟩
 | .inr x,v,h=>by
  obtain ⟨t,e⟩:=Value.isStrOf_shape (x:=x) (v:=v) h
  exact .inr ⟨x,t,rfl,e⟩
theorem zk3 (i:Int)(t:Tok):zjJ (.inl i) (.int i t)=true:=by simp [zjJ,ybG]
theorem zla (x:Str)(t:Tok):zjJ (.inr x) (.str x t)=true:=by simp [zjJ,Value.isStrOf]
theorem key_ll (a b:Int):decide ((Sum.inl a:Key)=Sum.inl b)=(a==b):=by
 by_cases e:a=b
 ·subst e;simp
 ·have h:¬(Sum.inl a:Key)=Sum.inl b:=fun q=>e (yaY q)
  rw [decide_eq_false h]
  exact (beq_eq_false_iff_ne.mpr e).symm
theorem key_rr (a b:Str):decide ((Sum.inr a:Key)=Sum.inr b)=decide (a=b):=by
 by_cases e:a=b
 ·subst e;simp
 ·have h:¬(Sum.inr a:Key)=Sum.inr b:=fun q=>e (Sum.inr.inj q)
  rw [decide_eq_false h,decide_eq_false e]
theorem key_lr (a:Int)(b:Str):decide ((Sum.inl a:Key)=Sum.inr b)=false:=decide_eq_false (fun q=>nomatch q)
theorem key_rl (a:Str)(b:Int):decide ((Sum.inr a:Key)=Sum.inl b)=false:=decide_eq_false (fun q=>nomatch q)
noncomputable def zaG (prog:Program) (w:World):PySem.KeyKind prog w Key where
 is:=zjJ
 hash:=keyH w
 inj:=fun v a b ha hb=>by
  rcases zbk ha with ⟨i,t,rfl,rfl⟩ | ⟨x,t,rfl,rfl⟩
  ·rcases zbk hb with ⟨j,u,rfl,e⟩ | ⟨y,u,rfl,e⟩
   ·injection e with e1 _;rw [e1]
   ·exact nomatch e
  ·rcases zbk hb with ⟨j,u,rfl,e⟩ | ⟨y,u,rfl,e⟩
   ·exact nomatch e
   ·injection e with e1 _;rw [e1]
 byValue:=fun k v h=>by
  rcases zbk h with ⟨i,t,rfl,rfl⟩ | ⟨x,t,rfl,rfl⟩ <;> rfl
 pyHash:=fun hv h=>by
  rcases zbk hv with ⟨i,t,rfl,rfl⟩ | ⟨x,t,rfl,rfl⟩
  ·exact wpAny_pyHash_int h
  ·exact wpAny_pyHash_str h
 eqBool:=fun hu hv h=>by
  rcases zbk hu with ⟨i,t,rfl,rfl⟩ | ⟨x,t,rfl,rfl⟩
  ·rcases zbk hv with ⟨j,u,rfl,rfl⟩ | ⟨y,u,rfl,rfl⟩
   ·rw [key_ll] at h;exact wpAny_eqBool_int h
   ·rw [key_lr] at h;exact ybJ i t y u _ _ _ _ h
  ·rcases zbk hv with ⟨j,u,rfl,rfl⟩ | ⟨y,u,rfl,rfl⟩
   ·rw [key_rl] at h;exact ybK x t j u _ _ _ _ h
   ·rw [key_rr] at h;exact wpAny_eqBool_str h
 «strs» :=fun k x t v h=>by
  rcases zbk h with ⟨i,u,rfl,e⟩ | ⟨y,u,rfl,e⟩
  ·exact nomatch e
  ·injection e with e1 _
   subst e1
   cases v <;> rfl
theorem ziG (prog:Program)(w:World)(i:Int)(t:Tok):(zaG prog w).is (.inl i) (.int i t)=true:=zk3 i t
theorem zis (prog:Program)(w:World)(x:Str)(t:Tok):(zaG prog w).is (.inr x) (.str x t)=true:=zla x t
inductive V where
 | non | bl (b:Bool) | int (i:Int) | str (x:Str) | byt (b:Array UInt8) | flt (b:UInt64) | ref (a:Addr) | ty (n:String)
 deriving DecidableEq
noncomputable def RelV:V→Value→Prop
 | .non,u=>u=Value.none
 | .bl b,u=>u=Value.bool b
 | .int i,u=>∃ t,u=Value.int i t
 | .str x,u=>∃ t,u=Value.str x t
 | .byt b,u=>∃ t,u=Value.bytes b t
 | .flt b,u=>∃ t,u=Value.float b t
 | .ref a,u=>u=Value.ref a
 | .ty n,u=>u=Value.type n
noncomputable abbrev Vals:List V→List Value→Prop:=Paired RelV
theorem Vals.length {xs:List V}{us:List Value}(r:Vals xs us):xs.length=us.length:=yX r
theorem Vals.get:∀ {xs:List V} {us:List Value} {i:Nat} {x:V},Vals xs us→xs[i]? =some x→∃ u,us[i]? =some u∧RelV x u
 | _,_,_,_,.nil,e=>by simp at e
 | _,_,0,_,.cons r _,e=>by simp at e;subst e;exact ⟨_,rfl,r⟩
 | _,_,i+1,x,.cons _ t,e=>by
  obtain ⟨u,h1,h2⟩:=Vals.get (i:=i) (x:=x) t (by simpa using e)
  exact ⟨u,by simpa using h1,h2⟩
theorem Vals.set {x:V}{u:Value}(r:RelV x u):∀ {xs:List V} {us:List Value} (i:Nat),Vals xs us→Vals (xs.set i x) (us.set i u)
 | _,_,_,.nil=>.nil
 | _,_,0,.cons _ t=>.cons r t
 | _,_,i+1,.cons q t=>.cons q (Vals.set r i t)
theorem Vals.append:∀ {xs ys:List V} {us ws:List Value},Vals xs us→Vals ys ws→Vals (xs++ys) (us++ws)
 | _,_,_,_,.nil,s=>s
 | _,_,_,_,.cons r t,s=>.cons r (Vals.append t s)
theorem Vals.take:∀ {xs:List V} {us:List Value} (n:Nat),Vals xs us→Vals (xs.take n) (us.take n)
 | _,_,0,_=>.nil
 | _,_,_+1,.nil=>.nil
 | _,_,n+1,.cons r t=>.cons r (Vals.take n t)
theorem Vals.drop:∀ {xs:List V} {us:List Value} (n:Nat),Vals xs us→Vals (xs.drop n) (us.drop n)
 | _,_,0,r=>r
 | _,_,_+1,.nil=>.nil
 | _,_,n+1,.cons _ t=>Vals.drop n t
noncomputable def RelO:Option V→Option Value→Prop
 | some v,some u=>RelV v u
 | none,none=>True
 | _,_=>False
noncomputable def KV {κ :Type}:List (κ×V)→List (κ×Value)→Prop:=Paired fun (p: κ×V) (q: κ×Value)=>p.1=q.1∧RelV p.2 q.2
noncomputable def kV:Key→V
 | .inl i=>.int i
 | .inr x=>.str x
inductive HO where
  | lst (xs:List V)
  | tup (xs:List V)
  | dK (kvs:List (Key×V)) | dT (kvs:List (List Key×V))
  | set (S:Int→Bool) (n:Nat)
  | ins (C dx:Addr) (fs:List (Str×V))
  | own (x:Addr)
  | xd (fs:List (Str×V))
  | met (f x:Addr)
  | rng (lo hi:Int)
  | frz (o:Obj) (u:HO)
  | tbl (ps:Array Value)
  | ext (φ :Heap→Prop)
noncomputable abbrev Hp:=Addr→Option HO
noncomputable def upd (H:Hp) (a:Addr) (o:HO):Hp:=fun b=>if b=a then some o else H b
theorem zab {H:Hp}{a:Addr}{o:HO}:upd H a o a=some o:=by unfold upd;rw [if_pos rfl]
theorem zah {H:Hp}{a b:Addr}{o:HO}(h:b≠a):upd H a o b=H b:=by unfold upd;rw [if_neg h]
theorem zeZ {H:Hp}{a b:Addr}{o u:HO}(h:H a=some o)(h':H b=some u)(d:o≠u):a≠b:=by
 intro e;subst e;rw [h] at h';exact d (qF h')
theorem zai {H:Hp}{a b:Addr}{o:HO}(h:H a=some o)(h':H b=none):a≠b:=by
 intro e;subst e;rw [h] at h';cases h'
noncomputable def RdT (H:Hp) (b:Addr) (xs:List V):Prop:=H b=some (.tup xs)∨∃ o,H b=some (.frz o (.tup xs))
theorem RdT.put {H:Hp}{a c:Addr}{o:HO}{xs:List V}(q:RdT H c xs)(n:c≠a):RdT (upd H a o) c xs:=by
 rcases q with q | ⟨u,q⟩
 ·exact .inl (by rw [zah n];exact q)
 ·exact .inr ⟨u,by rw [zah n];exact q⟩
theorem RdT.upd {H:Hp}{a c:Addr}{o:HO}{xs:List V}(q:RdT H c xs)(n:H a=none):RdT (L2.upd H a o) c xs:=by
 rcases q with q | ⟨u,q⟩
 ·exact RdT.put (.inl q) (zai q n)
 ·exact RdT.put (.inr ⟨u,q⟩) (zai q n)
theorem RdT.same {H H':Hp}{c:Addr}{xs:List V}(q:RdT H c xs)(s:∀ b o,H b=some o→H' b=some o):RdT H' c xs:=by
 rcases q with q | ⟨u,q⟩
 ·exact .inl (s _ _ q)
 ·exact .inr ⟨u,s _ _ q⟩
theorem RdT.write {H:Hp}{D c:Addr}{l:List V}{o:HO}{xs:List V}(q:RdT H c xs)(hD:H D=some (.lst l)):RdT (L2.upd H D o) c xs:=by
 rcases q with q | ⟨u,q⟩
 ·exact RdT.put (.inl q) (zeZ q hD (fun z=>nomatch z))
 ·exact RdT.put (.inr ⟨u,q⟩) (zeZ q hD (fun z=>nomatch z))
theorem RdT.keep {H H':Hp}{c:Addr}{xs:List V}(q:RdT H c xs)(k:∀ o,H c=some o→(∃ ys,o= .tup ys∨∃ u,o= .frz u (.tup ys))→H' c=some o):RdT H' c xs:=by
 rcases q with q | ⟨u,q⟩
 ·exact .inl (k _ q ⟨xs,.inl rfl⟩)
 ·exact .inr ⟨u,k _ q ⟨xs,.inr ⟨u,rfl⟩⟩⟩
section
variable (P:Program) (w:World)
noncomputable def zbh (H:Hp) (h:Heap) (a:Addr):HO→Prop
 | .lst xs=>xs.length≤yK∧∃ (its:List Value) (n:Nat),Vals xs its∧h.get? a=some {cls:=.type "list",data:=.seq its.toArray n}
 | .tup xs=>xs.length≤yK∧∃ its:List Value,Vals xs its∧IsTup h a its.toArray
 | .dK kvs=>kvs.length≤yK∧(a==sysModules)=false∧∃ vs,KV kvs vs∧h.DictOf (zaG P w) a vs
 | .dT kvs=>kvs.length≤yK∧(a==sysModules)=false∧∃ xs:List (List Key×Addr×Value),
   Paired (fun (p:List Key×V) (q:List Key×Addr×Value)=>p.1=q.1∧RdT H q.2.1 (p.1.map kV)∧RelV p.2 q.2.2) kvs xs∧
   ∃ o es ep,h.get? a=some o∧o.ExactDict∧o.data= .dict es ep∧es.toList=xs.map (entryOfKey (tupleKind (zaG P w)))∧(xs.map (·.1)).Nodup
 | .set S n=>h.SetOf (intKind P w) a S n
 | .ins C dx fs=>H dx=some (.own a)∧fs.length≤1000∧dx≠a∧h.get? a=some (PySem.W.instObj C dx)∧
   ∃ mA,h.Ns1 dx mA∧(∀ f,RelO (fs.lookup f) (mA f))∧PySem.Within mA (fs.map (·.1))
 | .own _=>∃ o,h.get? a=some o
 | .xd fs=>∃ mA,h.Ns1 a mA∧∀ f,RelO (fs.lookup f) (mA f)
 | .rng lo hi=>∃ t u v,h.get? a=some {cls:=.type "range",data:=.fields #[.int lo t,.int hi u,.int 1 v]}
 | .frz o u=>h.get? a=some o∧zbh H h a u
 | .tbl ps=>h.get? a=some {cls:=.none,data:=.fields ps}
 | .met f x=>h.get? a=some (PySem.W.methodObj (.ref f) (.ref x))
 | .ext φ =>φ h∧(∃ o,h.get? a=some o)∧∀ h1 h2:Heap,φ h1→(∀ o,h1.get? a=some o→h2.get? a=some o)→φ h2
noncomputable def HOk (H:Hp) (h:Heap):Prop:=∀ a o,H a=some o→zbh P w H h a o
end
section
variable {P:Program} {w:World} {H H':Hp} {h h':Heap} {a:Addr} {o:HO}
theorem zbh.lt (x:zbh P w H h a o):a < h.objs.size:=by
 cases o with
 | lst xs=>obtain ⟨_,_,_,_,e⟩:=x;exact yS e
 | tup xs=>obtain ⟨_,_,_,p⟩:=x;exact p.lt
 | dK kvs=>obtain ⟨_,_,_,_,o,_,_,e,_⟩:=x;exact yS e
 | dT kvs=>obtain ⟨_,_,_,_,o,_,_,e,_⟩:=x;exact yS e
 | set S n=>obtain ⟨o,_,_,_,e,_⟩:=x;exact yS e
 | ins C dx fs=>obtain ⟨_,_,_,e,_⟩:=x;exact yS e
 | own y=>obtain ⟨_,e⟩:=x;exact yS e
 | xd fs=>obtain ⟨_,⟨_,_,_,e,_⟩,_⟩:=x;exact yS e
 | rng lo hi=>obtain ⟨_,_,_,e⟩:=x;exact yS e
 | frz ob u=>obtain ⟨e,_⟩:=x;exact yS e
 | tbl ps=>exact yS (show h.get? a=some _ from x)
 | met f y=>exact yS (show h.get? a=some _ from x)
 | ext φ =>obtain ⟨_,⟨_,e⟩,_⟩:=x;exact yS e
theorem Paired.mapP {α β :Type}{F G: α→β→Prop}:∀ {l₁ :List α} {l₂ :List β},Paired F l₁ l₂→(∀ a b,F a b→G a b)→Paired G l₁ l₂
 | _,_,.nil,_=>.nil
 | _,_,.cons r t,f=>.cons (f _ _ r) (Paired.mapP t f)
theorem zbh.stay (x:zbh P w H h a o)(k:∀ b u,(b=a∨H b=some (.own a))→h.get? b=some u→h'.get? b=some u)
  (ho:∀ b,H b=some (.own a)→H' b=some (.own a)) (ht:∀ b xs,RdT H b xs→RdT H' b xs):zbh P w H' h' a o:=by
 induction o with
 | lst xs=>obtain ⟨z,its,n,r,e⟩:=x;exact ⟨z,its,n,r,k _ _ (.inl rfl) e⟩
 | tup xs=>obtain ⟨z,its,r,ob,e,c⟩:=x;exact ⟨z,its,r,ob,k _ _ (.inl rfl) e,c⟩
 | dK kvs=>obtain ⟨z,y,vs,r,ob,es,ep,e,c⟩:=x;exact ⟨z,y,vs,r,ob,es,ep,k _ _ (.inl rfl) e,c⟩
 | dT kvs=>
  obtain ⟨z,y,xs,r,ob,es,ep,e,c⟩:=x
  exact ⟨z,y,xs,Paired.mapP r fun p q z=>⟨z.1,ht _ _ z.2.1,z.2.2⟩,ob,es,ep,k _ _ (.inl rfl) e,c⟩
 | set S n=>obtain ⟨ob,es,ep,t,e,c⟩:=x;exact ⟨ob,es,ep,t,k _ _ (.inl rfl) e,c⟩
 | ins C dx fs=>
  obtain ⟨d,z,ne,e,mA,⟨od,es,ep,e2,c⟩,r⟩:=x
  exact ⟨ho _ d,z,ne,k _ _ (.inl rfl) e,mA,⟨od,es,ep,k _ _ (.inr d) e2,c⟩,r⟩
 | own y=>obtain ⟨ob,e⟩:=x;exact ⟨ob,k _ _ (.inl rfl) e⟩
 | xd fs=>obtain ⟨mA,⟨od,es,ep,e,c⟩,r⟩:=x;exact ⟨mA,⟨od,es,ep,k _ _ (.inl rfl) e,c⟩,r⟩
 | rng lo hi=>obtain ⟨t,u,v,e⟩:=x;exact ⟨t,u,v,k _ _ (.inl rfl) e⟩
 | frz ob u ih=>obtain ⟨e,q⟩:=x;exact ⟨k _ _ (.inl rfl) e,ih q⟩
 | tbl ps=>
  have e:h.get? a=some {cls:=.none,data:=.fields ps}:=x
  show h'.get? a=some {cls:=.none,data:=.fields ps}
  exact k a _ (.inl rfl) e
 | met f y=>
  have e:h.get? a=some (PySem.W.methodObj (.ref f) (.ref y)):=x
  show h'.get? a=some (PySem.W.methodObj (.ref f) (.ref y))
  exact k a _ (.inl rfl) e
 | ext φ =>obtain ⟨p,⟨o,e⟩,st⟩:=x;exact ⟨st _ _ p fun o q=>k _ _ (.inl rfl) q,⟨o,k _ _ (.inl rfl) e⟩,st⟩
theorem HOk.lt (x:HOk P w H h)(e:H a=some o):a < h.objs.size:=(x a o e).lt
theorem HOk.fresh (x:HOk P w H h)(e:h.objs.size≤a):H a=none:=by
 cases q:H a with
 | none=>rfl
 | some u=>exact absurd (qB (x.lt q) e) (vJ _)
theorem HOk.kept (x:HOk P w H h)(k:∀ b u,h.get? b=some u→h'.get? b=some u):HOk P w H h':=fun a o e=>
 (x a o e).stay (fun b u _ q=>k b u q) (fun _ q=>q) fun _ _ q=>q
theorem HOk.laid (x:HOk P w H h)(k:∀ b u,h.get? b=some u→h'.get? b=some u)(hp:h.objs.size≤a)(new:zbh P w (upd H a o) h' a o):HOk P w (upd H a o) h':=fun b u e=>by
 have hn:=x.fresh hp
 by_cases hb:b=a
 ·subst hb;rw [zab] at e;cases e;exact new
 ·rw [zah hb] at e
  exact (x b u e).stay (fun c v _ q=>k c v q) (fun c q=>by rw [zah (zai q hn)];exact q) fun c xs q=>q.upd hn
end
noncomputable def Rd (H:Hp) (a:Addr) (u:HO):Prop:=H a=some u∨∃ o,H a=some (.frz o u)
theorem Rd.of {H:Hp}{a:Addr}{u:HO}(h:H a=some u):Rd H a u:=.inl h
theorem Rd.ok {P:Program}{w:World}{H:Hp}{h:Heap}{a:Addr}{u:HO}(r:Rd H a u)(x:HOk P w H h):zbh P w H h a u:=by
 rcases r with r | ⟨o,r⟩
 ·exact x a u r
 ·obtain ⟨_,q⟩:=x a _ r
  exact q
noncomputable def Mut:Option HO→Prop
 | some (.lst _)=>True
 | some (.dK _)=>True
 | some (.dT _)=>True
 | some (.set _ _)=>True
 | some (.ins _ _ _)=>True
 | some (.ext _)=>True
 | _=>False
section
variable {P:Program} {w:World} {H:Hp} {h h':Heap} {x e:Addr} {o':HO}
theorem HOk.write (ok:HOk P w H h)(mu:Mut (H x))(he:e=x∨H e=some (.own x))(k:∀ b u,b≠e→h.get? b=some u→h'.get? b=some u)(heo:∃ u,h'.get? e=some u)
  (new:zbh P w (upd H x o') h' x o'):HOk P w (upd H x o') h':=fun b u q=>by
 have nown:∀ c y,H c=some (.own y)→c≠x:=fun c y r z=>by subst z;rw [r] at mu;exact mu
 have ntup:∀ c xs,RdT H c xs→c≠x:=fun c xs r z=>by subst z;rcases r with r | ⟨_,r⟩ <;> (rw [r] at mu;exact mu)
 by_cases hb:b=x
 ·subst hb;rw [zab] at q;cases q;exact new
 ·rw [zah hb] at q
  by_cases hbe:b=e
  ·have q':H b=some (.own x):=by
    rcases he with z | z
    ·exact absurd (hbe.trans z) hb
    ·rw [hbe];exact z
   rw [q] at q';cases q'
   obtain ⟨v,hv⟩:=heo
   exact ⟨v,by rw [hbe];exact hv⟩
  ·refine (ok b u q).stay (fun c v hc r=>k c v ?_ r) (fun c r=>by rw [zah (nown c b r)];exact r) fun c xs r=>r.put (ntup c xs r)
   rcases hc with rfl | hc
   ·exact hbe
   ·rintro rfl
    rcases he with z | z
    ·exact nown c b hc z
    ·rw [hc] at z;cases z;exact hb rfl
end
structure Un (fs ex:List Addr) (H H':Hp) (h h':Heap):Prop where
 keep:∀ b o,h.get? b=some o→H b=none→b∉fs→b∉ex→h'.get? b=some o
 slot:∀ b o,h.get? b=some o→H b=none→b∈fs→b∉ex→∃ sl,h'.get? b=some {o with slots:=sl}
 free:∀ b o,h.get? b=some o→H b=none→b∉ex→H' b=none
 there:∀ b o,h.get? b=some o→b∉ex→∃ o',h'.get? b=some o'
 tups:∀ b xs,H b=some (.tup xs)→H' b=some (.tup xs)
 frzs:∀ b o u,H b=some (.frz o u)→H' b=some (.frz o u)
 tbls:∀ b ps,H b=some (.tbl ps)→∃ more,H' b=some (.tbl (ps++more))
section
variable {fs fs' ex ex':List Addr} {H H1 H2:Hp} {h h1 h2 h':Heap} {a x e:Addr} {o:HO}
theorem Un.any (u:Un fs ex H H1 h h1){b:Addr}{ob:Obj}(q:h.get? b=some ob)(n:H b=none)(hx:b∉ex):∃ sl,h1.get? b=some {ob with slots:=sl}:=by
 by_cases hb:b∈fs
 ·exact u.slot b ob q n hb hx
 ·exact ⟨ob.slots,u.keep b ob q n hb hx⟩
theorem Un.trans (a:Un fs ex H H1 h h1)(b:Un fs ex H1 H2 h1 h2):Un fs ex H H2 h h2 where
 keep:=fun c ob q n hc hx=>b.keep c ob (a.keep c ob q n hc hx) (a.free c ob q n hx) hc hx
 slot:=fun c ob q n hc hx=>by
  obtain ⟨sl,e1⟩:=a.slot c ob q n hc hx
  obtain ⟨sl',e2⟩:=b.slot c _ e1 (a.free c ob q n hx) hc hx
  exact ⟨sl',e2⟩
 free:=fun c ob q n hx=>by
  obtain ⟨o',e1⟩:=a.there c ob q hx
  exact b.free c o' e1 (a.free c ob q n hx) hx
 there:=fun c ob q hx=>by
  obtain ⟨o',e1⟩:=a.there c ob q hx
  exact b.there c o' e1 hx
 tups:=fun c xs q=>b.tups c xs (a.tups c xs q)
 frzs:=fun c ob xs q=>b.frzs c ob xs (a.frzs c ob xs q)
 tbls:=fun c ps q=>by
  obtain ⟨m1,e1⟩:=a.tbls c ps q
  obtain ⟨m2,e2⟩:=b.tbls c _ e1
  exact ⟨m1++m2,by rw [e2,ybL]⟩
theorem Un.kept (k:∀ b u,h.get? b=some u→h'.get? b=some u):Un fs ex H H h h':=
 ⟨fun b ob q _ _ _=>k b ob q,fun b ob q _ _ _=>⟨ob.slots,k b ob q⟩,fun _ _ _ n _=>n,fun b ob q _=>⟨ob,k b ob q⟩,fun _ _ q=>q,fun _ _ _ q=>q,fun _ ps q=>⟨#[],by rw [q];simp⟩⟩
theorem Un.refl:Un fs ex H H h h:=Un.kept fun _ _ q=>q
theorem Un.laid (k:∀ b u,h.get? b=some u→h'.get? b=some u)(hp:h.objs.size≤a)(hn:H a=none):Un fs ex H (upd H a o) h h' where
 keep:=fun b u q _ _ _=>k b u q
 slot:=fun b u q _ _ _=>⟨u.slots,k b u q⟩
 free:=fun b u q n _=>by rw [zah (qA (qB (yS q) hp))];exact n
 there:=fun b u q _=>⟨u,k b u q⟩
 tups:=fun b xs q=>by rw [zah (zai q hn)];exact q
 frzs:=fun b u xs q=>by rw [zah (zai q hn)];exact q
 tbls:=fun b ps q=>⟨#[],by rw [zah (zai q hn),q];simp⟩
theorem Un.write (mu:Mut (H x))(he:e=x∨H e=some (.own x))(k:∀ b u,b≠e→h.get? b=some u→h'.get? b=some u)(heo:∃ u,h'.get? e=some u):Un fs ex H (upd H x o) h h':=by
 have hx:∀ b,H b=none→b≠x:=fun b n z=>by subst z;rw [n] at mu;exact mu
 have hb:∀ b,H b=none→b≠e:=fun b n z=>by
  subst z
  rcases he with r | r
  ·exact hx b n r
  ·rw [n] at r;cases r
 have hm:∀ b u,H b=some u→¬Mut (some u)→b≠x:=fun b u q nm z=>by subst z;rw [q] at mu;exact nm mu
 refine ⟨fun b u q n _ _=>k b u (hb b n) q,fun b u q n _ _=>⟨u.slots,k b u (hb b n) q⟩,fun b u q n _=>by rw [zah (hx b n)];exact n,fun b u q _=>?_,
  fun b xs q=>by rw [zah (hm b _ q fun z=>z)];exact q,fun b u xs q=>by rw [zah (hm b _ q fun z=>z)];exact q,fun b ps q=>⟨#[],by rw [zah (hm b _ q fun z=>z),q];simp⟩⟩
 by_cases hbe:b=e
 ·subst hbe;exact heo
 ·exact ⟨u,k b u hbe q⟩
theorem Un.mono (u:Un fs ex H H1 h h1)(hs:∀ b∈fs,b∈fs')(hx:∀ b∈ex,b∈ex'):Un fs' ex' H H1 h h1:=
 ⟨fun b ob q n hb he=>u.keep b ob q n (fun z=>hb (hs b z)) fun z=>he (hx b z),fun _ _ q n _ he=>u.any q n fun z=>he (hx _ z),fun b ob q n he=>u.free b ob q n fun z=>he (hx b z),fun b ob q he=>u.there b ob q fun z=>he (hx b z),u.tups,u.frzs,u.tbls⟩
end
noncomputable def trk (h:Heap) (H:Hp):List Addr:=(qI h.objs.size).filter fun a=>(H a).isSome
noncomputable def hidT (h:Heap) (H:Hp):Heap:=PySem.W.hideAll h (trk h H)
theorem zli (h:Heap)(H:Hp):(hidT h H).objs.size=h.objs.size:=PySem.W.hideAll_size _ _
theorem znf {h:Heap}{H:Hp}{b:Addr}{o:Obj}(e:h.get? b=some o)(n:H b=none):(hidT h H).get? b=some o:=
 PySem.W.hideAll_get _ e fun hm=>by
  have q:(H b).isSome=true:=(yT.mp hm).2
  rw [n] at q;simp at q
theorem znR {h:Heap}{H:Hp}{b:Addr}{o:Obj}(e:(hidT h H).get? b=some o):h.get? b=some o∧H b=none:=by
 have e':h.get? b=some o:=PySem.W.of_hideAll (trk h H) e
 refine ⟨e',?_⟩
 cases q:H b with
 | none=>rfl
 | some x=>
  have hm:b∈trk h H:=yT.mpr ⟨qN.mpr (yS e'),by simp [q]⟩
  have z:(hidT h H).get? b=none:=PySem.W.hideAll_none (trk h H) hm
  rw [z] at e;cases e
noncomputable def zov (g h:Heap) (L:Addr):List (Addr×Obj):=(qI h.objs.size).filterMap fun a=>if a=L∨(g.get? a).isSome=true then none else (h.get? a).map fun o=>(a,o)
noncomputable def rest (g h:Heap) (L d:Addr):List (Addr×Obj):=(zov g h L).filter fun p=>decide (p.1≠d)
structure Mod (K:PySem.W.Frag) (mg:Str→Option Value) (base:Heap):Prop where
 kin:K.In base
 glob:base.Ns qQ mg
 blt:∃ mb,base.Ns builtinsNs mb∧∀ x:Str,x≠"__name__"→mb x=bootBuiltins x
 nolimit:base.NoLimit
structure Cx where
 prog:Program
 w:World
 K:PySem.W.Frag
 mg:Str→Option Value
 base:Heap
 A:Around
 N:List Str
 s₀ :Shared
 H₀ :Hp
 env:Env
 outer:List Env
 stack:List Env
 ex:List Addr
 fn:Str→Bool
 calm:Bool
 pn:List (Addr×Obj)
 xe:Value→Shared→Prop
noncomputable def frs (l:List Env):List Addr:=l.filterMap (·.frame)
noncomputable abbrev Cx.fs (X:Cx):List Addr:=frs X.outer
noncomputable def Vis (sc:Scope) (x:Str):Prop:=sc.names.lookup x=some .local∨sc.names.lookup x=some .cell∨sc.names.lookup x=some .free
noncomputable def Loc (sc:Scope) (x:Str):Prop:=sc.names.lookup x=some .local∨sc.names.lookup x=some .cell
noncomputable def Look (env:Env) (h:Heap) (m:Str→Option Value) (x:Str) (u:Value):Prop:=
 (env.kindOf x=some .local∧m x=some u)∨((env.kindOf x=some .cell∨env.kindOf x=some .free)∧∃ c,env.cells.lookup x=some c∧h.IsCell c (some u))
structure Cx.Ok (X:Cx):Prop where
 mod:Mod X.K X.mg X.base
 kind:X.env.scope.kind= .function
 glob:X.env.globals=qQ
 blt:X.env.builtins=builtinsNs
 above:X.s₀.heap.objs.size≤X.env.locals
 inj:∀ x y c,X.env.cells.lookup x=some c→X.env.cells.lookup y=some c→x=y
 has:∀ x,(X.env.kindOf x=some .cell∨X.env.kindOf x=some .free)→∃ c,X.env.cells.lookup x=some c
 cab:∀ x c,X.fn x=true→X.env.cells.lookup x=some c→X.s₀.heap.objs.size≤c
 hd:X.calm=true→X.A.handled=none
 frames:X.A.frames=some X.stack
 stk:X.stack=X.outer∨(X.stack=X.env::X.outer∧X.env.frame=some X.env.locals)
 exf:∀ b∈X.ex,b≠X.env.locals∧∀ x c,X.env.cells.lookup x=some c→c≠b
 bs:∀ b o,X.base.get? b=some o→X.s₀.heap.get? b=some o∧X.H₀ b=none
 bsz:X.base.objs.size≤X.s₀.heap.objs.size
 noex:∀ b o,X.base.get? b=some o→b∉X.ex
 exfs:∀ b∈X.ex,b∉X.fs
 funs:X.s₀.heap.FunFrames X.base X.outer
 frf:∀ b∈X.fs,X.H₀ b=none
structure Inv (X:Cx) (pins:List (Addr×Obj)) (σ :List (Option V)) (H:Hp) (s:Shared):Prop where
 ok:X.Ok
 os:s.os=X.s₀.os
 bare:AllBare s.gens
 base:Un X.fs X.ex X.H₀ H X.s₀.heap s.heap
 loc:∃ m,s.heap.Ns X.env.locals m∧∀ (i:Nat) (x:Str) (v:V),X.N[i]? =some x→σ[i]? =some (some v)→Vis X.env.scope x→∃ u,RelV v u∧Look X.env s.heap m x u
 cell:∀ x c,X.env.cells.lookup x=some c→∃ v,s.heap.IsCell c v
 free:H X.env.locals=none
 freeC:∀ x c,X.env.cells.lookup x=some c→H c=none
 pin:∀ p∈X.pn++pins,s.heap.get? p.1=some p.2∧H p.1=none∧p.1≠X.env.locals∧p.1∉X.fs∧∀ v,p.2.data≠.cell v
 hok:HOk X.prog X.w H s.heap
 len: σ.length=X.N.length
section
variable {X:Cx} {pins:List (Addr×Obj)} {σ :List (Option V)} {H H':Hp} {s:Shared} {h':Heap}
theorem Cx.Ok.nofr (ok:X.Ok){b:Addr}{o:Obj}(e:X.base.get? b=some o):b∉X.fs:=fun hb=>by
 have:=(ok.funs.mem hb).1
 rw [e] at this;cases this
theorem Inv.bs (I:Inv X pins σ H s):∀ b o,X.base.get? b=some o→s.heap.get? b=some o∧H b=none:=fun b o e=>
 ⟨I.base.keep b o (I.ok.bs b o e).1 (I.ok.bs b o e).2 (I.ok.nofr e) (I.ok.noex b o e),I.base.free b o (I.ok.bs b o e).1 (I.ok.bs b o e).2 (I.ok.noex b o e)⟩
theorem Inv.bk (I:Inv X pins σ H s):∀ b o,X.base.get? b=some o→s.heap.get? b=some o:=fun b o e=>(I.bs b o e).1
theorem Inv.mod (I:Inv X pins σ H s):Mod X.K X.mg X.base:=I.ok.mod
theorem Inv.kIn (I:Inv X pins σ H s):X.K.In s.heap:=I.ok.mod.kin.keeps I.bk
theorem Inv.nolimit (I:Inv X pins σ H s):s.heap.NoLimit:=I.ok.mod.nolimit.keeps I.bk
theorem Inv.lt (I:Inv X pins σ H s):X.env.locals < s.heap.objs.size:=let ⟨_,hn,_⟩:=I.loc;hn.lt
theorem Inv.sz (I:Inv X pins σ H s):X.s₀.heap.objs.size≤s.heap.objs.size:=jY I.ok.above (wP I.lt)
theorem Inv.nofs (I:Inv X pins σ H s){a:Addr}(h:s.heap.objs.size≤a):a∉X.fs:=fun hb=>by
 obtain ⟨_,o,ho,_⟩:=I.ok.funs.mem hb
 exact absurd (qB (yS ho) (jY I.sz h)) (vJ _)
theorem Inv.cne (I:Inv X pins σ H s):∀ x c,X.env.cells.lookup x=some c→c≠X.env.locals:=fun x c e z=>by
 obtain ⟨v,o,ho,hd⟩:=I.cell x c e
 obtain ⟨m,⟨o',es,ep,ho',hd',_⟩,_⟩:=I.loc
 rw [z,ho'] at ho;cases ho;rw [hd'] at hd;cases hd
theorem Inv.funs (I:Inv X pins σ H s):s.heap.FunFrames X.base X.outer:=by
 have all:∀ (l:List Env),(∀ b∈frs l,b∈X.fs)→X.s₀.heap.FunFrames X.base l→s.heap.FunFrames X.base l:=by
  intro l
  induction l with
  | nil=>intro _ _;trivial
  | cons env r ih=>
   intro hs hl
   obtain ⟨hk,⟨L,o,hf,hn,ho,hd⟩,hr⟩:=hl
   have hL:L∈X.fs:=hs L (by unfold frs;rw [wH,hf];exact vK)
   obtain ⟨sl,e⟩:=I.base.slot L o ho (I.ok.frf L hL) hL fun z=>I.ok.exfs L z hL
   exact ⟨hk,⟨L,_,hf,hn,e,hd⟩,ih (fun b hb=>hs b (by unfold frs;rw [wH,hf];exact xW _ hb)) hr⟩
 exact all X.outer (fun _ hb=>hb) I.ok.funs
theorem Inv.stack (I:Inv X pins σ H s):s.heap.FunFrames X.base X.stack:=by
 rcases I.ok.stk with e | ⟨e,hf⟩
 ·rw [e];exact I.funs
 ·rw [e]
  obtain ⟨m,hn,_⟩:=I.loc
  refine .cons (by rw [I.ok.kind];decide) hf hn ?_ I.funs
  exact yat (jY I.ok.bsz I.ok.above)
theorem Inv.stkSub (I:Inv X pins σ H s):∀ b∈frs X.stack,b∈X.env.locals::X.fs:=fun b hb=>by
 rcases I.ok.stk with e | ⟨e,hf⟩
 ·rw [e] at hb;exact xW _ hb
 ·rw [e] at hb
  unfold frs at hb
  rw [wH,hf] at hb
  exact hb
theorem Inv.stkFree (I:Inv X pins σ H s):∀ b∈frs X.stack,H b=none:=fun b hb=>by
 rcases yY.mp (I.stkSub b hb) with e | hb
 ·rw [e];exact I.free
 ·obtain ⟨_,o,ho,_⟩:=I.ok.funs.mem hb
  exact I.base.free b o ho (I.ok.frf b hb) fun z=>I.ok.exfs b z hb
theorem Inv.step {g':Array GenState}{t':Nat}{d':Drawn}{ch:List Addr}(I:Inv X pins σ H s)
  (hch:∀ b∈ch,(b∈X.ex∨X.s₀.heap.objs.size≤b)∧b≠X.env.locals∧(∀ x c,X.env.cells.lookup x=some c→c≠b)∧∀ p∈X.pn++pins,p.1≠b)
  (keep:∀ b o,b≠X.env.locals→b∉X.fs→b∉ch→s.heap.get? b=some o→H b=none→h'.get? b=some o)
  (slot:∀ b o,b≠X.env.locals→b∈X.fs→b∉ch→s.heap.get? b=some o→H b=none→∃ sl,h'.get? b=some {o with slots:=sl}) (free:∀ b o,b∉ch→s.heap.get? b=some o→H b=none→H' b=none)
  (there:∀ b o,b∉ch→s.heap.get? b=some o→∃ o',h'.get? b=some o')
  (tups:∀ b xs,H b=some (.tup xs)→H' b=some (.tup xs)) (frzs:∀ b o u,H b=some (.frz o u)→H' b=some (.frz o u)) (tbls:∀ b ps,H b=some (.tbl ps)→∃ more,H' b=some (.tbl (ps++more)))
  (ns:∀ m,s.heap.Ns X.env.locals m→h'.Ns X.env.locals m) (hok:HOk X.prog X.w H' h') (hg:AllBare g'):
  Inv X pins σ H' {s with heap:=h',gens:=g',drawn:=d',toks:=t'}:=by
 have neL:∀ b o,X.s₀.heap.get? b=some o→b≠X.env.locals:=fun b o e=>qA (qB (yS e) I.ok.above)
 have neC:∀ b o,X.s₀.heap.get? b=some o→b∉X.ex→b∉ch:=fun b o e hx hb=>by
  rcases (hch b hb).1 with z | z
  ·exact hx z
  ·exact absurd (qB (yS e) z) (vJ _)
 have cellK:∀ x c,X.env.cells.lookup x=some c→∀ v,s.heap.IsCell c v→h'.IsCell c v:=fun x c e v ⟨o,ho,hd⟩=>by
  have nch:c∉ch:=fun z=>(hch c z).2.2.1 x c e rfl
  by_cases hc:c∈X.fs
  ·obtain ⟨sl,q⟩:=slot c o (I.cne x c e) hc nch ho (I.freeC x c e)
   exact ⟨_,q,hd⟩
  ·exact ⟨o,keep c o (I.cne x c e) hc nch ho (I.freeC x c e),hd⟩
 refine ⟨I.ok,I.os,hg,⟨fun b o e n hb hx=>?_,fun b o e n hb hx=>?_,fun b o e n hx=>?_,fun b o e hx=>?_,fun b xs e=>tups b xs (I.base.tups b xs e),fun b o xs e=>frzs b o xs (I.base.frzs b o xs e),fun b ps e=>?_⟩,?_,fun x c e=>?_,?_,fun x c e=>?_,fun p hp=>?_,hok,I.len⟩
 ·exact keep b o (neL b o e) hb (neC b o e hx) (I.base.keep b o e n hb hx) (I.base.free b o e n hx)
 ·obtain ⟨sl,e1⟩:=I.base.slot b o e n hb hx
  obtain ⟨sl',e2⟩:=slot b _ (neL b o e) hb (neC b o e hx) e1 (I.base.free b o e n hx)
  exact ⟨sl',e2⟩
 ·obtain ⟨o',e1⟩:=I.base.there b o e hx
  exact free b o' (neC b o e hx) e1 (I.base.free b o e n hx)
 ·obtain ⟨o',e1⟩:=I.base.there b o e hx
  exact there b o' (neC b o e hx) e1
 ·obtain ⟨m1,e1⟩:=I.base.tbls b ps e
  obtain ⟨m2,e2⟩:=tbls b _ e1
  exact ⟨m1++m2,by rw [e2,ybL]⟩
 ·obtain ⟨m,hn,hl⟩:=I.loc
  refine ⟨m,ns m hn,fun i x v e1 e2 e3=>?_⟩
  obtain ⟨u,r,l⟩:=hl i x v e1 e2 e3
  refine ⟨u,r,?_⟩
  rcases l with l | ⟨k,c,e,z⟩
  ·exact .inl l
  ·exact .inr ⟨k,c,e,cellK x c e _ z⟩
 ·obtain ⟨v,z⟩:=I.cell x c e
  exact ⟨v,cellK x c e v z⟩
 ·obtain ⟨m,⟨o,_,_,ho,_⟩,_⟩:=I.loc
  exact free _ o (fun z=>(hch _ z).2.1 rfl) ho I.free
 ·obtain ⟨v,o,ho,hd⟩:=I.cell x c e
  exact free c o (fun z=>(hch c z).2.2.1 x c e rfl) ho (I.freeC x c e)
 ·obtain ⟨e,n,ne,nf,d⟩:=I.pin p hp
  have nch:p.1∉ch:=fun z=>(hch p.1 z).2.2.2 p hp rfl
  exact ⟨keep p.1 p.2 ne nf nch e n,free p.1 p.2 nch e n,ne,nf,d⟩
theorem Inv.un {t':Nat}(I:Inv X pins σ H s)(u:Un X.fs [] H H' s.heap h')(hok:HOk X.prog X.w H' h'):Inv X pins σ H' {s with heap:=h',toks:=t'}:=by
 obtain ⟨m,⟨o,es,ep,ho,r⟩,_⟩:=id I.loc
 obtain ⟨sl,hL⟩:=u.any ho I.free (by simp)
 exact I.step (g':=s.gens) (d':=s.drawn) (ch:=[]) (fun _ z=>nomatch z) (fun b o _ hb _ e n=>u.keep b o e n hb (by simp)) (fun b o _ hb _ e n=>u.slot b o e n hb (by simp)) (fun b o _ e n=>u.free b o e n (by simp)) (fun b o _ e=>u.there b o e (by simp)) u.tups u.frzs u.tbls (fun m' hm=>by
  obtain ⟨o',es',ep',ho',r'⟩:=hm
  rw [ho] at ho';cases ho'
  exact ⟨_,es',ep',hL,r'⟩) hok I.bare
theorem Inv.call {g':Array GenState}{t':Nat}{d':Drawn}{ch:List Addr}(I:Inv X pins σ H s)(u:Un (frs X.stack) ch H H' s.heap h')(hok:HOk X.prog X.w H' h')(hg:AllBare g')
  (hch:∀ b∈ch,(b∈X.ex∨X.s₀.heap.objs.size≤b)∧b≠X.env.locals∧(∀ x c,X.env.cells.lookup x=some c→c≠b)∧∀ p∈X.pn++pins,p.1≠b):
  Inv X pins σ H' {s with heap:=h',gens:=g',drawn:=d',toks:=t'}:=by
 obtain ⟨m,⟨o,es,ep,ho,r⟩,_⟩:=id I.loc
 obtain ⟨sl,hL⟩:=u.any ho I.free fun z=>(hch _ z).2.1 rfl
 exact I.step (ch:=ch) hch (fun b o hL hb hc e n=>u.keep b o e n (fun z=>(yY.mp (I.stkSub b z)).elim hL hb) hc) (fun b o _ _ hc e n=>u.any e n hc) (fun b o hc e n=>u.free b o e n hc) (fun b o hc e=>u.there b o e hc) u.tups u.frzs u.tbls (fun m' hm=>by
  obtain ⟨o',es',ep',ho',r'⟩:=hm
  rw [ho] at ho';cases ho'
  exact ⟨_,es',ep',hL,r'⟩) hok hg
theorem Inv.turned {t':Nat}{it:Addr}(I:Inv X pins σ H s)(k:∀ b o,b≠it→s.heap.get? b=some o→h'.get? b=some o)(hn:H it=none)(hL:it≠X.env.locals)
  (h1:it∈X.ex∨X.s₀.heap.objs.size≤it) (h2:∀ x c,X.env.cells.lookup x=some c→c≠it) (h3:∀ p∈X.pn++pins,p.1≠it):Inv X pins σ H {s with heap:=h',toks:=t'}:=by
 have nit:∀ b u,H b=some u→b≠it:=fun b u e z=>by rw [z,hn] at e;cases e
 refine I.step (g':=s.gens) (d':=s.drawn) (ch:=[it]) (fun b hb=>?_) (fun b o _ _ hc e _=>k b o (fun z=>hc (by simp [z])) e) (fun b o _ _ hc e _=>⟨o.slots,k b o (fun z=>hc (by simp [z])) e⟩) (fun _ _ _ _ n=>n)
  (fun b o hc e=>⟨o,k b o (fun z=>hc (by simp [z])) e⟩) (fun _ _ e=>e) (fun _ _ _ e=>e) (fun b ps e=>⟨#[],by rw [e];simp⟩) (fun m hm=>?_) (fun b u e=>?_) I.bare
 ·have e:b=it:=by simpa using hb
  subst e
  exact ⟨h1,hL,h2,h3⟩
 ·obtain ⟨o,es,ep,ho,r⟩:=hm
  exact ⟨o,es,ep,k _ o (qR hL) ho,r⟩
 ·refine (I.hok b u e).stay (fun c v hc q=>k c v ?_ q) (fun _ q=>q) fun _ _ q=>q
  rcases hc with z | z
  ·rw [z];exact nit b u e
  ·exact nit c _ z
theorem Inv.tok (I:Inv X pins σ H s)(t:Nat):Inv X pins σ H {s with toks:=t}:=I.un (h':=s.heap) (t':=t) Un.refl I.hok
theorem Inv.kept {t':Nat}(I:Inv X pins σ H s)(k:∀ b u,s.heap.get? b=some u→h'.get? b=some u):Inv X pins σ H {s with heap:=h',toks:=t'}:=I.un (Un.kept k) (I.hok.kept k)
theorem Inv.laid {a:Addr}{o:HO}{t':Nat}(I:Inv X pins σ H s)(k:∀ b u,s.heap.get? b=some u→h'.get? b=some u)(hp:s.heap.objs.size≤a)(new:zbh X.prog X.w (upd H a o) h' a o):
  Inv X pins σ (upd H a o) {s with heap:=h',toks:=t'}:=I.un (Un.laid k hp (I.hok.fresh hp)) (I.hok.laid k hp new)
theorem Inv.write {x e:Addr}{o:HO}{t':Nat}(I:Inv X pins σ H s)(mu:Mut (H x))(he:e=x∨H e=some (.own x))(k:∀ b u,b≠e→s.heap.get? b=some u→h'.get? b=some u)(heo:∃ u,h'.get? e=some u)
  (new:zbh X.prog X.w (upd H x o) h' x o):Inv X pins σ (upd H x o) {s with heap:=h',toks:=t'}:=I.un (Un.write mu he k heo) (I.hok.write mu he k heo new)
theorem Inv.weak {σ':List (Option V)}(I:Inv X pins σ H s)(hl: σ'.length= σ.length)(w:∀ (i:Nat) v,σ'[i]? =some (some v)→σ[i]? =some (some v)):Inv X pins σ' H s:=
 ⟨I.ok,I.os,I.bare,I.base,let ⟨m,hn,hl'⟩:=I.loc;⟨m,hn,fun i x v e1 e2 e3=>hl' i x v e1 (w i v e2) e3⟩,I.cell,I.free,I.freeC,I.pin,I.hok,hl.trans I.len⟩
theorem Inv.pins_of {pins':List (Addr×Obj)}(I:Inv X pins σ H s)(h:∀ p∈pins',s.heap.get? p.1=some p.2∧H p.1=none∧p.1≠X.env.locals∧p.1∉X.fs∧∀ v,p.2.data≠.cell v):Inv X pins' σ H s:=
 ⟨I.ok,I.os,I.bare,I.base,I.loc,I.cell,I.free,I.freeC,fun p hp=>(qG.mp hp).elim (fun z=>I.pin p (vP _ z)) (h p),I.hok,I.len⟩
theorem zi3 {N:List Str}(hN:N.Nodup){i j:Nat}{x:Str}(a:N[i]? =some x)(b:N[j]? =some x):i=j:=by
 obtain ⟨h1,e1⟩:=yE.mp a
 obtain ⟨h2,e2⟩:=yE.mp b
 exact (yb4 hN).mp (e1.trans e2.symm)
theorem zhK {M:Model}{A:Around}{E:Value→Shared→Prop}{i:Nat}{x:Str}{v:V}{u:Value}{Q:Unit→Shared→Prop}(I:Inv X pins σ H s)(hN:X.N.Nodup)(hi:X.N[i]? =some x)(hx:Loc X.env.scope x)(r:RelV v u)
  (h:∀ s',Inv X pins (σ.set i (some v)) H s'→(∃ a,qX a s.heap s'.heap∧(a=X.env.locals∨X.env.cells.lookup x=some a))→Q () s') (hf:X.fn x=true∨X.env.scope.names.lookup x=some .local:=by first | exact .inl rfl | exact .inr rfl | assumption):wpAny M A (storeName X.env x u) Q E s:=by
 obtain ⟨m,hn,hl⟩:=id I.loc
 have hcls:(X.env.scope.kind== .class || (X.env.scope.kind== .module && X.env.locals !=X.env.globals))=false:=by rw [I.ok.kind];rfl
 have hiσ :i < σ.length:=by rw [I.len];exact (yE.mp hi).1
 have cne:=I.cne
 have tracked:∀ {a:Addr} {h':Heap},(∃ o,s.heap.get? a=some o∧H a=none)→qX a s.heap h'→HOk X.prog X.w H h':=fun {a h'} ha hs b ob e=>by
  obtain ⟨_,_,hfree⟩:=ha
  refine (I.hok b ob e).stay (fun c w' hc q=>(hs.2 c ?_).trans q) (fun _ q=>q) fun _ _ q=>q
  rintro rfl
  rcases hc with rfl | hc
  ·rw [hfree] at e;cases e
  ·rw [hfree] at hc;cases hc
 rcases hx with hk | hk
 ·refine wpAny_storeName_local hk hn (fun h' hn' hs=>?_) hcls
  obtain ⟨oL,_,_,hoL,_⟩:=id hn
  refine h _ ⟨I.ok,I.os,I.bare,⟨fun b o e n hb hx=>?_,fun b o e n hb hx=>?_,I.base.free,fun b o e hx=>?_,I.base.tups,I.base.frzs,I.base.tbls⟩,⟨_,hn',fun j y v' e1 e2 e3=>?_⟩,fun y c e=>?_,I.free,I.freeC,fun p hp=>?_,tracked ⟨oL,hoL,I.free⟩ hs,by simpa using I.len⟩ ⟨_,hs,.inl rfl⟩
  ·exact (hs.2 b (qA (qB (yS e) I.ok.above))).trans (I.base.keep b o e n hb hx)
  ·obtain ⟨sl,e1⟩:=I.base.slot b o e n hb hx
   exact ⟨sl,(hs.2 b (qA (qB (yS e) I.ok.above))).trans e1⟩
  ·obtain ⟨o',e1⟩:=I.base.there b o e hx
   exact ⟨o',(hs.2 b (qA (qB (yS e) I.ok.above))).trans e1⟩
  ·by_cases hj:j=i
   ·subst hj
    rw [hi] at e1;cases e1
    rw [wY hiσ] at e2
    cases e2
    exact ⟨u,r,.inl ⟨hk,by simp⟩⟩
   ·rw [vQ (qR hj)] at e2
    obtain ⟨u',r',q⟩:=hl j y v' e1 e2 e3
    refine ⟨u',r',?_⟩
    rcases q with ⟨k,e⟩ | ⟨k,c,e,z⟩
    ·refine .inl ⟨k,?_⟩
     have:y≠x:=fun e=>hj (zi3 hN e1 (e ▸ hi))
     simp [this,e]
    ·exact .inr ⟨k,c,e,z.sameBut hs (cne y c e)⟩
  ·obtain ⟨w',z⟩:=I.cell y c e
   exact ⟨w',z.sameBut hs (cne y c e)⟩
  ·obtain ⟨e,n,ne,nf,d⟩:=I.pin p hp
   exact ⟨(hs.2 p.1 ne).trans e,n,ne,nf,d⟩
 ·have hfn:X.fn x=true:=by
   rcases hf with z | z
   ·exact z
   ·rw [z] at hk;cases hk
  obtain ⟨c,hc⟩:=I.ok.has x (.inl hk)
  obtain ⟨w',z⟩:=I.cell x c hc
  refine wpAny_storeName_cell I.ok.kind hk hc z (fun h' hc' hs=>?_)
  obtain ⟨oc,hoc,hocd⟩:=id z
  refine h {s with heap:=h'} ⟨I.ok,I.os,I.bare,⟨fun b o e n hb hx=>?_,fun b o e n hb hx=>?_,I.base.free,fun b o e hx=>?_,I.base.tups,I.base.frzs,I.base.tbls⟩,⟨m,hn.sameBut hs (qR (cne x c hc)),fun j y v' e1 e2 e3=>?_⟩,fun y c' e=>?_,I.free,I.freeC,fun p hp=>?_,tracked ⟨oc,hoc,I.freeC x c hc⟩ hs,by simpa using I.len⟩ ⟨c,hs,.inr hc⟩
  ·exact (hs.2 b (qA (qB (yS e) (I.ok.cab x c hfn hc)))).trans (I.base.keep b o e n hb hx)
  ·obtain ⟨sl,e1⟩:=I.base.slot b o e n hb hx
   exact ⟨sl,(hs.2 b (qA (qB (yS e) (I.ok.cab x c hfn hc)))).trans e1⟩
  ·obtain ⟨o',e1⟩:=I.base.there b o e hx
   exact ⟨o',(hs.2 b (qA (qB (yS e) (I.ok.cab x c hfn hc)))).trans e1⟩
  ·by_cases hj:j=i
   ·subst hj
    rw [hi] at e1;cases e1
    rw [wY hiσ] at e2
    cases e2
    exact ⟨u,r,.inr ⟨.inl hk,c,hc,hc'⟩⟩
   ·rw [vQ (qR hj)] at e2
    obtain ⟨u',r',q⟩:=hl j y v' e1 e2 e3
    refine ⟨u',r',?_⟩
    rcases q with q | ⟨k,c',e,z'⟩
    ·exact .inl q
    ·refine .inr ⟨k,c',e,z'.sameBut hs ?_⟩
     rintro rfl
     exact hj (zi3 hN e1 (I.ok.inj _ _ _ e hc ▸ hi))
  ·by_cases hcc:c'=c
   ·subst hcc;exact ⟨_,hc'⟩
   ·obtain ⟨w2,z2⟩:=I.cell y c' e
    exact ⟨w2,z2.sameBut hs hcc⟩
  ·obtain ⟨e,n,ne,nf,d⟩:=I.pin p hp
   refine ⟨(hs.2 p.1 ?_).trans e,n,ne,nf,d⟩
   intro q
   rw [q,hoc] at e
   have q':oc=p.2:=qF e
   exact d w' (by rw [← q'];exact hocd)
theorem ziV {M:Model}{A:Around}{E:Value→Shared→Prop}{i:Nat}{x:Str}{v:V}{u:Value}{Q:Unit→Shared→Prop}(I:Inv X pins σ H s)(hN:X.N.Nodup)(hi:X.N[i]? =some x)(hx:Loc X.env.scope x)(r:RelV v u)
  (h:∀ s',Inv X pins (σ.set i (some v)) H s'→Q () s') (hf:X.fn x=true∨X.env.scope.names.lookup x=some .local:=by first | exact .inl rfl | exact .inr rfl | assumption):wpAny M A (storeName X.env x u) Q E s:=
 zhK I hN hi hx r (fun s' I' _=>h s' I') hf
theorem Inv.call' {s':Shared}{ch:List Addr}(I:Inv X pins σ H s)(ho:s'.os=s.os)(u:Un (frs X.stack) ch H H' s.heap s'.heap)(hok:HOk X.prog X.w H' s'.heap)(hg:AllBare s'.gens)
  (hch:∀ b∈ch,(b∈X.ex∨X.s₀.heap.objs.size≤b)∧b≠X.env.locals∧(∀ x c,X.env.cells.lookup x=some c→c≠b)∧∀ p∈X.pn++pins,p.1≠b):Inv X pins σ H' s':=by
 obtain ⟨h',g',d',t',o'⟩:=s'
 have e:o'=s.os:=ho
 subst e
 exact I.call (g':=g') (t':=t') (d':=d') u hok hg hch
end
noncomputable abbrev XK:=Value→Option Addr→Hp→Prop
noncomputable abbrev St:=List (Option V)
noncomputable abbrev VK:=V→Hp→Prop
noncomputable abbrev TE:=St→Hp→VK→Prop
noncomputable abbrev TT:=St→Hp→(Bool→Hp→Prop)→Prop
noncomputable abbrev TA:=St→Hp→(List V→Hp→Prop)→Prop
structure Ends where
 nx:St→Hp→Prop
 rt:VK
 bk:St→Hp→Prop:=fun _ _=>False
 ct:St→Hp→Prop:=fun _ _=>False
noncomputable abbrev TS:=Ends→St→Hp→Prop
noncomputable def EP (X:Cx) (pins:List (Addr×Obj)) (σ :St) (Q:VK) (u:Value) (s':Shared):Prop:=∃ v H',Inv X pins σ H' s'∧RelV v u∧Q v H'
noncomputable def TP (X:Cx) (pins:List (Addr×Obj)) (σ :St) (Q:Bool→Hp→Prop) (b:Bool) (s':Shared):Prop:=∃ H',Inv X pins σ H' s'∧Q b H'
noncomputable def AP (X:Cx) (pins:List (Addr×Obj)) (σ :St) (Q:List V→Hp→Prop) (us:List Value) (s':Shared):Prop:=∃ vs H',Inv X pins σ H' s'∧Vals vs us∧Q vs H'
noncomputable def SP (X:Cx) (pins:List (Addr×Obj)) (D:Ends) (f:Flow) (s':Shared):Prop:=
 match f with
 | .next=>∃ σ' H',Inv X pins σ' H' s'∧D.nx σ' H'
 | .brk=>∃ σ' H',Inv X pins σ' H' s'∧D.bk σ' H'
 | .cont=>∃ σ' H',Inv X pins σ' H' s'∧D.ct σ' H'
 | .ret u=>∃ v σ' H',Inv X pins σ' H' s'∧RelV v u∧D.rt v H'
noncomputable def PE (X:Cx) (e:Expr) (t:TE):Prop:=
 ∀ (pins:List (Addr×Obj)) (s:Shared) (σ :St) (H:Hp) (Q:VK),Inv X pins σ H s→t σ H Q→wpAny (model X.prog X.w) X.A (eval e X.env) (EP X pins σ Q) X.xe s
noncomputable def PT (X:Cx) (e:Expr) (t:TT):Prop:=
 ∀ (pins:List (Addr×Obj)) (s:Shared) (σ :St) (H:Hp) (Q:Bool→Hp→Prop),Inv X pins σ H s→t σ H Q→wpAny (model X.prog X.w) X.A (isTrue e X.env (eval e X.env)) (TP X pins σ Q) X.xe s
noncomputable def PW (X:Cx) (e:Expr) (t:TT):Prop:=
 ∀ (whole:Sem Value) (pins:List (Addr×Obj)) (s:Shared) (σ :St) (H:Hp) (Q:Bool→Hp→Prop),Inv X pins σ H s→t σ H Q→wpAny (model X.prog X.w) X.A (isTrue e X.env whole) (TP X pins σ Q) X.xe s
theorem PW.pt {X:Cx}{e:Expr}{t:TT}(h:PW X e t):PT X e t:=h _
noncomputable def PA (X:Cx) (es:List Expr) (t:TA):Prop:=
 ∀ (pos:Pos) (pins:List (Addr×Obj)) (s:Shared) (σ :St) (H:Hp) (Q:List V→Hp→Prop),Inv X pins σ H s→t σ H Q→wpAny (model X.prog X.w) X.A (spliced (backTo pos (starEach es X.env))) (AP X pins σ Q) X.xe s
noncomputable def PS (X:Cx) (st:Stmt) (t:TS):Prop:=
 ∀ (pins:List (Addr×Obj)) (s:Shared) (σ :St) (H:Hp) (D:Ends),Inv X pins σ H s→t D σ H→wpAny (model X.prog X.w) X.A (exec st X.env) (SP X pins D) X.xe s
noncomputable def PSs (X:Cx) (st:List Stmt) (t:TS):Prop:=
 ∀ (pins:List (Addr×Obj)) (s:Shared) (σ :St) (H:Hp) (D:Ends),Inv X pins σ H s→t D σ H→wpAny (model X.prog X.w) X.A (execs st X.env) (SP X pins D) X.xe s
theorem thn {α :Type}{t:Sem α}{Q Q': α→Shared→Prop}{M:Model}{A:Around}{E:Value→Shared→Prop}{s:Shared}(h:wpAny M A t Q E s)(hQ:∀ a s,Q a s→Q' a s):wpAny M A t Q' E s:=wpAny_mono h hQ fun _ _ x=>x
section
variable {X:Cx}
noncomputable def tVar (i:Nat):TE:=fun σ H Q=>∃ v,σ[i]? =some (some v)∧Q v H
noncomputable def tC (v:V):TE:=fun _ H Q=>Q v H
theorem pe_var {i:Nat}{x:Str}{pos:Pos}(hN:X.N[i]? =some x)(hv:Vis X.env.scope x)(hd:(x==("__debug__" :Str))=false:=by decide)(hcd:(x==("__classdict__" :Str))=false:=by decide):PE X (.Name x pos) (tVar i):=by
 intro pins s σ H Q I h
 obtain ⟨v,e,h⟩:=h
 obtain ⟨m,hn,hl⟩:=I.loc
 obtain ⟨u,r,l⟩:=hl i x v hN e hv
 have fin:EP X pins σ Q u s:=⟨v,H,I,r,h⟩
 rcases l with ⟨hk,hm⟩ | ⟨hk,c,hc,hcell⟩
 ·exact wpAny_Name (wpAny_loadName_local I.ok.kind hk hn hm fin) hd
 ·rcases hk with hk | hk
  ·exact wpAny_Name (wpAny_loadName_cell I.ok.kind hk hc hcell fin) hd
  ·exact wpAny_Name (wpAny_loadName_free I.ok.kind hk hc hcell fin hcd) hd
theorem pe_int {i j pos}:PE X (.Constant (.int i) j pos) (tC (.int i)):=fun _ _ _ H _ I h=>wpAny_Constant_int ⟨.int i,H,I.tok _,⟨_,rfl⟩,h⟩
theorem pe_bl {b j pos}:PE X (.Constant (.bool b) j pos) (tC (.bl b)):=fun _ _ _ H _ I h=>Constant_bool ⟨.bl b,H,I,rfl,h⟩
theorem pe_str {x j pos}:PE X (.Constant (.str x) j pos) (tC (.str x)):=fun _ _ _ H _ I h=>Calls.Constant_str ⟨.str x,H,I.tok _,⟨_,rfl⟩,h⟩
noncomputable def Gl (X:Cx) (x:Str):Prop:=X.env.kindOf x=some .globalImplicit
theorem zlO {E:Value→Shared→Prop}{pins:List (Addr×Obj)}{s:Shared}{σ :St}{H:Hp}{x:Str}{u:Value}{pos:Pos}{Q:Value→Shared→Prop}(I:Inv X pins σ H s)(hg:Gl X x)(hm:X.mg x=some u)(h:Q u s)
  (hd:(x==("__debug__" :Str))=false:=by decide):wpAny (model X.prog X.w) X.A (eval (.Name x pos) X.env) Q E s:=
 yaH I.ok.kind hg (Calls.loadGlobal_global (by rw [I.ok.glob];exact I.mod.glob.keeps I.bk) hm h) hd
theorem zec {E:Value→Shared→Prop}{pins:List (Addr×Obj)}{s:Shared}{σ :St}{H:Hp}{x:Str}{u:Value}{pos:Pos}{Q:Value→Shared→Prop}(I:Inv X pins σ H s)(hg:Gl X x)(hm:X.mg x=none)(hv:bootBuiltins x=some u)(h:Q u s)
  (hn:x≠"__name__" :=by decide) (hd:(x==("__debug__" :Str))=false:=by decide):wpAny (model X.prog X.w) X.A (eval (.Name x pos) X.env) Q E s:=by
 obtain ⟨mb,h1,h2⟩:=I.mod.blt
 exact yaH I.ok.kind hg (Calls.loadGlobal_builtin (by rw [I.ok.glob];exact I.mod.glob.keeps I.bk) hm (by rw [I.ok.blt];exact h1.keeps I.bk) ((h2 x hn).trans hv) h) hd
theorem zoR {x:Str}{v:V}{u:Value}{pos:Pos}(hg:Gl X x)(hm:X.mg x=some u)(r:RelV v u)(hd:(x==("__debug__" :Str))=false:=by decide):PE X (.Name x pos) (tC v):=
 fun _ _ _ H _ I h=>zlO I hg hm ⟨v,H,I,r,h⟩ hd
theorem znJ {x:Str}{v:V}{u:Value}{pos:Pos}(hg:Gl X x)(hm:X.mg x=none)(hv:bootBuiltins x=some u)(r:RelV v u)(hn:x≠"__name__" :=by decide)(hd:(x==("__debug__" :Str))=false:=by decide):PE X (.Name x pos) (tC v):=
 fun _ _ _ H _ I h=>zec I hg hm hv ⟨v,H,I,r,h⟩ hn hd
variable {a b:Expr} {ta tb:TE} {pos:Pos}
noncomputable def PC (X:Cx) (op:CmpOp) (a b:Expr) (t:TE):Prop:=
 ∀ (pins:List (Addr×Obj)) (s:Shared) (σ :St) (H:Hp) (Q:VK),Inv X pins σ H s→t σ H Q→
  wpAny (model X.prog X.w) X.A (eval a X.env) (fun v s₁ =>wpAny (model X.prog X.w) X.A (eval b X.env) (fun u s₂ =>wpAny (model X.prog X.w) X.A (compareOp op v u) (EP X pins σ Q) X.xe s₂) X.xe s₁) X.xe s
theorem zjt (b:Expr){op:CmpOp}(h:op≠.In)(h2:op≠.NotIn):behindInMarks op b=false:=by
 have e1:(op==CmpOp.In)=false:=by cases op <;> first | rfl | exact absurd rfl h
 have e2:(op==CmpOp.NotIn)=false:=by cases op <;> first | rfl | exact absurd rfl h2
 cases b <;> simp [behindInMarks,e1,e2]
noncomputable def tB (t:TE):TT:=fun σ H Q=>t σ H fun x H1=>∃ c,x= .bl c∧Q c H1
theorem pt_cmp {op:CmpOp}{t:TE}(h:PC X op a b t)(h1:behindInMarks op b=false:=by first | exact zjt _ (by decide) (by decide) | rfl):PT X (.Compare a [op] [b] pos) (tB t):=by
 intro pins s σ H Q I hw
 refine wpAny_isTrue_Compare1 (thn (h pins s σ H _ I hw) fun v s1 h1=>thn h1 fun u s2 h2=>thn h2 fun c s3 ⟨x,H1,I1,r1,q1⟩=>?_) h1
 obtain ⟨d,rfl,q⟩:=q1
 cases r1
 exact wpAny_truthy_bool ⟨H1,I1,q⟩
theorem pt_val {e:Expr}{t:TE}(h:PE X e t)(he:∀ whole,isTrue e X.env whole=(do let v ← whole;standAt e.pos;holding [v] (truthy v)):=by intro _;rfl):PT X e (tB t):=by
 intro pins s σ H Q I hw
 refine isTrue_plain (thn (h pins s σ H _ I hw) fun v s1 ⟨x,H1,I1,r1,q1⟩=>?_) (he _)
 obtain ⟨d,rfl,q⟩:=q1
 cases r1
 exact wpAny_truthy_bool ⟨H1,I1,q⟩
variable {tA tB':TT} {rest:List Expr}
noncomputable def tAnd (t u:TT):TT:=fun σ H Q=>t σ H fun c H1=>if c=true then u σ H1 Q else Q false H1
noncomputable def tOr (t u:TT):TT:=fun σ H Q=>t σ H fun c H1=>if c=true then Q true H1 else u σ H1 Q
noncomputable def tNot (t:TT):TT:=fun σ H Q=>t σ H fun c H1=>Q (!c) H1
theorem zoy (ha:PT X a tA):PW X (.BoolOp .And [a] pos) tA:=by
 intro wh pins s σ H Q I h
 refine isTrue_and (thn (ha pins s σ H Q I h) fun c s1 e=>?_)
 cases c with
 | true=>exact isTrue_and_nil e
 | false=>exact e
theorem pw_or1 (ha:PT X a tA):PW X (.BoolOp .Or [a] pos) tA:=by
 intro wh pins s σ H Q I h
 refine isTrue_or (thn (ha pins s σ H Q I h) fun c s1 e=>?_)
 cases c with
 | false=>exact isTrue_or_nil e
 | true=>exact e
theorem pw_and (ha:PT X a tA)(hb:PW X (.BoolOp .And (b::rest) pos) tB'):PW X (.BoolOp .And (a::b::rest) pos) (tAnd tA tB'):=by
 intro wh pins s σ H Q I h
 refine isTrue_and (thn (ha pins s σ H _ I h) fun c s1 ⟨H1,I1,q1⟩=>?_)
 cases c with
 | true=>exact hb wh pins s1 σ H1 Q I1 q1
 | false=>exact ⟨H1,I1,q1⟩
theorem pw_or (ha:PT X a tA)(hb:PW X (.BoolOp .Or (b::rest) pos) tB'):PW X (.BoolOp .Or (a::b::rest) pos) (tOr tA tB'):=by
 intro wh pins s σ H Q I h
 refine isTrue_or (thn (ha pins s σ H _ I h) fun c s1 ⟨H1,I1,q1⟩=>?_)
 cases c with
 | true=>exact ⟨H1,I1,q1⟩
 | false=>exact hb wh pins s1 σ H1 Q I1 q1
theorem pt_not (ha:PT X a tA):PT X (.UnaryOp .Not a pos) (tNot tA):=by
 intro pins s σ H Q I h
 exact isTrue_not (ha pins s σ H (fun c H1=>Q (!c) H1) I h)
noncomputable def tAndV (ta tb:TE):TE:=fun σ H Q=>ta σ H fun x H1=>∃ c,x= .bl c∧if c=true then tb σ H1 Q else Q (.bl false) H1
theorem pe_one {op}{t:TE}(h:PE X a t):PE X (.BoolOp op [a] pos) t:=fun pins s σ H Q I hw=>BoolOp_one (h pins s σ H Q I hw)
theorem pe_and (ha:PE X a ta)(hb:PE X (.BoolOp .And (b::rest) pos) tb):PE X (.BoolOp .And (a::b::rest) pos) (tAndV ta tb):=by
 intro pins s σ H Q I h
 refine BoolOp_and (thn (ha pins s σ H _ I h) fun v s1 ⟨x,H1,I1,r1,q1⟩=>?_)
 obtain ⟨c,rfl,q1⟩:=q1
 cases r1
 refine wpAny_truthy_bool ?_
 cases c with
 | true=>exact hb pins s1 σ H1 Q I1 q1
 | false=>exact ⟨.bl false,H1,I1,rfl,q1⟩
noncomputable def tIf (t:TT) (ta tb:TE):TE:=fun σ H Q=>t σ H fun c H1=>if c=true then ta σ H1 Q else tb σ H1 Q
theorem zmF {c:Expr}(hc:PT X c tA)(ha:PE X a ta)(hb:PE X b tb):PE X (.IfExp c a b pos) (tIf tA ta tb):=by
 intro pins s σ H Q I h
 refine wpAny_IfExp (thn (hc pins s σ H _ I h) fun d s1 ⟨H1,I1,q1⟩=>?_)
 cases d with
 | true=>exact ha pins s1 σ H1 Q I1 q1
 | false=>exact hb pins s1 σ H1 Q I1 q1
end
noncomputable def SqL (K:PySem.W.Frag) (H:Hp) (a:Addr) (xs:List V):Prop:=
 Rd H a (.lst xs)∨
  ∃ (o:Obj) (its:Array Value) (n:Nat),K.lookup a=some o∧o.cls= .type "list"∧o.dict=none∧o.data= .seq its n∧its.size≤yK∧Vals xs its.toList
noncomputable def SqT (K:PySem.W.Frag) (H:Hp) (a:Addr) (xs:List V):Prop:=
 Rd H a (.tup xs)∨
  ∃ (o:Obj) (its:Array Value) (n:Nat),K.lookup a=some o∧o.cls= .type "tuple"∧o.data= .seq its n∧its.size≤yK∧Vals xs its.toList
noncomputable def absV:Value→Option V
 | .none=>some .non
 | .bool b=>some (.bl b)
 | .int i _=>some (.int i)
 | .str x _=>some (.str x)
 | .bytes b _=>some (.byt b)
 | .float b _=>some (.flt b)
 | .ref a=>some (.ref a)
 | .type n=>some (.ty n)
 | _=>none
theorem RelV.abs {x:V}{u:Value}(r:RelV x u):absV u=some x:=by
 cases x with
 | non=>cases r;rfl
 | bl _=>cases r;rfl
 | int _=>obtain ⟨t,rfl⟩:=r;rfl
 | str _=>obtain ⟨t,rfl⟩:=r;rfl
 | byt _=>obtain ⟨t,rfl⟩:=r;rfl
 | flt _=>obtain ⟨t,rfl⟩:=r;rfl
 | ref _=>cases r;rfl
 | ty _=>cases r;rfl
theorem RelV.inj {x y:V}{u:Value}(r:RelV x u)(q:RelV y u):x=y:=qF (r.abs.symm.trans q.abs)
theorem Vals.inj:∀ {xs ys:List V} {us:List Value},Vals xs us→Vals ys us→xs=ys
 | _,_,_,.nil,.nil=>rfl
 | _,_,_,.cons r t,.cons r' t'=>by rw [r.inj r',Vals.inj t t']
section
variable {X:Cx} {pins:List (Addr×Obj)} {σ :St} {H:Hp} {s:Shared} {a:Addr} {xs ys:List V}
theorem SqL.of {K:PySem.W.Frag}(h:H a=some (.lst xs)):SqL K H a xs:=.inl (.inl h)
theorem SqT.of {K:PySem.W.Frag}(h:H a=some (.tup xs)):SqT K H a xs:=.inl (.inl h)
theorem Inv.list (I:Inv X pins σ H s)(h:SqL X.K H a xs):∃ its:List Value,Vals xs its∧PlainL s.heap a its.toArray∧xs.length≤yK:=by
 rcases h with h | ⟨o,its,n,hk,hc,hd,hs,hz,r⟩
 ·obtain ⟨z,its,n,r,e⟩:=h.ok I.hok
  exact ⟨its,r,⟨_,n,e,rfl,rfl,rfl⟩,z⟩
 ·refine ⟨its.toList,r,⟨o,n,I.kIn a o hk,hc,hd,by simpa using hs⟩,?_⟩
  have e:=r.length
  simp only [kA] at e
  omega
theorem Inv.tuple (I:Inv X pins σ H s)(h:SqT X.K H a xs):∃ its:List Value,Vals xs its∧IsTup s.heap a its.toArray∧xs.length≤yK:=by
 rcases h with h | ⟨o,its,n,hk,hc,hs,hz,r⟩
 ·obtain ⟨z,its,r,p⟩:=h.ok I.hok
  exact ⟨its,r,p,z⟩
 ·refine ⟨its.toList,r,⟨o,I.kIn a o hk,hc,n,by simpa using hs⟩,?_⟩
  have e:=r.length
  simp only [kA] at e
  omega
theorem Inv.list_inj (I:Inv X pins σ H s)(h:SqL X.K H a xs)(h':SqL X.K H a ys):xs=ys:=by
 obtain ⟨its,r,⟨o,n,e,_,_,d⟩,_⟩:=I.list h
 obtain ⟨its',r',⟨o',n',e',_,_,d'⟩,_⟩:=I.list h'
 rw [e] at e';cases e'
 rw [d] at d'
 injection d' with d1 _
 have:its=its':=by simpa using congrArg Array.toList d1
 subst this
 exact r.inj r'
theorem Inv.tuple_inj (I:Inv X pins σ H s)(h:SqT X.K H a xs)(h':SqT X.K H a ys):xs=ys:=by
 obtain ⟨its,r,⟨o,e,_,n,d⟩,_⟩:=I.tuple h
 obtain ⟨its',r',⟨o',e',_,n',d'⟩,_⟩:=I.tuple h'
 rw [e] at e';cases e'
 rw [d] at d'
 injection d' with d1 _
 have:its=its':=by simpa using congrArg Array.toList d1
 subst this
 exact r.inj r'
end
noncomputable abbrev Cx.wish (X:Cx) (E:Value→Shared→Prop):Cx:={X with xe:=E}
noncomputable abbrev Cx.nox (X:Cx):Cx:=X.wish fun _ _=>False
theorem Cx.Ok.wish {X:Cx}(ok:X.Ok)(E:Value→Shared→Prop):(X.wish E).Ok:=
 ⟨ok.mod,ok.kind,ok.glob,ok.blt,ok.above,ok.inj,ok.has,ok.cab,ok.hd,ok.frames,ok.stk,ok.exf,ok.bs,ok.bsz,ok.noex,ok.exfs,ok.funs,ok.frf⟩
theorem Cx.Ok.unwish {X:Cx}{E:Value→Shared→Prop}(ok:(X.wish E).Ok):X.Ok:=
 ⟨ok.mod,ok.kind,ok.glob,ok.blt,ok.above,ok.inj,ok.has,ok.cab,ok.hd,ok.frames,ok.stk,ok.exf,ok.bs,ok.bsz,ok.noex,ok.exfs,ok.funs,ok.frf⟩
section
variable {X:Cx} {pins:List (Addr×Obj)} {σ :St} {H:Hp} {s:Shared} {E:Value→Shared→Prop}
theorem Inv.wish (I:Inv X pins σ H s)(E:Value→Shared→Prop):Inv (X.wish E) pins σ H s:=⟨I.ok.wish E,I.os,I.bare,I.base,I.loc,I.cell,I.free,I.freeC,I.pin,I.hok,I.len⟩
theorem Inv.unwish (I:Inv (X.wish E) pins σ H s):Inv X pins σ H s:=⟨I.ok.unwish,I.os,I.bare,I.base,I.loc,I.cell,I.free,I.freeC,I.pin,I.hok,I.len⟩
theorem SP.unwish {D:Ends}{f:Flow}{s':Shared}(h:SP (X.wish E) pins D f s'):SP X pins D f s':=by
 cases f with
 | next=>obtain ⟨σ',H',I,q⟩:=h;exact ⟨σ',H',I.unwish,q⟩
 | brk=>obtain ⟨σ',H',I,q⟩:=h;exact ⟨σ',H',I.unwish,q⟩
 | cont=>obtain ⟨σ',H',I,q⟩:=h;exact ⟨σ',H',I.unwish,q⟩
 | ret u=>obtain ⟨v,σ',H',I,r,q⟩:=h;exact ⟨v,σ',H',I.unwish,r,q⟩
theorem PE.nox {e:Expr}{t:TE}(h:PE X.nox e t):PE X e t:=fun pins s σ H Q I hw=>
 wpAny_mono (h pins s σ H Q (I.wish _) hw) (fun _ _ ⟨v,H',I',r,q⟩=>⟨v,H',I'.unwish,r,q⟩) fun _ _ z=>vT z
theorem PT.nox {e:Expr}{t:TT}(h:PT X.nox e t):PT X e t:=fun pins s σ H Q I hw=>
 wpAny_mono (h pins s σ H Q (I.wish _) hw) (fun _ _ ⟨H',I',q⟩=>⟨H',I'.unwish,q⟩) fun _ _ z=>vT z
theorem PSs.nox {st:List Stmt}{t:TS}(h:PSs X.nox st t):PSs X st t:=fun pins s σ H D I hw=>
 wpAny_mono (h pins s σ H D (I.wish _) hw) (fun _ _ q=>q.unwish) fun _ _ z=>vT z
end
section
variable {X:Cx} {st:Stmt} {rest:List Stmt} {t u:TS} {e:Expr} {te:TE} {pos:Pos}
noncomputable def tNext:TS:=fun D σ H=>D.nx σ H
noncomputable def tSeq (t u:TS):TS:=fun D σ H=>t {D with nx:=u D} σ H
theorem zn0:PSs X [] tNext:=fun _ _ σ H _ I h=>wpAny_execs_nil ⟨σ,H,I,h⟩
theorem znd (h1:PS X st t)(h2:PSs X rest u):PSs X (st::rest) (tSeq t u):=by
 intro pins s σ H D I h
 refine wpAny_execs_cons (thn (h1 pins s σ H {D with nx:=u D} I h) fun f s1 q=>?_)
 cases f with
 | next=>
  obtain ⟨σ',H',I',q⟩:=q
  exact h2 pins s1 σ' H' D I' q
 | ret v=>exact q
 | brk=>exact q
 | cont=>exact q
theorem znU (h1:PS X st t):PSs X [st] t:=by
 intro pins s σ H D I h
 refine wpAny_execs_cons (thn (h1 pins s σ H D I h) fun f s1 q=>?_)
 cases f with
 | next=>exact wpAny_execs_nil q
 | ret v=>exact q
 | brk=>exact q
 | cont=>exact q
theorem Inv.quiet {pins:List (Addr×Obj)}{σ :St}{H:Hp}{s:Shared}(I:Inv X pins σ H s):interactive X.env=false:=by simp [interactive,I.ok.kind]
noncomputable def tDrop (te:TE):TS:=fun D σ H=>te σ H fun _ H1=>D.nx σ H1
theorem zob (he:PE X e te)(hs:swapsWith e none pos.line X.env=pure false:=by rfl):PS X (.Expr e pos) (tDrop te):=by
 intro pins s σ H D I h
 exact wpAny_Expr_any (thn (he pins s σ H _ I h) fun v s1 ⟨x,H1,I1,r1,q1⟩=>⟨σ,H1,I1,q1⟩) I.quiet hs
noncomputable def tRet (te:TE):TS:=fun D σ H=>te σ H D.rt
theorem ps_ret (he:PE X e te):PS X (.Return (some e) pos) (tRet te):=by
 intro pins s σ H D I h
 exact wpAny_Return_some (thn (he pins s σ H _ I h) fun v s1 ⟨x,H1,I1,r1,q1⟩=>⟨x,σ,H1,I1,r1,q1⟩)
noncomputable def tIfS (c:TT) (t u:TS):TS:=fun D σ H=>c σ H fun b H1=>if b=true then t D σ H1 else u D σ H1
theorem ps_if {c:Expr}{a b:List Stmt}{tc:TT}(hc:PT X c tc)(ha:PSs X a t)(hb:PSs X b u):PS X (.If c a b pos) (tIfS tc t u):=by
 intro pins s σ H D I h
 refine wpAny_If (thn (hc pins s σ H _ I h) fun d s1 ⟨H1,I1,q1⟩=>?_)
 cases d with
 | true=>exact ha pins s1 σ H1 D I1 q1
 | false=>exact hb pins s1 σ H1 D I1 q1
noncomputable def zny:TS:=fun _ _ _=>False
theorem zmo:PS X st zny:=fun _ _ _ _ _ _ h=>h.elim
end
noncomputable abbrev TG:=V→St→Hp→(St→Hp→Prop)→Prop
noncomputable abbrev TGs:=List V→St→Hp→(St→Hp→Prop)→Prop
noncomputable def PG (X:Cx) (target:Expr) (t:TG):Prop:=
 ∀ (pins:List (Addr×Obj)) (s:Shared) (σ :St) (H:Hp) (v:V) (u:Value) (Q:St→Hp→Prop),Inv X pins σ H s→RelV v u→t v σ H Q→
  wpAny (model X.prog X.w) X.A (assign target X.env u) (fun _ s'=>∃ σ' H',Inv X pins σ' H' s'∧Q σ' H') X.xe s
noncomputable def PGs (X:Cx) (ts:List Expr) (t:TGs):Prop:=
 ∀ (pins:List (Addr×Obj)) (s:Shared) (σ :St) (H:Hp) (vs:List V) (us:List Value) (Q:St→Hp→Prop),Inv X pins σ H s→Vals vs us→t vs σ H Q→
  wpAny (model X.prog X.w) X.A (assignInOrder ((assignEach ts X.env).map (·.2)) us) (fun _ s'=>∃ σ' H',Inv X pins σ' H' s'∧Q σ' H') X.xe s
noncomputable abbrev TSet:=V→V→V→Hp→(Hp→Prop)→Prop
noncomputable def PSet (X:Cx) (t:TSet):Prop:=
 ∀ (pins:List (Addr×Obj)) (s:Shared) (σ :St) (H:Hp) (o i v:V) (ov iv u:Value) (Q:Hp→Prop),Inv X pins σ H s→RelV o ov→RelV i iv→RelV v u→t o i v H Q→
  wpAny (model X.prog X.w) X.A (setItem ov iv u) (fun _ s'=>∃ H',Inv X pins σ H' s'∧Q H') X.xe s
section
variable {X:Cx} {pos:Pos}
noncomputable def zeW (i:Nat):TG:=fun v σ H Q=>Q (σ.set i (some v)) H
theorem zof {i:Nat}{x:Str}(hN:X.N.Nodup)(hi:X.N[i]? =some x)(hx:Loc X.env.scope x)(hf:X.fn x=true∨X.env.scope.names.lookup x=some .local:=by first | exact .inl rfl | exact .inr rfl | assumption):PG X (.Name x pos) (zeW i):=by
 intro pins s σ H v u Q I r h
 exact wpAny_assign_Name (ziV I hN hi hx r (fun s' I'=>⟨_,H,I',h⟩) hf)
noncomputable def gNil:TGs:=fun vs σ H Q=>vs= []∧Q σ H
noncomputable def zik (t:TG) (u:TGs):TGs:=fun vs σ H Q=>∃ v r,vs=v::r∧t v σ H fun σ' H'=>u r σ' H' Q
theorem znX:PGs X [] gNil:=by
 intro pins s σ H vs us Q I r h
 obtain ⟨e,h⟩:=h
 subst e
 cases r
 exact assignInOrder_nil ⟨σ,H,I,h⟩
theorem zmZ {e:Expr}{es:List Expr}{t:TG}{u:TGs}(h1:PG X e t)(h2:PGs X es u)
  (hs:(assignEach (e::es) X.env).map (·.2)=assign e X.env::(assignEach es X.env).map (·.2):=by rfl):PGs X (e::es) (zik t u):=by
 intro pins s σ H vs us Q I r h
 obtain ⟨v,vr,e1,h⟩:=h
 subst e1
 cases r with
 | cons r rr=>
  rw [hs]
  refine assignInOrder_cons (thn (h1 pins s σ H _ _ _ I r h) fun _ s1 ⟨σ1,H1,I1,q1⟩=>?_)
  exact h2 pins s1 σ1 H1 _ _ Q I1 rr q1
noncomputable def gTup (K:PySem.W.Frag) (n:Nat) (t:TGs):TG:=fun v σ H Q=>∃ a xs,v= .ref a∧SqT K H a xs∧xs.length=n∧t xs σ H Q
theorem znv {es:List Expr}{k:Nat}{t:TGs}{n:Nat}(hc:X.calm=true)(h:PGs X es t)
  (hn:(assignEach es X.env).length=n:=by rfl) (hst:(assignEach es X.env).findIdx? (·.1)=none:=by rfl):PG X (.Tuple es k pos) (gTup X.K n t):=by
 intro pins s σ H v u Q I r hw
 obtain ⟨a,xs,e1,hq,hl,hw⟩:=hw
 subst e1
 cases r
 obtain ⟨its,rv,ht,hz⟩:=I.tuple hq
 refine assign_Tuple_tuple (I.ok.hd hc) ht (by simp [hn,← hl,rv.length]) hst fun h' hx=>?_
 have I1:Inv X pins σ H {s with heap:=h'}:=I.kept (t':=s.toks) fun b o e=>hx b o (qA (yS e)) e
 exact h pins _ σ H xs _ Q I1 (by simpa using rv) hw
noncomputable def gSub (to ti:TE) (t:TSet):TG:=fun v σ H Q=>to σ H fun o H1=>ti σ H1 fun i H2=>t o i v H2 fun H3=>Q σ H3
theorem pg_sub {o i:Expr}{to ti:TE}{t:TSet}(ho:PE X o to)(hi:PE X i ti)(hs:PSet X t)
  (ha:∀ v,assign (.Subscript o i pos) X.env v=(do
   let ov ← holding [v] (eval o X.env)
   let iv ← holding [v,ov] (eval i X.env)
   standAt pos
   holding [v,ov,iv] (setItem ov iv v)
   release [v,ov,iv] []):=by intro _;rfl):PG X (.Subscript o i pos) (gSub to ti t):=by
 intro pins s σ H v u Q I r h
 rw [ha]
 refine yA (wpAny_holding (thn (ho pins s σ H _ I h) fun ov s1 ⟨x,H1,I1,r1,q1⟩=>?_))
 refine yA (wpAny_holding (thn (hi pins s1 σ H1 _ I1 q1) fun iv s2 ⟨y,H2,I2,r2,q2⟩=>?_))
 refine yA (wpAny_standAt (yA (wpAny_holding (thn (hs pins s2 σ H2 x y v ov iv u _ I2 r1 r2 r q2) fun _ s3 ⟨H3,I3,q3⟩=>?_))))
 exact wpAny_release ⟨σ,H3,I3,q3⟩
noncomputable def tAsg (te:TE) (g:TG):TS:=fun D σ H=>te σ H fun x H1=>g x σ H1 D.nx
theorem ps_asg {tg e:Expr}{te:TE}{g:TG}(he:PE X e te)(hg:PG X tg g)(hs:swapsWithSole [tg] e pos.line X.env=pure false:=by rfl)(hw:swappedStores [tg] e X.env=pure none:=by rfl)
  (h1:(assignEach [tg] X.env).map (·.2)= [assign tg X.env]:=by rfl):PS X (.Assign [tg] e pos) (tAsg te g):=by
 intro pins s σ H D I h
 refine wpAny_Assign_stores (thn (he pins s σ H _ I h) fun v s1 ⟨x,H1,I1,r1,q1⟩=>?_) hs hw
 rw [h1]
 exact thn (hg pins s1 σ H1 x v _ I1 r1 q1) fun _ s2 q=>q
theorem ps_set {i:Nat}{x:Str}{e:Expr}{te:TE}{pos':Pos}(hN:X.N.Nodup)(hi:X.N[i]? =some x)(hx:Loc X.env.scope x)(he:PE X e te)(hs:swapsWith e (some (.Name x pos')) pos.line X.env=pure false:=by rfl)(hf:X.fn x=true∨X.env.scope.names.lookup x=some .local:=by first | exact .inl rfl | exact .inr rfl | assumption):
  PS X (.Assign [.Name x pos'] e pos) (tAsg te (zeW i)):=by
 intro pins s σ H D I h
 refine wpAny_Assign_Name (thn (he pins s σ H _ I h) fun v s1 ⟨y,H1,I1,r1,q1⟩=>?_) hs
 exact ziV I1 hN hi hx r1 (fun s2 I2=>⟨_,H1,I2,q1⟩) hf
end
section
variable {X:Cx} {pos:Pos}
noncomputable def znB (c:TT) (tb:TS):TS:=fun D σ H=>∃ W:Nat→St→Hp→Prop,(∃ m,W m σ H)∧∀ m σ H,W m σ H→
 c σ H fun b H1=>if b=true then ∃ N:St→Hp→Prop,(∀ σ' H',N σ' H'→∃ m',m' < m∧W m' σ' H')∧tb {D with nx:=N,ct:=N,bk:=D.nx} σ H1 else D.nx σ H1
theorem zmW {c:Expr}{body:List Stmt}{tc:TT}{tb:TS}(hp:PassesOwn (model X.prog X.w) X.A X.env X.xe)(hc:PT X c tc)(hb:PSs X body tb):PS X (.While c body [] pos) (znB tc tb):=by
 intro pins s σ H D I h
 obtain ⟨W,⟨m0,w0⟩,turn⟩:=h
 refine wpAny_While (codeAny_whileLoop (fun n s'=>∃ σ' H',Inv X pins σ' H' s'∧W n σ' H') ?_ m0 ⟨σ,H,I,w0⟩)
 rintro n s1 ⟨σ1,H1,I1,w1⟩
 refine wpAny_passesOwn hp (thn (hc pins s1 σ1 H1 _ I1 (turn n σ1 H1 w1)) fun b s2 ⟨H2,I2,q2⟩=>?_)
 cases b with
 | true=>
  obtain ⟨N,hN,q2⟩:=q2
  rw [if_pos rfl]
  refine wpAny_passesOwn hp (thn (hb pins s2 σ1 H2 _ I2 q2) fun f s3 q3=>?_)
  cases f with
  | next=>
   obtain ⟨σ3,H3,I3,n3⟩:=q3
   obtain ⟨m',hm,w3⟩:=hN σ3 H3 n3
   exact ⟨m',hm,σ3,H3,I3,w3⟩
  | cont=>
   obtain ⟨σ3,H3,I3,n3⟩:=q3
   obtain ⟨m',hm,w3⟩:=hN σ3 H3 n3
   exact ⟨m',hm,σ3,H3,I3,w3⟩
  | brk=>exact q3
  | ret v=>exact q3
 | false=>
  rw [if_neg yQ]
  exact wpAny_execs_nil ⟨σ1,H2,I2,q2⟩
end
structure It where
 go:Nat→Hp→Prop
 yld:Nat→Hp→V→Hp→Prop
 stop:Nat→Hp→Prop
noncomputable def FpOk (X:Cx) (pins:List (Addr×Obj)) (H:Hp) (b:Addr):Prop:=
 H b=none∧b≠X.env.locals∧b∉X.fs∧(b∈X.ex∨X.s₀.heap.objs.size≤b)∧(∀ x c,X.env.cells.lookup x=some c→c≠b)∧∀ p∈X.pn++pins,p.1≠b
theorem Inv.fpOk {X:Cx}{pins:List (Addr×Obj)}{σ :St}{H H':Hp}{s:Shared}{b:Addr}(I:Inv X pins σ H s)(hb:s.heap.objs.size≤b)(hn:H' b=none):FpOk X pins H' b:=by
 refine ⟨hn,yaK (qB I.lt hb),I.nofs hb,.inr (jY I.sz hb),fun x c e z=>?_,fun p hp z=>?_⟩
 ·obtain ⟨v,q⟩:=I.cell x c e
  exact absurd (qB q.lt (by rw [z];exact hb)) (vJ _)
 ·exact absurd (qB (yS (I.pin p hp).1) (by rw [z];exact hb)) (vJ _)
structure Turn (P:Program) (w:World) (K:PySem.W.Frag) (tg:Expr) (J:It) (fp:List Addr) (it:Addr) (tn:Nat→Heap→Prop):Prop where
 mem:it∈fp
 obj:∀ i h,tn i h→∀ b∈fp,∃ o,h.get? b=some o∧∀ v,o.data≠.cell v
 keep:∀ i h h',tn i h→(∀ b∈fp,∀ o,h.get? b=some o→h'.get? b=some o)→tn i h'
 item:∀ (X:Cx),X.prog=P→X.w=w→X.K=K→X.calm=true→∀ (i:Nat) (pins:List (Addr×Obj)) (s:Shared) (σ :St) (H:Hp) (E:Value→Shared→Prop),Inv X pins σ H s→(∀ b∈fp,FpOk X pins H b)→tn i s.heap→J.go i H→
  wpAny (model P w) X.A (pyNext (.ref it)) (fun r s1=>∃ u,r=some u∧
   wpAny (model P w) X.A (letOwnedTupleGo tg (.ref it) u) (fun _ s2=>∃ x H',Inv X pins σ H' s2∧RelV x u∧J.yld i H x H'∧tn (i+1) s2.heap∧∀ b∈fp,H' b=none) E s1) E s
 done:∀ (X:Cx),X.prog=P→X.w=w→X.K=K→X.calm=true→∀ (i:Nat) (pins:List (Addr×Obj)) (s:Shared) (σ :St) (H:Hp) (E:Value→Shared→Prop),Inv X pins σ H s→(∀ b∈fp,FpOk X pins H b)→tn i s.heap→J.stop i H→
  wpAny (model P w) X.A (pyNext (.ref it)) (fun r s1=>r=none∧Inv X pins σ H s1) E s
 self:∀ (A:Around) (i:Nat) (s:Shared) (Q:Value→Shared→Prop) (E:Value→Shared→Prop),tn i s.heap→Q (.ref it) s→wpAny (model P w) A (pyIter (.ref it)) Q E s
noncomputable abbrev TI:=St→Hp→(It→Hp→Prop)→Prop
noncomputable def PIE (X:Cx) (pins:List (Addr×Obj)) (σ :St) (tg:Expr) (R:It→Hp→Prop) (itv:Value) (s2:Shared):Prop:=
 ∃ (it:Addr) (fp:List Addr) (tn:Nat→Heap→Prop) (J:It) (H':Hp),itv= .ref it∧Inv X pins σ H' s2∧Turn X.prog X.w X.K tg J fp it tn∧tn 0 s2.heap∧(∀ b∈fp,FpOk X pins H' b)∧R J H'
noncomputable def PI (X:Cx) (tg iter:Expr) (wi:TI):Prop:=
 ∀ (pins:List (Addr×Obj)) (s:Shared) (σ :St) (H:Hp) (R:It→Hp→Prop),Inv X pins σ H s→wi σ H R→
  wpAny (model X.prog X.w) X.A (eval iter X.env) (fun v s1=>wpAny (model X.prog X.w) X.A (pyIter v) (PIE X pins σ tg R) X.xe s1) X.xe s
theorem zk5 {M:Model}{A:Around}{E:Value→Shared→Prop}{s:Shared}{tg:Expr}{it:Addr}{u:Value}{o:Obj}{n:String}{vs:Array Value}{Q:Unit→Shared→Prop}(ho:s.heap.get? it=some o)(hc:o.cls= .type n)(hd:o.data= .fields vs)
  (hn:["enumerate","zip","dict_itemiterator","dict_reverseitemiterator","odict_iterator","itertools.zip_longest","itertools.pairwise"].contains n=false) (hQ:Q () s):wpAny M A (letOwnedTupleGo tg (.ref it) u) Q E s:=by
 unfold letOwnedTupleGo
 cases tg <;> first
  | exact yC hQ
  | (cases u <;> first
    | exact yC hQ
    | (refine yA (wpAny_load ho ?_)
       rw [hc,hd]
       show wpAny M A (if (["enumerate","zip","dict_itemiterator","dict_reverseitemiterator","odict_iterator","itertools.zip_longest","itertools.pairwise"].contains n && vs[0]? ==some (rawInt _))=true then _ else _) Q E s
       rw [if_neg (by intro h;rw [hn,Bool.false_and] at h;cases h)]
       exact yC hQ))
noncomputable def Itl (K:PySem.W.Frag) (a:Addr):It:=
 ⟨fun i H=>∃ xs x,SqL K H a xs∧xs[i]? =some x,fun i H x H'=>H'=H∧∀ xs,SqL K H a xs→xs[i]? =some x,fun i H=>∃ xs,SqL K H a xs∧xs.length≤i⟩
noncomputable def Itt (K:PySem.W.Frag) (a:Addr):It:=
 ⟨fun i H=>∃ xs x,SqT K H a xs∧xs[i]? =some x,fun i H x H'=>H'=H∧∀ xs,SqT K H a xs→xs[i]? =some x,fun i H=>∃ xs,SqT K H a xs∧xs.length≤i⟩
noncomputable def Itr (lo:Int) (n:Nat):It:=⟨fun i _=>i < n,fun i H x H'=>H'=H∧x= .int (lo+i),fun i _=>n≤i⟩
theorem zkU {P:Program}{w:World}{K:PySem.W.Frag}{tg:Expr}(a it:Addr):Turn P w K tg (Itl K a) [it] it (fun i h=>h.IsListIter it a i) where
 mem:=by simp
 obj:=fun i h st b hb=>by
  have e:b=it:=by simpa using hb
  subst e
  obtain ⟨o,e,c,d⟩:=st
  exact ⟨o,e,fun v z=>by rw [d] at z;cases z⟩
 keep:=fun i h h' st k=>st.at fun o e=>k it (by simp) o e
 item:=by
  intro X hP hw hK hc i pins s σ H E I hf st hg
  subst hP hw hK
  obtain ⟨xs,x,hq,hx⟩:=hg
  obtain ⟨its,rv,p,hz⟩:=I.list hq
  obtain ⟨u,hu,ru⟩:=rv.get hx
  obtain ⟨f0,f1,f2,f3,f4,f5⟩:=hf it (by simp)
  refine wpAny_pyNext_list_item st p.isList (x:=u) (by simpa using hu) fun h' st' sb=>?_
  have I1:Inv X pins σ H {s with heap:=h'}:=I.turned (t':=s.toks) (fun b o hb e=>(sb.2 b hb).trans e) f0 f1 f3 f4 f5
  obtain ⟨o,e,c,d⟩:=id st'
  exact ⟨u,rfl,zk5 (s:={s with heap:=h'}) e c d (by decide) ⟨x,H,I1,ru,⟨rfl,fun ys hy=>by rw [I.list_inj hy hq];exact hx⟩,st',fun b hb=>(hf b hb).1⟩⟩
 done:=by
  intro X hP hw hK hc i pins s σ H E I hf st hg
  subst hP hw hK
  obtain ⟨xs,hq,hx⟩:=hg
  obtain ⟨its,rv,p,hz⟩:=I.list hq
  obtain ⟨f0,f1,f2,f3,f4,f5⟩:=hf it (by simp)
  have hl:=rv.length
  exact wpAny_pyNext_list_end (I.ok.hd hc) st p.isList (by simp;omega) fun h' eb=>⟨rfl,I.turned (t':=s.toks) (fun b o hb e=>eb b o hb e) f0 f1 f3 f4 f5⟩
 self:=fun _ _ _ _ _ st h=>wpAny_pyIter_listiter st h
theorem zkd {P:Program}{w:World}{K:PySem.W.Frag}{tg:Expr}(a it:Addr):Turn P w K tg (Itt K a) [it] it (fun i h=>h.IsTupleIter it a i) where
 mem:=by simp
 obj:=fun i h st b hb=>by
  have e:b=it:=by simpa using hb
  subst e
  obtain ⟨o,e,c,d⟩:=st
  exact ⟨o,e,fun v z=>by rw [d] at z;cases z⟩
 keep:=fun i h h' st k=>st.at fun o e=>k it (by simp) o e
 item:=by
  intro X hP hw hK hc i pins s σ H E I hf st hg
  subst hP hw hK
  obtain ⟨xs,x,hq,hx⟩:=hg
  obtain ⟨its,rv,p,hz⟩:=I.tuple hq
  obtain ⟨u,hu,ru⟩:=rv.get hx
  obtain ⟨f0,f1,f2,f3,f4,f5⟩:=hf it (by simp)
  refine wpAny_pyNext_tuple_item st (show s.heap.IsTuple a its.toArray from p) (x:=u) (by simpa using hu) fun h' st' sb=>?_
  have I1:Inv X pins σ H {s with heap:=h'}:=I.turned (t':=s.toks) (fun b o hb e=>(sb.2 b hb).trans e) f0 f1 f3 f4 f5
  obtain ⟨o,e,c,d⟩:=id st'
  exact ⟨u,rfl,zk5 (s:={s with heap:=h'}) e c d (by decide) ⟨x,H,I1,ru,⟨rfl,fun ys hy=>by rw [I.tuple_inj hy hq];exact hx⟩,st',fun b hb=>(hf b hb).1⟩⟩
 done:=by
  intro X hP hw hK hc i pins s σ H E I hf st hg
  subst hP hw hK
  obtain ⟨xs,hq,hx⟩:=hg
  obtain ⟨its,rv,p,hz⟩:=I.tuple hq
  obtain ⟨f0,f1,f2,f3,f4,f5⟩:=hf it (by simp)
  have hl:=rv.length
  exact wpAny_pyNext_tuple_end (I.ok.hd hc) st (show s.heap.IsTuple a its.toArray from p) (by simp;omega) fun h' eb=>⟨rfl,I.turned (t':=s.toks) (fun b o hb e=>eb b o hb e) f0 f1 f3 f4 f5⟩
 self:=fun _ _ _ _ _ st h=>wpAny_pyIter_tupleiter st h
theorem zj8 {P:Program}{w:World}{K:PySem.W.Frag}{tg:Expr}(it:Addr)(lo:Int)(n:Nat):Turn P w K tg (Itr lo n) [it] it (fun i h=>IsRangeIter h it (lo+(i:Nat) * 1) ((n:Int) - (i:Nat)) 1) where
 mem:=by simp
 obj:=fun i h st b hb=>by
  have e:b=it:=by simpa using hb
  subst e
  exact ⟨_,st,fun v z=>by
   have z':Data.fields _=Data.cell v:=z
   cases z'⟩
 keep:=fun i h h' st k=>k it (by simp) _ st
 item:=by
  intro X hP hw hK hc i pins s σ H E I hf st hg
  subst hP hw hK
  obtain ⟨f0,f1,f2,f3,f4,f5⟩:=hf it (by simp)
  have W:=Walks.range (prog:=X.prog) (w:=X.w) (I.ok.hd hc) it lo 1 n
  refine W.item i s _ _ hg st fun v h' tk hv st' kk=>?_
  obtain ⟨t,rfl⟩:=hv
  have I1:Inv X pins σ H {s with heap:=h',toks:=tk}:=I.turned (fun b o hb e=>kk b o (by simpa using hb) e) f0 f1 f3 f4 f5
  refine ⟨_,rfl,zk5 (s:={s with heap:=h',toks:=tk}) (n:="range_iterator") st' rfl rfl (by decide) ⟨.int (lo+i),H,I1,⟨t,?_⟩,⟨rfl,rfl⟩,st',fun b hb=>(hf b hb).1⟩⟩
  rw [Int.mul_one]
 done:=by
  intro X hP hw hK hc i pins s σ H E I hf st hg
  subst hP hw hK
  obtain ⟨f0,f1,f2,f3,f4,f5⟩:=hf it (by simp)
  exact wpAny_pyNext_range_end (I.ok.hd hc) st (by have:n≤i:=hg;omega) fun h' eb=>⟨rfl,I.turned (t':=s.toks) (fun b o hb e=>eb b o hb e) f0 f1 f3 f4 f5⟩
 self:=fun _ _ _ _ _ st h=>wpAny_pyIter_rangeiter st h
section
variable {X:Cx} {tg:Expr}
noncomputable def iList (K:PySem.W.Frag) (tl:TE):TI:=fun σ H R=>tl σ H fun x H1=>∃ a,x= .ref a∧(∃ xs,SqL K H1 a xs)∧R (Itl K a) H1
noncomputable def iTup (K:PySem.W.Frag) (tl:TE):TI:=fun σ H R=>tl σ H fun x H1=>∃ a,x= .ref a∧(∃ xs,SqT K H1 a xs)∧R (Itt K a) H1
theorem zoe {l:Expr}{tl:TE}(hl:PE X l tl):PI X tg l (iList X.K tl):=by
 intro pins s σ H R I h
 refine thn (hl pins s σ H _ I h) fun v s1 ⟨x,H1,I1,r1,q1⟩=>?_
 obtain ⟨a,e,⟨xs,hq⟩,q⟩:=q1
 subst e
 cases r1
 obtain ⟨its,rv,p,hz⟩:=I1.list hq
 refine wpAny_pyIter_list p.isList ?_
 refine ⟨s1.heap.objs.size,[s1.heap.objs.size],_,_,H1,rfl,I1.kept (t':=s1.toks) fun b o e=>yD _ e,zkU a _,⟨_,yO _ rfl,rfl,rfl⟩,fun b hb=>?_,q⟩
 have e:b=s1.heap.objs.size:=by simpa using hb
 subst e
 exact I1.fpOk (yL _) (I1.hok.fresh (yL _))
theorem pi_tup {l:Expr}{tl:TE}(hl:PE X l tl):PI X tg l (iTup X.K tl):=by
 intro pins s σ H R I h
 refine thn (hl pins s σ H _ I h) fun v s1 ⟨x,H1,I1,r1,q1⟩=>?_
 obtain ⟨a,e,⟨xs,hq⟩,q⟩:=q1
 subst e
 cases r1
 obtain ⟨its,rv,p,hz⟩:=I1.tuple hq
 refine wpAny_pyIter_tuple (show s1.heap.IsTuple a its.toArray from p) ?_
 refine ⟨s1.heap.objs.size,[s1.heap.objs.size],_,_,H1,rfl,I1.kept (t':=s1.toks) fun b o e=>yD _ e,zkd a _,⟨_,yO _ rfl,rfl,rfl⟩,fun b hb=>?_,q⟩
 have e:b=s1.heap.objs.size:=by simpa using hb
 subst e
 exact I1.fpOk (yL _) (I1.hok.fresh (yL _))
theorem zi2 {pins:List (Addr×Obj)}{σ :St}{H:Hp}{s:Shared}{R:It→Hp→Prop}{E:Value→Shared→Prop}{lo hi:Int}{t u v:Tok}{tk:Nat}(I:Inv X pins σ H s)(h1: -(2 ^ 62)≤lo)(h2:lo < 2 ^ 62)(h3: -(2 ^ 62)≤hi)(h4:hi < 2 ^ 62)
  (q:R (Itr lo (hi - lo).toNat) H):wpAny (model X.prog X.w) X.A (pyIter (.ref s.heap.objs.size)) (PIE X pins σ tg R) E {s with heap:=s.heap.push {cls:=.type "range",data:=.fields #[.int lo t,.int hi u,.int 1 v]},toks:=tk}:=by
 refine wpAny_pyIter_range (IsRange.new ..) (small_one h1 h2 h3 h4) ?_
 have I1:Inv X pins σ H {s with heap:=s.heap.push {cls:=.type "range",data:=.fields #[.int lo t,.int hi u,.int 1 v]},toks:=tk}:=I.kept fun b o e=>yD _ e
 refine ⟨(s.heap.push {cls:=.type "range",data:=.fields #[.int lo t,.int hi u,.int 1 v]}).objs.size,[(s.heap.push {cls:=.type "range",data:=.fields #[.int lo t,.int hi u,.int 1 v]}).objs.size],_,_,H,rfl,
  I1.kept (t':=tk) fun b o e=>yD _ e,zj8 _ lo (hi - lo).toNat,?_,fun b hb=>?_,q⟩
 ·have e1:lo+((0:Nat):Int) * 1=lo:=by simp
  have e2:(((hi - lo).toNat:Nat):Int) - ((0:Nat):Int)=Builtin.Range.rangeSize lo hi 1:=by rw [rangeSize_one];split <;> omega
  show IsRangeIter _ _ (lo+((0:Nat):Int) * 1) ((((hi - lo).toNat:Nat):Int) - ((0:Nat):Int)) 1
  rw [e1,e2]
  exact yO _ rfl
 ·have e:b=(s.heap.push {cls:=.type "range",data:=.fields #[.int lo t,.int hi u,.int 1 v]}).objs.size:=by simpa using hb
  subst e
  exact I1.fpOk (yL _) (I1.hok.fresh (yL _))
noncomputable def iRng1 (ta:TA):TI:=fun σ H R=>ta σ H fun vs H1=>∃ j:Int,vs= [.int j]∧-(2 ^ 62)≤j∧j < 2 ^ 62∧R (Itr 0 j.toNat) H1
noncomputable def iRng2 (ta:TA):TI:=fun σ H R=>ta σ H fun vs H1=>∃ i j:Int,vs= [.int i,.int j]∧(-(2 ^ 62)≤i∧i < 2 ^ 62∧-(2 ^ 62)≤j∧j < 2 ^ 62)∧R (Itr i (j - i).toNat) H1
theorem zkl {a:Expr}{ta:TA}{p pos:Pos}(hg:Gl X "range")(hm:X.mg "range" =none)(ha:PA X [a] ta)(hs:starEach [a] X.env= [(false,eval a X.env)]:=by rfl):PI X tg (.Call (.Name "range" p) [a] [] pos) (iRng1 ta):=by
 intro pins s σ H R I h
 refine Call_ (zec I hg hm boot_range (jZ (thn (ha pos pins s σ H _ I h) fun us s1 ⟨vs,H1,I1,r1,q1⟩=>?_) hs rfl))
 obtain ⟨j,e,q1,q2,q⟩:=q1
 subst e
 cases r1 with
 | cons r rr=>
  cases rr
  obtain ⟨t,rfl⟩:=r
  exact call_range_1 (zi2 I1 (by omega) (by omega) q1 q2 (by simpa using q))
theorem zlk {a b:Expr}{ta:TA}{p pos:Pos}(hg:Gl X "range")(hm:X.mg "range" =none)(ha:PA X [a,b] ta)(hs:starEach [a,b] X.env= [(false,eval a X.env),(false,eval b X.env)]:=by rfl)(hs2:starEach [b] X.env= [(false,eval b X.env)]:=by rfl):
  PI X tg (.Call (.Name "range" p) [a,b] [] pos) (iRng2 ta):=by
 intro pins s σ H R I h
 refine Call_ (zec I hg hm boot_range (jZ (thn (ha pos pins s σ H _ I h) fun us s1 ⟨vs,H1,I1,r1,q1⟩=>?_) (by rw [hs,hs2]) (by rw [hs2];rfl)))
 obtain ⟨i,j,e,⟨q1,q2,q3,q4⟩,q⟩:=q1
 subst e
 cases r1 with
 | cons r rr=>
  cases rr with
  | cons r' rr=>
   cases rr
   obtain ⟨t,rfl⟩:=r
   obtain ⟨t',rfl⟩:=r'
   exact call_range_2 (zi2 I1 q1 q2 q3 q4 q)
noncomputable def tFor (wi:TI) (g:TG) (tb:TS):TS:=fun D σ H=>wi σ H fun J H1=>∃ W:Nat→Nat→St→Hp→Prop,(∃ m,W 0 m σ H1)∧∀ i m σ H,W i m σ H→
 (J.stop i H∧D.nx σ H)∨(J.go i H∧∃ N:St→Hp→Prop,(∀ σ' H',N σ' H'→∃ m',m' < m∧W (i+1) m' σ' H')∧∀ x H',J.yld i H x H'→g x σ H' fun σ2 H2=>tb {D with nx:=N,ct:=N,bk:=D.nx} σ2 H2)
noncomputable def zhH (fp:List Addr) (h:Heap):List (Addr×Obj):=fp.filterMap fun b=>(h.get? b).map fun o=>(b,o)
theorem zdQ {fp:List Addr}{h:Heap}{b:Addr}{o:Obj}(hb:b∈fp)(e:h.get? b=some o):(b,o)∈zhH fp h:=ybM.mpr ⟨b,hb,by rw [e];rfl⟩
theorem zkK {fp:List Addr}{h:Heap}{p:Addr×Obj}(hp:p∈zhH fp h):p.1∈fp∧h.get? p.1=some p.2:=by
 obtain ⟨b,hb,e⟩:=ybM.mp hp
 cases q:h.get? b with
 | none=>rw [q] at e;cases e
 | some o=>
  rw [q] at e
  have e':(b,o)=p:=qF e
  subst e'
  exact ⟨hb,q⟩
theorem Inv.pinned {pins:List (Addr×Obj)}{σ :St}{H:Hp}{s:Shared}{fp:List Addr}(I:Inv X pins σ H s)(hf:∀ b∈fp,FpOk X pins H b)(ho:∀ b∈fp,∃ o,s.heap.get? b=some o∧∀ v,o.data≠.cell v):Inv X (pins++zhH fp s.heap) σ H s:=
 I.pins_of fun p hp=>(qG.mp hp).elim (fun z=>I.pin p (jA _ z)) fun z=>by
  obtain ⟨hb,e⟩:=zkK z
  obtain ⟨f0,f1,f2,_⟩:=hf p.1 hb
  obtain ⟨o,e',d⟩:=ho p.1 hb
  rw [e] at e';cases e'
  exact ⟨e,f0,f1,f2,d⟩
theorem Inv.unpinned {pins pl:List (Addr×Obj)}{σ :St}{H:Hp}{s:Shared}(I:Inv X (pins++pl) σ H s):Inv X pins σ H s:=I.pins_of fun p hp=>I.pin p (jA _ (vP _ hp))
theorem ps_for {iter:Expr}{body:List Stmt}{wi:TI}{g:TG}{tb:TS}{pos:Pos}(hp:PassesOwn (model X.prog X.w) X.A X.env X.xe)(hc:X.calm=true)(hi:PI X tg iter wi)(hg:PG X tg g)(hb:PSs X body tb)
  (hs:∀ x,foldedSetIterable iter X.env x=pure x:=by intro _;rfl):PS X (.For tg iter body [] pos) (tFor wi g tb):=by
 intro pins s σ H D I h
 refine wpAny_For (thn (hi pins s σ H _ I h) fun v s1 h1=>thn h1 fun itv s2 h2=>?_) hs
 obtain ⟨it,fp,tn,J,H2,e,I2,T,st2,f2,W,⟨m0,w0⟩,turn⟩:=h2
 subst e
 have stat:∀ {H':Hp},(∀ b∈fp,H' b=none)→∀ b∈fp,FpOk X pins H' b:=fun hn b hb=>⟨hn b hb,(f2 b hb).2⟩
 refine codeAny_forLoop_any (fun n s'=>∃ i σ' H',Inv X pins σ' H' s'∧tn i s'.heap∧(∀ b∈fp,H' b=none)∧W i n σ' H') ?_ m0 ⟨0,σ,H2,I2,st2,fun b hb=>(f2 b hb).1,w0⟩
 rintro n s3 ⟨i,σ3,H3,I3,st3,fr3,w3⟩
 rcases turn i n σ3 H3 w3 with ⟨stop,qn⟩ | ⟨go,N,hN,step⟩
 ·refine wpAny_passesOwn hp (thn (T.done X rfl rfl rfl hc i pins s3 σ3 H3 X.xe I3 (stat fr3) st3 stop) fun r s4 ⟨hr,I4⟩=>?_)
  subst hr
  exact wpAny_execs_nil ⟨σ3,H3,I4,qn⟩
 ·refine wpAny_passesOwn hp (thn (T.item X rfl rfl rfl hc i pins s3 σ3 H3 X.xe I3 (stat fr3) st3 go) fun r s4 ⟨u,hr,h4⟩=>?_)
  subst hr
  refine wpAny_passesOwn hp (thn h4 fun _ s5 ⟨x,H5,I5,r5,y5,st5,fr5⟩=>?_)
  have I5':=I5.pinned (stat fr5) (T.obj _ _ st5)
  refine wpAny_passesOwn hp (thn (hg _ s5 σ3 H5 x u _ I5' r5 (step x H5 y5)) fun _ s6 ⟨σ6,H6,I6,q6⟩=>?_)
  refine wpAny_passesOwn hp (thn (hb _ s6 σ6 H6 _ I6 q6) fun f s7 q7=>?_)
  have again:∀ {σ7:St} {H7:Hp},Inv X (pins++zhH fp s5.heap) σ7 H7 s7→N σ7 H7→∃ m,m < n∧∃ i σ' H',Inv X pins σ' H' s7∧tn i s7.heap∧(∀ b∈fp,H' b=none)∧W i m σ' H':=fun {σ7 H7} I7 n7=>by
   obtain ⟨m',hm,w7⟩:=hN σ7 H7 n7
   refine ⟨m',hm,i+1,σ7,H7,I7.unpinned,T.keep _ _ _ st5 fun b hb o e=>(I7.pin (b,o) (jA _ (jA _ (zdQ hb e)))).1,fun b hb=>?_,w7⟩
   obtain ⟨o,e,d⟩:=T.obj _ _ st5 b hb
   exact (I7.pin (b,o) (jA _ (jA _ (zdQ hb e)))).2.1
  cases f with
  | next=>obtain ⟨σ7,H7,I7,n7⟩:=q7;exact again I7 n7
  | cont=>obtain ⟨σ7,H7,I7,n7⟩:=q7;exact again I7 n7
  | brk=>obtain ⟨σ7,H7,I7,q7⟩:=q7;exact ⟨σ7,H7,I7.unpinned,q7⟩
  | ret v=>obtain ⟨x7,σ7,H7,I7,r7,q7⟩:=q7;exact ⟨x7,σ7,H7,I7.unpinned,r7,q7⟩
end
theorem zce {K:PySem.W.Frag}{a:Addr}{xs:List V}{g:TG}{tb:TS}{D:Ends}{σ :St}{H:Hp}(Pv:Nat→St→Hp→Prop)(h0:Pv 0 σ H)(hl:∀ i σ H,i≤xs.length→Pv i σ H→SqL K H a xs)
  (hs:∀ i x σ H,xs[i]? =some x→Pv i σ H→g x σ H fun σ2 H2=>tb {D with nx:=Pv (i+1),ct:=Pv (i+1),bk:=D.nx} σ2 H2) (hd:∀ σ H,Pv xs.length σ H→D.nx σ H):
  ∃ W:Nat→Nat→St→Hp→Prop,(∃ m,W 0 m σ H)∧∀ i m σ H,W i m σ H→
   ((Itl K a).stop i H∧D.nx σ H)∨((Itl K a).go i H∧∃ N:St→Hp→Prop,(∀ σ' H',N σ' H'→∃ m',m' < m∧W (i+1) m' σ' H')∧∀ x H',(Itl K a).yld i H x H'→g x σ H' fun σ2 H2=>tb {D with nx:=N,ct:=N,bk:=D.nx} σ2 H2):=by
 refine ⟨fun i m σ H=>m=xs.length - i∧i≤xs.length∧Pv i σ H,⟨xs.length,by simp,qM _,h0⟩,?_⟩
 rintro i m σ H ⟨rfl,hi,p⟩
 have q:=hl i σ H hi p
 by_cases hlt:i < xs.length
 ·refine .inr ⟨⟨xs,xs[i],q,by simp [hlt]⟩,Pv (i+1),fun σ' H' p'=>⟨xs.length - (i+1),by omega,rfl,hlt,p'⟩,fun x H' y=>?_⟩
  obtain ⟨e,y⟩:=y
  subst e
  exact hs i x σ _ (y xs q) p
 ·have e:i=xs.length:=by omega
  subst e
  exact .inl ⟨⟨xs,q,yL _⟩,hd σ H p⟩
theorem zon {K:PySem.W.Frag}{a:Addr}{xs:List V}{g:TG}{tb:TS}{D:Ends}{σ :St}{H:Hp}(Pv:Nat→St→Hp→Prop)(h0:Pv 0 σ H)(hl:∀ i σ H,i≤xs.length→Pv i σ H→SqT K H a xs)
  (hs:∀ i x σ H,xs[i]? =some x→Pv i σ H→g x σ H fun σ2 H2=>tb {D with nx:=Pv (i+1),ct:=Pv (i+1),bk:=D.nx} σ2 H2) (hd:∀ σ H,Pv xs.length σ H→D.nx σ H):
  ∃ W:Nat→Nat→St→Hp→Prop,(∃ m,W 0 m σ H)∧∀ i m σ H,W i m σ H→
   ((Itt K a).stop i H∧D.nx σ H)∨((Itt K a).go i H∧∃ N:St→Hp→Prop,(∀ σ' H',N σ' H'→∃ m',m' < m∧W (i+1) m' σ' H')∧∀ x H',(Itt K a).yld i H x H'→g x σ H' fun σ2 H2=>tb {D with nx:=N,ct:=N,bk:=D.nx} σ2 H2):=by
 refine ⟨fun i m σ H=>m=xs.length - i∧i≤xs.length∧Pv i σ H,⟨xs.length,by simp,qM _,h0⟩,?_⟩
 rintro i m σ H ⟨rfl,hi,p⟩
 have q:=hl i σ H hi p
 by_cases hlt:i < xs.length
 ·refine .inr ⟨⟨xs,xs[i],q,by simp [hlt]⟩,Pv (i+1),fun σ' H' p'=>⟨xs.length - (i+1),by omega,rfl,hlt,p'⟩,fun x H' y=>?_⟩
  obtain ⟨e,y⟩:=y
  subst e
  exact hs i x σ _ (y xs q) p
 ·have e:i=xs.length:=by omega
  subst e
  exact .inl ⟨⟨xs,q,yL _⟩,hd σ H p⟩
theorem zcA {lo:Int}{n:Nat}{g:TG}{tb:TS}{D:Ends}{σ :St}{H:Hp}(Pv:Nat→St→Hp→Prop)(h0:Pv 0 σ H)
  (hs:∀ i σ H,i < n→Pv i σ H→g (.int (lo+i)) σ H fun σ2 H2=>tb {D with nx:=Pv (i+1),ct:=Pv (i+1),bk:=D.nx} σ2 H2) (hd:∀ σ H,Pv n σ H→D.nx σ H):
  ∃ W:Nat→Nat→St→Hp→Prop,(∃ m,W 0 m σ H)∧∀ i m σ H,W i m σ H→
   ((Itr lo n).stop i H∧D.nx σ H)∨((Itr lo n).go i H∧∃ N:St→Hp→Prop,(∀ σ' H',N σ' H'→∃ m',m' < m∧W (i+1) m' σ' H')∧∀ x H',(Itr lo n).yld i H x H'→g x σ H' fun σ2 H2=>tb {D with nx:=N,ct:=N,bk:=D.nx} σ2 H2):=by
 refine ⟨fun i m σ H=>m=n - i∧i≤n∧Pv i σ H,⟨n,by simp,qM _,h0⟩,?_⟩
 rintro i m σ H ⟨rfl,hi,p⟩
 by_cases hlt:i < n
 ·refine .inr ⟨hlt,Pv (i+1),fun σ' H' p'=>⟨n - (i+1),by omega,rfl,hlt,p'⟩,fun x H' y=>?_⟩
  obtain ⟨e,y⟩:=y
  subst e y
  exact hs i σ _ hlt p
 ·have e:i=n:=by omega
  subst e
  exact .inl ⟨yL _,hd σ H p⟩
noncomputable abbrev R2:=V→V→Hp→VK→Prop
noncomputable def OpR (X:Cx) (f:Value→Value→Sem Value) (r:R2):Prop:=
 ∀ (pins:List (Addr×Obj)) (s:Shared) (σ :St) (H:Hp) (x y:V) (v u:Value) (Q:VK),Inv X pins σ H s→RelV x v→RelV y u→r x y H Q→
  wpAny (model X.prog X.w) X.A (f v u) (EP X pins σ Q) X.xe s
noncomputable def UnR (X:Cx) (f:Value→Sem Value) (r:V→Hp→VK→Prop):Prop:=
 ∀ (pins:List (Addr×Obj)) (s:Shared) (σ :St) (H:Hp) (x:V) (v:Value) (Q:VK),Inv X pins σ H s→RelV x v→r x H Q→
  wpAny (model X.prog X.w) X.A (f v) (EP X pins σ Q) X.xe s
noncomputable def zc3 (X:Cx) (f:Value) (r:List V→Hp→VK→Prop):Prop:=
 ∀ (pins:List (Addr×Obj)) (s:Shared) (σ :St) (H:Hp) (xs:List V) (us:List Value) (Q:VK),Inv X pins σ H s→Vals xs us→r xs H Q→
  wpAny (model X.prog X.w) X.A (call f us) (EP X pins σ Q) X.xe s
noncomputable def tOp (r:R2) (ta tb:TE):TE:=fun σ H Q=>ta σ H fun x H1=>tb σ H1 fun y H2=>r x y H2 Q
noncomputable def tUn (r:V→Hp→VK→Prop) (ta:TE):TE:=fun σ H Q=>ta σ H fun x H1=>r x H1 Q
noncomputable def rI (C:Int→Int→Prop) (g:Int→Int→V):R2:=fun x y H Q=>∃ i j,x= .int i∧y= .int j∧C i j∧Q (g i j) H
noncomputable def rI0 (g:Int→Int→V):R2:=fun x y H Q=>∃ i j,x= .int i∧y= .int j∧Q (g i j) H
noncomputable def rU (g:Int→V):V→Hp→VK→Prop:=fun x H Q=>∃ i,x= .int i∧Q (g i) H
section
variable {X:Cx} {a b c:Expr} {ta tb tc:TE} {pos:Pos}
theorem binT (ha:PE X a ta)(hb:PE X b tb){pins:List (Addr×Obj)}{s:Shared}{σ :St}{H:Hp}{R:V→V→Hp→Prop}(I:Inv X pins σ H s)
  (h:ta σ H fun x H1=>tb σ H1 fun y H2=>R x y H2) {Q:Value→Shared→Prop} {f:Value→Value→Sem Value}
  (hf:∀ v u s2 x y H2,Inv X pins σ H2 s2→RelV x v→RelV y u→R x y H2→wpAny (model X.prog X.w) X.A (f v u) Q X.xe s2):
  wpAny (model X.prog X.w) X.A (eval a X.env) (fun v s₁ =>wpAny (model X.prog X.w) X.A (eval b X.env) (fun u s₂ =>wpAny (model X.prog X.w) X.A (f v u) Q X.xe s₂) X.xe s₁) X.xe s:=by
 refine thn (ha pins s σ H _ I h) fun v s1 ⟨x,H1,I1,r1,q1⟩=>?_
 refine thn (hb pins s1 σ H1 _ I1 q1) fun u s2 ⟨y,H2,I2,r2,q2⟩=>?_
 exact hf v u s2 x y H2 I2 r1 r2 q2
theorem pe_op {op:Operator}{r:R2}(ho:OpR X (binaryOp op) r)(ha:PE X a ta)(hb:PE X b tb):PE X (.BinOp a op b pos) (tOp r ta tb):=by
 intro pins s σ H Q I h
 exact wpAny_BinOp (binT ha hb I h fun v u s2 x y H2 I2 rx ry q=>ho pins s2 σ H2 x y v u Q I2 rx ry q)
theorem pe_un {op:UnaryOp}{r:V→Hp→VK→Prop}(ho:UnR X (unaryOp op) r)(ha:PE X a ta):PE X (.UnaryOp op a pos) (tUn r ta):=by
 intro pins s σ H Q I h
 exact UnaryOp_ (thn (ha pins s σ H _ I h) fun v s1 ⟨x,H1,I1,r1,q1⟩=>ho pins s1 σ H1 x v Q I1 r1 q1)
theorem opI {f:Value→Value→Sem Value}{C:Int→Int→Prop}{g:Int→Int→Int}
  (rule:∀ (i j:Int) (t u:Tok) (s:Shared) (Q:Value→Shared→Prop) (E:Value→Shared→Prop),C i j→Q (.int (g i j) s.toks) {s with toks:=s.toks+1}→wpAny (model X.prog X.w) X.A (f (.int i t) (.int j u)) Q E s):
  OpR X f (rI C fun i j=>.int (g i j)):=by
 intro pins s σ H x y v u Q I rx ry h
 obtain ⟨i,j,rfl,rfl,hc,q⟩:=h
 obtain ⟨t,rfl⟩:=rx
 obtain ⟨t',rfl⟩:=ry
 exact rule i j t t' s _ _ hc ⟨.int (g i j),H,I.tok _,⟨_,rfl⟩,q⟩
theorem opI0 {f:Value→Value→Sem Value}{g:Int→Int→Int}
  (rule:∀ (i j:Int) (t u:Tok) (s:Shared) (Q:Value→Shared→Prop) (E:Value→Shared→Prop),Q (.int (g i j) s.toks) {s with toks:=s.toks+1}→wpAny (model X.prog X.w) X.A (f (.int i t) (.int j u)) Q E s):
  OpR X f (rI0 fun i j=>.int (g i j)):=by
 intro pins s σ H x y v u Q I rx ry h
 obtain ⟨i,j,rfl,rfl,q⟩:=h
 obtain ⟨t,rfl⟩:=rx
 obtain ⟨t',rfl⟩:=ry
 exact rule i j t t' s _ _ ⟨.int (g i j),H,I.tok _,⟨_,rfl⟩,q⟩
theorem opB0 {f:Value→Value→Sem Value}{g:Int→Int→Bool}
  (rule:∀ (i j:Int) (t u:Tok) (s:Shared) (Q:Value→Shared→Prop) (E:Value→Shared→Prop),Q (.bool (g i j)) s→wpAny (model X.prog X.w) X.A (f (.int i t) (.int j u)) Q E s):
  OpR X f (rI0 fun i j=>.bl (g i j)):=by
 intro pins s σ H x y v u Q I rx ry h
 obtain ⟨i,j,rfl,rfl,q⟩:=h
 obtain ⟨t,rfl⟩:=rx
 obtain ⟨t',rfl⟩:=ry
 exact rule i j t t' s _ _ ⟨.bl (g i j),H,I,rfl,q⟩
noncomputable def CDiv (i j:Int):Prop:=0 < j∧j < 1073741824
noncomputable def CPow (i j:Int):Prop:=0≤j∧j≤1000000∧i.natAbs < 2 ^ 64
noncomputable def CMul (i j:Int):Prop:=(-(2 ^ 64) < i∧i < 2 ^ 64)∨(-(2 ^ 64) < j∧j < 2 ^ 64)
theorem CMul.ok {i j:Int}(h:CMul i j):IntMulOk i j:=by
 rcases h with ⟨h1,h2⟩ | ⟨h1,h2⟩
 ·exact .of_left (intBits_le_64 h1 h2)
 ·exact .of_right (intBits_le_64 h1 h2)
theorem zjS (k:Nat):(0:Int)≤2 ^ k:=by
 rw [two_pow_cast]
 exact wR _
theorem zbM:OpR X (binaryOp .Add) (rI0 fun i j=>.int (i+j)):=opI0 fun _ _ _ _ _ _ _ q=>add_int q
theorem zc4:OpR X (binaryOp .Sub) (rI0 fun i j=>.int (i - j)):=opI0 fun _ _ _ _ _ _ _ q=>sub_int q
theorem zjp:OpR X (binaryOp .Mult) (rI CMul fun i j=>.int (i * j)):=opI fun _ _ _ _ _ _ _ hc q=>mul_int q hc.ok
theorem zfD:OpR X (binaryOp .FloorDiv) (rI CDiv fun i j=>.int (i / j)):=opI fun i j _ _ _ _ _ hc q=>by
 have h1:(0:Int) < j:=hc.1
 have h2:j < 1073741824:=hc.2
 exact floordiv_int (by omega) (by rw [kZ i (by omega)];exact q) (.inl (PyProof.noPylong_small (by omega)))
theorem zcD:OpR X (binaryOp .Mod) (rI (fun _ j=>0 < j) fun i j=>.int (i % j)):=opI fun i j _ _ _ _ _ hc q=>by
 have h1:(0:Int) < j:=hc
 exact mod_int' (by omega) (by rw [Int.fmod_eq_emod_of_nonneg i (by omega)];exact q)
theorem znt:OpR X (binaryOp .Pow) (rI CPow fun i j=>.int (i ^ j.toNat)):=opI fun _ _ _ _ _ _ _ hc q=>pow_int_small hc.1 hc.2.1 hc.2.2 q
theorem op_shr:OpR X (binaryOp .RShift) (rI (fun _ j=>0≤j) fun i j=>.int (i / 2 ^ j.toNat)):=opI fun i j _ _ _ _ _ hc q=>
 rshift_int hc (by rw [kZ i (zjS _)];exact q)
theorem zjw:OpR X (binaryOp .BitAnd) (rI0 fun i j=>.int (qT i j)):=opI0 fun _ _ _ _ _ _ _ q=>and_int q
theorem znV:OpR X (binaryOp .BitOr) (rI0 fun i j=>.int (qY i j)):=opI0 fun _ _ _ _ _ _ _ q=>or_int q
theorem zi6:OpR X (binaryOp .BitXor) (rI0 fun i j=>.int (qO i j)):=opI0 fun _ _ _ _ _ _ _ q=>xor_int q
theorem unI {f:Value→Sem Value}{g:Int→Int}
  (rule:∀ (i:Int) (t:Tok) (s:Shared) (Q:Value→Shared→Prop) (E:Value→Shared→Prop),Q (.int (g i) s.toks) {s with toks:=s.toks+1}→wpAny (model X.prog X.w) X.A (f (.int i t)) Q E s):
  UnR X f (rU fun i=>.int (g i)):=by
 intro pins s σ H x v Q I rx h
 obtain ⟨i,rfl,q⟩:=h
 obtain ⟨t,rfl⟩:=rx
 exact rule i t s _ _ ⟨.int (g i),H,I.tok _,⟨_,rfl⟩,q⟩
theorem zju:UnR X (unaryOp .USub) (rU fun i=>.int (-i)):=unI fun _ _ _ _ _ q=>neg_int q
end
noncomputable def scal:V→V→Bool
 | .non,.non=>true | .non,.int _=>true | .int _,.non=>true | .non,.bl _=>true | .bl _,.non=>true | .non,.str _=>true | .str _,.non=>true
 | .int _,.int _=>true | .bl _,.bl _=>true | .str _,.str _=>true | .byt _,.byt _=>true
 | .int _,.str _=>true | .str _,.int _=>true | .bl _,.str _=>true | .str _,.bl _=>true
 | _,_=>false
noncomputable def rEq:R2:=fun x y H Q=>scal x y=true∧Q (.bl (decide (x=y))) H
noncomputable def rNe:R2:=fun x y H Q=>scal x y=true∧Q (.bl (!decide (x=y))) H
theorem zkY {i j:Int}:decide (V.int i=V.int j)=(i==j):=by
 rw [xG]
 simp
theorem znz {i j:Bool}:decide (V.bl i=V.bl j)=(i==j):=by
 rw [xG]
 simp
theorem zkm {i j:Str}:decide (V.str i=V.str j)=(i==j):=by
 rw [xG]
 simp
theorem zl3 {i j:Array UInt8}:decide (V.byt i=V.byt j)=(i.toList==j.toList):=by
 rw [xG]
 cases i
 cases j
 simp
section
variable {X:Cx} {a b c:Expr} {ta tb tc:TE} {pos:Pos}
theorem za6 {pins:List (Addr×Obj)}{σ :St}{H:Hp}{s:Shared}{Q:VK}{k k':Bool}(I:Inv X pins σ H s)(q:Q (.bl k) H)(e:k=k'):EP X pins σ Q (.bool k') s:=by
 subst e
 exact ⟨.bl k,H,I,rfl,q⟩
theorem zct:OpR X (compareOp .Eq) rEq:=by
 intro pins s σ H x y v u Q I rx ry h
 obtain ⟨hs,q⟩:=h
 cases x with
 | non=>
  cases rx
  cases y with
  | non=>cases ry;exact PySem.EqNone.eq_none_none (za6 I q (by simp))
  | bl j=>cases ry;exact PySem.EqNone.eq_none_bool (za6 I q (by simp))
  | int j=>obtain ⟨t',rfl⟩:=ry;exact PySem.EqNone.eq_none_int (za6 I q (by simp))
  | str j=>obtain ⟨t',rfl⟩:=ry;exact PySem.EqNone.eq_none_str (za6 I q (by simp))
  | _=>exact absurd (show false=true from hs) yQ
 | bl i=>
  cases rx
  cases y with
  | non=>cases ry;exact PySem.EqNone.eq_bool_none (za6 I q (by simp))
  | bl j=>cases ry;exact eq_bool (za6 I q znz)
  | str j=>obtain ⟨t',rfl⟩:=ry;exact PySem.EqMixed.eq_bool_str (za6 I q (by simp))
  | _=>exact absurd (show false=true from hs) yQ
 | int i=>
  obtain ⟨t,rfl⟩:=rx
  cases y with
  | non=>cases ry;exact PySem.EqNone.eq_int_none (za6 I q (by simp))
  | int j=>obtain ⟨t',rfl⟩:=ry;exact eq_int (za6 I q zkY)
  | str j=>obtain ⟨t',rfl⟩:=ry;exact PySem.EqMixed.eq_int_str (za6 I q (by simp))
  | _=>exact absurd (show false=true from hs) yQ
 | str i=>
  obtain ⟨t,rfl⟩:=rx
  cases y with
  | non=>cases ry;exact PySem.EqNone.eq_str_none (za6 I q (by simp))
  | bl j=>cases ry;exact PySem.EqMixed.eq_str_bool (za6 I q (by simp))
  | int j=>obtain ⟨t',rfl⟩:=ry;exact PySem.EqMixed.eq_str_int (za6 I q (by simp))
  | str j=>obtain ⟨t',rfl⟩:=ry;exact eq_str (za6 I q zkm)
  | _=>exact absurd (show false=true from hs) yQ
 | byt i=>
  obtain ⟨t,rfl⟩:=rx
  cases y with
  | byt j=>obtain ⟨t',rfl⟩:=ry;exact PySem.W.eq_bytes (za6 I q zl3)
  | _=>exact absurd (show false=true from hs) yQ
 | _=>cases y <;> exact absurd (show false=true from hs) yQ
theorem zkZ:OpR X (compareOp .NotEq) rNe:=by
 intro pins s σ H x y v u Q I rx ry h
 obtain ⟨hs,q⟩:=h
 cases x with
 | non=>
  cases rx
  cases y with
  | non=>cases ry;exact PySem.EqNone.ne_none_none (za6 I q (by simp))
  | bl j=>cases ry;exact PySem.EqNone.ne_none_bool (za6 I q (by simp))
  | int j=>obtain ⟨t',rfl⟩:=ry;exact PySem.EqNone.ne_none_int (za6 I q (by simp))
  | str j=>obtain ⟨t',rfl⟩:=ry;exact PySem.EqNone.ne_none_str (za6 I q (by simp))
  | _=>exact absurd (show false=true from hs) yQ
 | bl i=>
  cases rx
  cases y with
  | non=>cases ry;exact PySem.EqNone.ne_bool_none (za6 I q (by simp))
  | bl j=>cases ry;exact ne_bool (za6 I q (congrArg not znz))
  | str j=>obtain ⟨t',rfl⟩:=ry;exact PySem.EqMixed.ne_bool_str (za6 I q (by simp))
  | _=>exact absurd (show false=true from hs) yQ
 | int i=>
  obtain ⟨t,rfl⟩:=rx
  cases y with
  | non=>cases ry;exact PySem.EqNone.ne_int_none (za6 I q (by simp))
  | int j=>obtain ⟨t',rfl⟩:=ry;exact ne_int (za6 I q (congrArg not zkY))
  | str j=>obtain ⟨t',rfl⟩:=ry;exact PySem.EqMixed.ne_int_str (za6 I q (by simp))
  | _=>exact absurd (show false=true from hs) yQ
 | str i=>
  obtain ⟨t,rfl⟩:=rx
  cases y with
  | non=>cases ry;exact PySem.EqNone.ne_str_none (za6 I q (by simp))
  | bl j=>cases ry;exact PySem.EqMixed.ne_str_bool (za6 I q (by simp))
  | int j=>obtain ⟨t',rfl⟩:=ry;exact PySem.EqMixed.ne_str_int (za6 I q (by simp))
  | str j=>obtain ⟨t',rfl⟩:=ry;exact ne_str (za6 I q (congrArg not zkm))
  | _=>exact absurd (show false=true from hs) yQ
 | byt i=>
  obtain ⟨t,rfl⟩:=rx
  cases y with
  | byt j=>obtain ⟨t',rfl⟩:=ry;exact PySem.W.ne_bytes (za6 I q (congrArg not zl3))
  | _=>exact absurd (show false=true from hs) yQ
 | _=>cases y <;> exact absurd (show false=true from hs) yQ
theorem zlo:OpR X (compareOp .Lt) (rI0 fun i j=>.bl (decide (i < j))):=opB0 fun _ _ _ _ _ _ _ q=>lt_int q
theorem zoJ:OpR X (compareOp .Gt) (rI0 fun i j=>.bl (decide (j < i))):=opB0 fun _ _ _ _ _ _ _ q=>gt_int q
theorem op_ge:OpR X (compareOp .GtE) (rI0 fun i j=>.bl (decide (j≤i))):=opB0 fun _ _ _ _ _ _ _ q=>ge_int q
theorem OpR.or {f:Value→Value→Sem Value}{r r':R2}(h:OpR X f r)(h':OpR X f r'):OpR X f (fun x y H Q=>r x y H Q∨r' x y H Q):=by
 intro pins s σ H x y v u Q I rx ry q
 rcases q with q | q
 ·exact h pins s σ H x y v u Q I rx ry q
 ·exact h' pins s σ H x y v u Q I rx ry q
theorem zaB (b:Expr){op:CmpOp}(h:op≠.In:=by decide)(h2:op≠.NotIn:=by decide):behindInMarks op b=false:=by
 have e1:(op==CmpOp.In)=false:=by cases op <;> first | rfl | exact absurd rfl h
 have e2:(op==CmpOp.NotIn)=false:=by cases op <;> first | rfl | exact absurd rfl h2
 cases b <;> simp [behindInMarks,e1,e2]
theorem zoO {op:CmpOp}{r:R2}(ho:OpR X (compareOp op) r)(ha:PE X a ta)(hb:PE X b tb)(hm:behindInMarks op b=false):PE X (.Compare a [op] [b] pos) (tOp r ta tb):=by
 intro pins s σ H Q I h
 exact wpAny_Compare1 (binT ha hb I h fun v u s2 x y H2 I2 rx ry q=>ho pins s2 σ H2 x y v u Q I2 rx ry q) hm
noncomputable def tTest (t:TE):TT:=fun σ H Q=>t σ H fun x H'=>∃ k,x= .bl k∧Q k H'
theorem znL {op:CmpOp}{r:R2}(ho:OpR X (compareOp op) r)(ha:PE X a ta)(hb:PE X b tb)(hm:behindInMarks op b=false):PT X (.Compare a [op] [b] pos) (tTest (tOp r ta tb)):=by
 intro pins s σ H Q I h
 refine wpAny_isTrue_Compare1 (thn (ha pins s σ H _ I h) fun v s1 ⟨x,H1,I1,r1,q1⟩=>thn (hb pins s1 σ H1 _ I1 q1) fun u s2 ⟨y,H2,I2,r2,q2⟩=>
  thn (ho pins s2 σ H2 x y v u _ I2 r1 r2 q2) fun c s3 ⟨z,H3,I3,r3,k,e,q3⟩=>?_) hm
 subst e
 cases r3
 exact wpAny_truthy_bool ⟨H3,I3,q3⟩
theorem zjq:(yK:Nat) < 2 ^ 63:=by rw [sizeLine_eq];decide
theorem zgs {x:V}{us:List Value}(r:Vals [x] us):∃ u,us= [u]∧RelV x u:=by
 cases r with
 | cons r1 r2=>cases r2;exact ⟨_,rfl,r1⟩
theorem vals2 {x y:V}{us:List Value}(r:Vals [x,y] us):∃ u w',us= [u,w']∧RelV x u∧RelV y w':=by
 cases r with
 | cons r1 r2=>
  cases r2 with
  | cons r3 r4=>cases r4;exact ⟨_,_,rfl,r1,r3⟩
theorem zkO (hc:X.calm=true):zc3 X (.builtin "min") (fun xs H Q=>∃ i j,xs= [.int i,.int j]∧Q (.int (if j < i then j else i)) H):=by
 intro pins s σ H xs us Q I r h
 obtain ⟨i,j,rfl,q⟩:=h
 obtain ⟨u,w',rfl,⟨t,rfl⟩,⟨t',rfl⟩⟩:=vals2 r
 refine min_two_ints (I.ok.hd hc) fun h' tk k=>⟨_,H,I.kept k,?_,q⟩
 by_cases hj:j < i
 ·rw [if_pos hj,if_pos hj];exact ⟨_,rfl⟩
 ·rw [if_neg hj,if_neg hj];exact ⟨_,rfl⟩
theorem zf7:zc3 X (.type "int") (fun xs H Q=>(∃ i,xs= [.int i]∧Q (.int i) H)∨∃ k,xs= [.bl k]∧Q (.int (if k then 1 else 0)) H):=by
 intro pins s σ H xs us Q I r h
 rcases h with ⟨i,rfl,q⟩ | ⟨k,rfl,q⟩
 ·obtain ⟨u,rfl,t,rfl⟩:=zgs r
  exact call_int_int ⟨.int i,H,I,⟨_,rfl⟩,q⟩
 ·obtain ⟨u,rfl,r1⟩:=zgs r
  cases r1
  exact call_int_bool ⟨.int (if k then 1 else 0),H,I.tok _,⟨_,rfl⟩,q⟩
end
structure ObjM (h:Heap) (x dx C:Addr) (mA:Str→Option Value):Prop where
 obj:h.get? x=some (PySem.W.instObj C dx)
 ns:h.Ns1 dx mA
 ne:dx≠x
theorem zkX {h:Heap}{dx:Addr}{mA:Str→Option Value}(n:h.Ns1 dx mA):∃ od,h.get? dx=some od∧∀ name,PySem.W.lookIn name od=some (mA name):=by
 obtain ⟨o,es,ep,ho,hd,hk,_,hm⟩:=n
 refine ⟨o,ho,fun name=>?_⟩
 have e:=hm name
 unfold nsFind findBy at e
 rw [← Array.find?_toList] at e
 unfold PySem.W.lookIn
 rw [hd]
 dsimp only
 split
 ·rename_i y q
  rw [q] at e
  exact congrArg some e
 ·rename_i q
  rw [q] at e
  have a:es.toList.any (·.refKey)=false:=by
   rw [vU]
   intro y hy
   obtain ⟨z,t,hkey⟩:=hk y (Array.mem_toList_iff.mp hy)
   simp [DictEntry.refKey,hkey]
  have a':¬es.toList.any (·.refKey)=true:=by rw [a];exact yQ
  rw [if_neg a']
  exact congrArg some e
theorem ObjM.look {h:Heap}{x dx C:Addr}{mA:Str→Option Value}(I:ObjM h x dx C mA):∃ od,PySem.W.InstAt h x (PySem.W.instObj C dx) C (some od)∧∀ name,PySem.W.lookIn name od=some (mA name):=
 let ⟨od,ho,hl⟩:=zkX I.ns
 ⟨od,⟨I.obj,rfl,rfl,ho⟩,hl⟩
section
variable {prog:Program} {w:World} {A:Around} {E:Value→Shared→Prop} {s:Shared} {K:PySem.W.Frag} {x dx C f:Addr} {mA:Str→Option Value} {name:Str} {v:Value}
end
theorem RelO.some_of {v:V}{o:Option Value}(r:RelO (some v) o):∃ u,o=some u∧RelV v u:=by
 cases o with
 | none=>exact (show False from r).elim
 | some u=>exact ⟨u,rfl,r⟩
section
variable {P:Program} {w:World} {H H':Hp} {h h':Heap} {a C dx:Addr} {fs fs':List (Str×V)}
theorem zox (hok:HOk P w H h)(e:H a=some (.ins C dx fs)):∃ mA,ObjM h a dx C mA∧(∀ f,RelO (fs.lookup f) (mA f))∧PySem.Within mA (fs.map (·.1))∧fs.length≤1000∧H dx=some (.own a):=by
 obtain ⟨d,z,ne,ob,mA,n,r,q⟩:=(show zbh P w H h a (.ins C dx fs) from hok a _ e)
 exact ⟨mA,⟨ob,n,ne⟩,r,q,z,d⟩
end
structure Cls (K:PySem.W.Frag) (C:Addr):Prop where
 pg:PySem.W.plainGet K C Str.empty=true
 hd:PySem.W.hasDictIn K C=true
 po:PySem.W.plainOver K C=true
 sa:PySem.W.findIn K (.ref C) "__setattr__" =some (some (.builtin "object.__setattr__"))
theorem Cls.get {K:PySem.W.Frag}{C:Addr}(c:Cls K C)(f:Str):PySem.W.plainGet K C f=true:=c.pg
section
variable {X:Cx} {pins:List (Addr×Obj)} {σ :St} {H:Hp} {s:Shared} {a C dx:Addr} {fs:List (Str×V)} {f:Str} {v:V} {A:Around} {E:Value→Shared→Prop}
theorem Inv.made (I:Inv X pins σ H s):Inv X pins σ (upd (upd H s.heap.objs.size (.own (s.heap.objs.size+1))) (s.heap.objs.size+1) (.ins C s.heap.objs.size []))
  {s with heap:=(s.heap.push PySem.W.emptyDict).push (PySem.W.instObj C s.heap.objs.size)}:=by
 have e1:(s.heap.push PySem.W.emptyDict).get? s.heap.objs.size=some PySem.W.emptyDict:=yO s.heap rfl
 have e2:((s.heap.push PySem.W.emptyDict).push (PySem.W.instObj C s.heap.objs.size)).get? (s.heap.objs.size+1)=some (PySem.W.instObj C s.heap.objs.size):=by
  have:=yO (s.heap.push PySem.W.emptyDict) (o:=PySem.W.instObj C s.heap.objs.size) rfl
  rwa [vN] at this
 have e3:(s.heap.push PySem.W.emptyDict).Ns s.heap.objs.size (fun _=>none):=⟨PySem.W.emptyDict,#[],_,e1,rfl,(fun e he=>absurd he (by simp)),fun _=>rfl⟩
 have I1:=I.laid (a:=s.heap.objs.size) (o:=.own (s.heap.objs.size+1)) (h':=s.heap.push PySem.W.emptyDict) (t':=s.toks) (fun b u q=>yD _ q) (yL _) ⟨_,e1⟩
 refine I1.laid (a:=s.heap.objs.size+1) (o:=.ins C s.heap.objs.size []) (t':=s.toks) (fun b u q=>yD _ q) (Nat.le_of_eq (vN _ _)) ?_
 have ne:s.heap.objs.size≠s.heap.objs.size+1:=qA (yar _)
 refine ⟨by rw [zah ne,zab],qM _,ne,e2,fun _=>none,(Heap.Ns1.of_empty e3).at fun o q=>yD _ q,fun _=>True.intro,fun y hy=>absurd rfl hy⟩
end
section
variable {X:Cx} {o e value:Expr} {f:Str} {pos pos' tpos:Pos} {ta tv:TE}
end
section
variable {X:Cx} {pins:List (Addr×Obj)} {σ :St} {H:Hp} {s:Shared} {A:Around} {E:Value→Shared→Prop} {Q:Value→Shared→Prop} {c:Value} {b:Bool}
inductive TyOf (K:PySem.W.Frag) (H:Hp):V→Value→Prop where
 | non:TyOf K H .non (.type "NoneType")
 | bl (x:Bool):TyOf K H (.bl x) (.type "bool")
 | int (i:Int):TyOf K H (.int i) (.type "int")
 | str (x:Str):TyOf K H (.str x) (.type "str")
 | flt (x:UInt64):TyOf K H (.flt x) (.type "float")
 | lst {a:Addr} {xs:List V} (e:H a=some (.lst xs)):TyOf K H (.ref a) (.type "list")
 | frz {a:Addr} {o:Obj} {xs:List V} (e:H a=some (.frz o (.lst xs))):TyOf K H (.ref a) (.type "list")
 | tup {a:Addr} {xs:List V} (e:H a=some (.tup xs)):TyOf K H (.ref a) (.type "tuple")
 | dK {a:Addr} {kvs:List (Key×V)} (e:H a=some (.dK kvs)):TyOf K H (.ref a) (.type "dict")
 | dT {a:Addr} {kvs:List (List Key×V)} (e:H a=some (.dT kvs)):TyOf K H (.ref a) (.type "dict")
 | ins {a C dx:Addr} {fs:List (Str×V)} (e:H a=some (.ins C dx fs)) (cl:Cls K C) (ha:PySem.W.findIn K (.ref C) "__class__" =some (some (.builtin "object.__class__")))
   (hn:PySem.W.specialIn K (.builtin "object.__class__") "__get__" =some (some (.builtin "getset_descriptor.__get__"))) (htk:PySem.W.takesIn K (.builtin "object.__class__")=some true)
   (hm:PySem.W.mroIn K C (.type "object")=some true):TyOf K H (.ref a) (.ref C)
theorem zlw {x:V}{u t:Value}(I:Inv X pins σ H s)(rx:RelV x u)(ty:TyOf X.K H x t)(e:PySem.W.kitOne X.K t c=some b)(h:∀ tk,Q (.bool b) {s with toks:=tk}):
  wpAny (model X.prog X.w) A (call (.builtin "isinstance") [u,c]) Q E s:=by
 cases ty with
 | non=>cases (show u=Value.none from rx);exact PySem.W.kia_one PySem.W.kitx_none I.kIn True.intro e (fun z=>nomatch z) h
 | bl y=>cases (show u=Value.bool y from rx);exact PySem.W.kia_one PySem.W.kitx_bool I.kIn True.intro e (fun z=>nomatch z) h
 | int i=>obtain ⟨t,q⟩:=(show ∃ t,u=Value.int i t from rx);cases q;exact PySem.W.kia_one PySem.W.kitx_int I.kIn True.intro e (fun z=>nomatch z) h
 | str y=>obtain ⟨t,q⟩:=(show ∃ t,u=Value.str y t from rx);cases q;exact PySem.W.kia_one PySem.W.kitx_str I.kIn True.intro e (fun z=>nomatch z) h
 | flt y=>obtain ⟨t,q⟩:=(show ∃ t,u=Value.float y t from rx);cases q;exact PySem.W.kia_one PySem.W.kitx_float I.kIn True.intro e (fun z=>nomatch z) h
 | @lst a xs ea=>
  cases (show u=Value.ref a from rx)
  obtain ⟨_,_,n,_,h1⟩:=(show zbh X.prog X.w H s.heap a (.lst xs) from I.hok a _ ea)
  exact PySem.W.kia_one PySem.W.kitx_list I.kIn ⟨_,h1,rfl⟩ e (fun z=>nomatch z) h
 | @frz a ob xs ea=>
  cases (show u=Value.ref a from rx)
  obtain ⟨_,_,_,n,_,h1⟩:=(show zbh X.prog X.w H s.heap a (.frz ob (.lst xs)) from I.hok a _ ea)
  exact PySem.W.kia_one PySem.W.kitx_list I.kIn ⟨_,h1,rfl⟩ e (fun z=>nomatch z) h
 | @tup a xs ea=>
  cases (show u=Value.ref a from rx)
  obtain ⟨_,_,_,p⟩:=(show zbh X.prog X.w H s.heap a (.tup xs) from I.hok a _ ea)
  obtain ⟨o,h1,h2,_⟩:=p
  exact PySem.W.kia_one PySem.W.kitx_tuple I.kIn ⟨o,h1,h2⟩ e (fun z=>nomatch z) h
 | @dK a kvs ea=>
  cases (show u=Value.ref a from rx)
  obtain ⟨_,_,vs,_,p⟩:=(show zbh X.prog X.w H s.heap a (.dK kvs) from I.hok a _ ea)
  obtain ⟨o,es,ep,h1,h2,_⟩:=p
  exact PySem.W.kia_one PySem.W.kitx_dict I.kIn ⟨o,h1,h2.1⟩ e (fun z=>nomatch z) h
 | @dT a kvs ea=>
  cases (show u=Value.ref a from rx)
  obtain ⟨_,_,xs,_,o,es,ep,h1,h2,_⟩:=(show zbh X.prog X.w H s.heap a (.dT kvs) from I.hok a _ ea)
  exact PySem.W.kia_one PySem.W.kitx_dict I.kIn ⟨o,h1,h2.1⟩ e (fun z=>nomatch z) h
 | @ins a C dx fs ea cl ha hn htk hm=>
  cases (show u=Value.ref a from rx)
  obtain ⟨mA,O,_⟩:=zox I.hok ea
  obtain ⟨od,J,_⟩:=O.look
  exact PySem.W.kia_one (PySem.W.kitx_own (cl.get _) cl.hd ha hn htk hm) I.kIn J e (fun z=>nomatch z) h
end
structure Room (k:Nat) (A:Around):Prop where
 hd:A.handled=none
 dp:A.depth+3 * k+5 < recursionLimit
 un:A.units+16 * k+200 < cLine
 gd:A.guards=some []
theorem Room.mono {j k:Nat}{A:Around}(r:Room k A)(h:j≤k):Room j A:=⟨r.hd,by have:=r.dp;omega,by have:=r.un;omega,r.gd⟩
theorem Room.deeper {k:Nat}{A:Around}(r:Room (k+1) A)(env:Env):Room k (A.deeper env):=
 ⟨r.hd,by have:=r.dp;show A.depth+1+3 * k+5 < _;omega,by have:=r.un;show A.units+3+16 * k+200 < _;omega,r.gd⟩
theorem Room.in1 {k:Nat}{A:Around}(r:Room (k+1) A):Room k A.in1:=
 ⟨r.hd,by have:=r.dp;show A.depth+3 * k+5 < _;omega,by have:=r.un;show A.units+1+16 * k+200 < _;omega,r.gd⟩
theorem Room.depth {k:Nat}{A:Around}(r:Room k A):A.depth < recursionLimit:=by have:=r.dp;omega
theorem Room.units {k:Nat}{A:Around}(r:Room k A):A.units+64 < cLine:=by have:=r.un;omega
noncomputable def tNil:TA:=fun _ H Q=>Q [] H
noncomputable def tCons (ta:TE) (tr:TA):TA:=fun σ H Q=>ta σ H fun x H1=>tr σ H1 fun xs H2=>Q (x::xs) H2
section
variable {X:Cx} {e:Expr} {es:List Expr} {te:TE} {t:TA} {pos:Pos}
theorem pa_nil:PA X [] tNil:=fun _ _ _ _ H Q I h=>yae ⟨[],H,I,.nil,h⟩
theorem znY (ha:PE X e te)(hr:PA X es t)(hs:starEach (e::es) X.env=(false,eval e X.env)::starEach es X.env:=by rfl):PA X (e::es) (tCons te t):=by
 intro pos pins s σ H Q I h
 rw [hs]
 show wpAny _ _ (spliced ((false,eval e X.env)::backTo pos (starEach es X.env))) _ _ s
 refine kM (thn (ha pins s σ H _ I h) fun u s1 ⟨x,H1,I1,r1,q1⟩=>?_)
 exact thn (hr pos pins s1 σ H1 _ I1 q1) fun us s2 ⟨xs,H2,I2,r2,q2⟩=>⟨x::xs,H2,I2,.cons r1 r2,q2⟩
noncomputable def tTup (t:TA):TE:=fun σ H Q=>t σ H fun xs H1=>xs.length≤yK∧∀ p,H1 p=none→Q (.ref p) (upd H1 p (.tup xs))
noncomputable def tLst (t:TA):TE:=fun σ H Q=>t σ H fun xs H1=>xs.length≤yK∧∀ p,H1 p=none→Q (.ref p) (upd H1 p (.lst xs))
theorem pe_tup {x1}(h:PA X es t):PE X (.Tuple es x1 pos) (tTup t):=by
 intro pins s σ H Q I hq
 refine wpAny_Tuple_spliced (thn (h pos pins s σ H _ I hq) fun us s1 ⟨xs,H1,I1,r,z,q⟩=>⟨by rw [← r.length];exact z,?_⟩)
 have hf:H1 s1.heap.objs.size=none:=I1.hok.fresh (yL _)
 refine ⟨.ref s1.heap.objs.size,upd H1 s1.heap.objs.size (.tup xs),I1.laid (t':=s1.toks) (fun b u e=>yD _ e) (yL _) ?_,rfl,q _ hf⟩
 exact ⟨z,us,r,⟨_,yO _ rfl,rfl,_,rfl⟩⟩
theorem pe_lst (h:PA X es t):PE X (.List es pos) (tLst t):=by
 intro pins s σ H Q I hq
 refine wpAny_List_spliced (thn (h pos pins s σ H _ I hq) fun us s1 ⟨xs,H1,I1,r,z,q⟩=>⟨by rw [← r.length];exact z,?_⟩)
 have hf:H1 s1.heap.objs.size=none:=I1.hok.fresh (yL _)
 refine ⟨.ref s1.heap.objs.size,upd H1 s1.heap.objs.size (.lst xs),I1.laid (t':=s1.toks) (fun b u e=>yD _ e) (yL _) ?_,rfl,q _ hf⟩
 exact ⟨z,us,0,r,yO _ rfl⟩
end
noncomputable abbrev Sp:=List V→Hp→VK→XK→Prop
noncomputable abbrev CXT:=List Env→Hp→Shared→XK→Value→Shared→Prop
structure Env0 (P:Program) (w:World) (K:PySem.W.Frag) (mg:Str→Option Value) (base:Heap) (A:Around) (outer:List Env) (s:Shared) (H:Hp):Prop where
 frames:A.frames=some outer
 mod:Mod K mg base
 bs:∀ b o,base.get? b=some o→s.heap.get? b=some o∧H b=none
 bsz:base.objs.size≤s.heap.objs.size
 funs:s.heap.FunFrames base outer
 frf:∀ b∈frs outer,H b=none
 hok:HOk P w H s.heap
 bare:AllBare s.gens
noncomputable def CE (outer:List Env) (P:Program) (w:World) (H:Hp) (s:Shared) (Q:VK) (u:Value) (s':Shared):Prop:=
 ∃ v H',s'.os=s.os∧AllBare s'.gens∧Un (frs outer) [] H H' s.heap s'.heap∧HOk P w H' s'.heap∧RelV v u∧Q v H'
noncomputable def CR (CX:CXT) (outer:List Env) (P:Program) (w:World) (H:Hp) (s:Shared) (Q:VK) (E:XK) (r:Result) (s':Shared):Prop:=
 match r with
 | .ok (.ret u)=>CE outer P w H s Q u s'
 | .ok _=>False
 | .error e=>CX outer H s E e s'
structure FnOk (P:Program) (w:World) (K:PySem.W.Frag) (mg:Str→Option Value) (base:Heap) (CX:CXT) (k:Nat) (f:Addr) (fd:FuncData) (ps:List Str) (sp:Sp):Prop where
 len:∀ vs H Q E,sp vs H Q E→vs.length=ps.length
 run:∀ (A:Around) (outer:List Env) (s:Shared) (H:Hp) (args:Args) (us:List Value) (vs:List V) (Q:VK) (E:XK),Room k A→Env0 P w K mg base A outer s H→BindsTo s fd args (ps.zip us)→Vals vs us→sp vs H Q E→
  codeAny (model P w) A (.call (.ref f) args) (CR CX outer P w H s Q E) s
theorem FnOk.mono {P:Program}{w:World}{K:PySem.W.Frag}{mg:Str→Option Value}{base:Heap}{CX:CXT}{j k:Nat}{f:Addr}{fd:FuncData}{ps:List Str}{sp:Sp}(F:FnOk P w K mg base CX j f fd ps sp)(h:j≤k):
  FnOk P w K mg base CX k f fd ps sp:=⟨F.len,fun A outer s H args us vs Q E hr=>F.run A outer s H args us vs Q E (hr.mono h)⟩
theorem FnOk.imp {P:Program}{w:World}{K:PySem.W.Frag}{mg:Str→Option Value}{base:Heap}{CX:CXT}{k:Nat}{f:Addr}{fd:FuncData}{ps:List Str}{sp sp':Sp}(F:FnOk P w K mg base CX k f fd ps sp)
  (h:∀ vs H Q E,sp' vs H Q E→sp vs H Q E):FnOk P w K mg base CX k f fd ps sp':=
 ⟨fun vs H Q E q=>F.len vs H Q E (h _ _ _ _ q),fun A outer s H args us vs Q E hr he hb hv hs=>F.run A outer s H args us vs Q E hr he hb hv (h _ _ _ _ hs)⟩
theorem Env0.in1 {P:Program}{w:World}{K:PySem.W.Frag}{mg:Str→Option Value}{base:Heap}{A:Around}{outer:List Env}{s:Shared}{H:Hp}(e:Env0 P w K mg base A outer s H):
  Env0 P w K mg base A.in1 outer s H:=⟨e.frames,e.mod,e.bs,e.bsz,e.funs,e.frf,e.hok,e.bare⟩
section
variable {X:Cx} {pins:List (Addr×Obj)} {σ :St} {H:Hp} {s s':Shared}
theorem Inv.env0 (I:Inv X pins σ H s):Env0 X.prog X.w X.K X.mg X.base X.A X.stack s H:=
 ⟨I.ok.frames,I.ok.mod,I.bs,jY I.ok.bsz I.sz,I.stack,I.stkFree,I.hok,I.bare⟩
theorem Inv.after {Q:VK}{u:Value}(I:Inv X pins σ H s)(h:CE X.stack X.prog X.w H s Q u s'):EP X pins σ Q u s':=by
 obtain ⟨v,H',os,bare,un,hok,r,q⟩:=h
 obtain ⟨hh,g,d,t,os'⟩:=s'
 obtain rfl:os'=s.os:=os
 exact ⟨v,H',I.call (h':=hh) (g':=g) (d':=d) (t':=t) (ch:=[]) un hok bare (fun b z=>absurd z (by simp)),r,q⟩
end
noncomputable def tCall (sp:Sp) (dvs:List V) (E:XK) (t:TA):TE:=fun σ H Q=>t σ H fun vs H1=>sp (vs++dvs) H1 Q E
noncomputable def zgp (K:PySem.W.Frag) (fd:FuncData) (ps:List Str) (ds:List Value):Prop:=
 ∀ (s:Shared) (us:List Value),K.In s.heap→(us++ds).length=ps.length→BindsTo s fd ⟨us,[]⟩ (ps.zip (us++ds))
theorem zgp.all {K:PySem.W.Frag}{fd:FuncData}{ps:List Str}(h:∀ us:List Value,us.length=ps.length→bindArgs fd ⟨us,[]⟩=pure (ps.zip us)):zgp K fd ps []:=fun s us _ hl=>by
 rw [jH] at hl ⊢
 exact .of_eq (h us hl)
noncomputable def zjd (CX:CXT) (X:Cx) (E:XK):Prop:=∀ (pins:List (Addr×Obj)) (σ :St) (H:Hp) (s:Shared) (e:Value) (s':Shared),Inv X pins σ H s→CX X.stack H s E e s'→X.xe e s'
section
variable {X:Cx} {CX:CXT} {k:Nat} {f C:Addr} {fd:FuncData} {ps:List Str} {sp:Sp} {dvs:List V} {ds:List Value} {E:XK} {x m:Str} {p pos apos:Pos} {e o:Expr} {es:List Expr} {ta:TE} {t:TA}
theorem run_fn {pins:List (Addr×Obj)}{σ :St}{H:Hp}{s:Shared}{Q:VK}{us:List Value}{vs:List V}(F:FnOk X.prog X.w X.K X.mg X.base CX k f fd ps sp)(hr:Room k X.A)(hb:zgp X.K fd ps ds)(hd:Vals dvs ds)(hx:zjd CX X E)
  (I:Inv X pins σ H s) (r:Vals vs us) (h:sp (vs++dvs) H Q E):wpAny (model X.prog X.w) X.A (call (.ref f) us) (EP X pins σ Q) X.xe s:=by
 have r2:Vals (vs++dvs) (us++ds):=r.append hd
 have hl:(us++ds).length=ps.length:=by rw [← r2.length];exact F.len _ _ _ _ h
 refine wpAny_call (codeAny_mono (F.run X.A X.stack s H ⟨us,[]⟩ (us++ds) (vs++dvs) Q E hr I.env0 (hb s us I.kIn hl) r2 h) fun r s' hq=>?_)
 cases r with
 | error e=>exact hx pins σ H s e s' I hq
 | ok fl=>
  cases fl with
  | ret u=>exact I.after hq
  | next=>exact vT hq
  | brk=>exact vT hq
  | cont=>exact vT hq
theorem znP (F:FnOk X.prog X.w X.K X.mg X.base CX k f fd ps sp)(hr:Room k X.A)(hg:Gl X x)(hm:X.mg x=some (.ref f))(hk:PySem.W.keepIn X.K (.ref f)=true)(hb:zgp X.K fd ps ds)(hd:Vals dvs ds)(hx:zjd CX X E)
  (ha:PA X (e::es) t) (hdb:(x==("__debug__" :Str))=false:=by decide) (he:starEach (e::es) X.env=(false,eval e X.env)::starEach es X.env:=by rfl) (hpl:(backTo pos (starEach es X.env)).any (·.1)=false:=by rfl):
  PE X (.Call (.Name x p) (e::es) [] pos) (tCall sp dvs E t):=by
 intro pins s σ H Q I h
 refine wpAny_Call_Name_kw (zlO I hg hm ?_ hdb)
 refine PySem.W.callWith_K (h₀ :=X.base) I.ok.mod.kin hk (thn (ha pos pins s σ H _ I h) fun us s1 ⟨vs,H1,I1,r,q⟩=>⟨I1.kIn,?_⟩) he hpl
 exact run_fn F hr hb hd hx I1 r q
end
section
variable {X:Cx} {CX:CXT} {k:Nat} {f C:Addr} {fd:FuncData} {ps ks:List Str} {sp:Sp} {E:XK} {x m:Str} {p pos apos kpos:Pos} {e o:Expr} {es:List Expr} {kws:List Keyword} {te ta:TE} {t tk:TA} {nm:Option Str}
variable {g:List Value→List Value→List Value} {gV:List V→List V→List V}
end
structure zaw (N P:List Str) (sc:Scope):Prop where
 kind:sc.kind= .function
 co:sc.isCoroutine=false
 gen:sc.isGenerator=false
 nd:N.Nodup
 pre:N.take P.length=P
 par:∀ x∈P,sc.names.lookup x=some .local∨sc.names.lookup x=some .cell
 nofree:∀ y∈sc.names,y.2≠.free
theorem zhI {kindOf:Str→Option NameKind}{x:Str}:∀ {binds:List (Str×Value)} {m:Str→Option Value},(∀ v,(x,v)∉binds)→bindL kindOf binds m x=m x
 | [],_,_=>rfl
 | (n,v)::r,m,h=>by
  unfold bindL
  rw [zhI fun w hw=>h w (xW _ hw)]
  split
  ·have:x≠n:=by rintro rfl;exact h v vK
   simp [this]
  ·rfl
theorem zh3 {kindOf:Str→Option NameKind}{x:Str}:∀ {binds:List (Str×Value)} {m:Str→Option Value},(∀ v,(x,v)∉binds)→bindC kindOf binds m x=m x
 | [],_,_=>rfl
 | (n,v)::r,m,h=>by
  unfold bindC
  rw [zh3 fun w hw=>h w (xW _ hw)]
  split
  ·rfl
  ·have:x≠n:=by rintro rfl;exact h v vK
   simp [this]
theorem zhL {kindOf:Str→Option NameKind}{x:Str}{v:Value}:∀ {P:List Str} {vs:List Value} {i:Nat} {m:Str→Option Value},P.Nodup→P[i]? =some x→vs[i]? =some v→kindOf x=some .local→
  bindL kindOf (P.zip vs) m x=some v
 | [],_,_,_,_,h,_,_=>by simp at h
 | _::_,[],_,_,_,_,h,_=>by simp at h
 | p::P,w::vs,0,m,nd,h1,h2,hk=>by
  simp at h1 h2;subst h1;subst h2
  show bindL kindOf ((p,w)::P.zip vs) m p=_
  unfold bindL
  rw [zhI fun v hv=>(xA.mp nd).1 (ybj hv).1,if_pos hk]
  simp
 | p::P,w::vs,i+1,m,nd,h1,h2,hk=>by
  show bindL kindOf ((p,w)::P.zip vs) m x=_
  unfold bindL
  exact zhL (i:=i) (xA.mp nd).2 (by simpa using h1) (by simpa using h2) hk
theorem zh0 {kindOf:Str→Option NameKind}{x:Str}{v:Value}:∀ {P:List Str} {vs:List Value} {i:Nat} {m:Str→Option Value},P.Nodup→P[i]? =some x→vs[i]? =some v→kindOf x≠some .local→
  bindC kindOf (P.zip vs) m x=some v
 | [],_,_,_,_,h,_,_=>by simp at h
 | _::_,[],_,_,_,_,h,_=>by simp at h
 | p::P,w::vs,0,m,nd,h1,h2,hk=>by
  simp at h1 h2;subst h1;subst h2
  show bindC kindOf ((p,w)::P.zip vs) m p=_
  unfold bindC
  rw [zh3 fun v hv=>(xA.mp nd).1 (ybj hv).1,if_neg hk]
  simp
 | p::P,w::vs,i+1,m,nd,h1,h2,hk=>by
  show bindC kindOf ((p,w)::P.zip vs) m x=_
  unfold bindC
  exact zh0 (i:=i) (xA.mp nd).2 (by simpa using h1) (by simpa using h2) hk
noncomputable def start (N:List Str) (vs:List V):St:=vs.map some++kK (N.length - vs.length) none
noncomputable def cxOf (CX:CXT) (P:Program) (w:World) (K:PySem.W.Frag) (mg:Str→Option Value) (base:Heap) (N:List Str) (qual:Str) (scope:Scope) (f:Addr) (cd:Value) (A:Around) (outer:List Env) (s:Shared) (H:Hp) (E:XK):Cx where
 prog:=P
 w:=w
 K:=K
 mg:=mg
 base:=base
 A:=A.deeper (envOfC qual scope s.heap.objs.size f cd)
 N:=N
 s₀ :=s
 H₀ :=H
 env:=envOfC qual scope s.heap.objs.size f cd
 outer:=outer
 stack:=envOfC qual scope s.heap.objs.size f cd::outer
 ex:=[]
 calm:=true
 fn:=fun _=>true
 pn:=[]
 xe:=fun e s'=>wpAny (model P w) (A.deeper (envOfC qual scope s.heap.objs.size f cd)) (leaving (envOfC qual scope s.heap.objs.size f cd) e) (fun _ s''=>CX outer H s E e s'') (fun e' s''=>CX outer H s E e' s'') s'
theorem zjx {sc:Scope}{n:Nat}{x:Str}(h:sc.names.lookup x=some .cell):∃ c,(cellsFrom n sc.names []).lookup x=some c:=by
 have q:=PySem.W.cellsFrom_some sc.names n [] (.inl h)
 exact Option.isSome_iff_exists.mp q
theorem zkr {CX:CXT}{P:Program}{w:World}{K:PySem.W.Frag}{mg:Str→Option Value}{base:Heap}{N ps:List Str}{qual:Str}{scope:Scope}{f:Addr}{cd:Value}{A:Around}{outer:List Env}{s s1:Shared}{H:Hp}{E:XK}{us:List Value}{vs:List V}
  (S:zaw N ps scope) (hd:A.handled=none) (e0:Env0 P w K mg base A outer s H) (hl:vs.length=ps.length) (r:Vals vs us)
  (x:InCallC s s.heap.objs.size (bindL (envOfC qual scope s.heap.objs.size f cd).kindOf (ps.zip us) fun _=>none) (cellsFrom (s.heap.objs.size+1) scope.names []) (bindC (envOfC qual scope s.heap.objs.size f cd).kindOf (ps.zip us) fun _=>none) s1):
  Inv (cxOf CX P w K mg base N qual scope f cd A outer s H E) [] (start N vs) H s1:=by
 have hpl:ps.length≤N.length:=by have:=congrArg wI S.pre;rw [yU] at this;omega
 obtain ⟨h1,tk,rfl,hk⟩:=x.done
 have noA:∀ b:Addr,b∉(cxOf CX P w K mg base N qual scope f cd A outer s H E).ex:=fun b z=>absurd (show b∈([]:List Addr) from z) (by simp)
 refine ⟨⟨e0.mod,S.kind,rfl,rfl,yL _,fun y z c h1 h2=>?_,fun y hy=>?_,fun y c _ h=>?_,fun _=>hd,ybz e0.frames,.inr ⟨rfl,rfl⟩,fun b z=>absurd z (noA b),e0.bs,e0.bsz,fun b _ _=>noA b,fun b z=>absurd z (noA b),e0.funs,e0.frf⟩,
  rfl,e0.bare,Un.kept hk,⟨_,x.toInCall.ns,fun i y v h1 h2 h3=>?_⟩,fun y c h=>⟨_,x.cell y c h⟩,e0.hok.fresh (yL _),fun y c h=>?_,fun p hp=>absurd (show p∈([]:List (Addr×Obj)) from hp) (by simp),e0.hok.kept hk,?_⟩
 ·exact name_of_addr x.apart (xB h1) (xB h2)
 ·have hy:scope.names.lookup y=some .cell∨scope.names.lookup y=some .free:=hy
  rcases hy with hy | hy
  ·exact zjx hy
  ·exact absurd rfl (S.nofree _ (xB hy))
 ·exact wP (x.above y c (xB h))
 ·have hi:i < vs.length:=by
   unfold start at h2
   by_cases hi:i < vs.length
   ·exact hi
   ·rw [jJ (by simpa using hi)] at h2
    rw [yaZ] at h2
    split at h2 <;> cases h2
  have ha:vs[i]? =some v:=by
   unfold start at h2
   rw [jG (by simpa using hi),yJ] at h2
   cases e:vs[i]? with
   | none=>rw [e] at h2;cases h2
   | some a=>rw [e] at h2;cases h2;rfl
  obtain ⟨u,hu,rv⟩:=r.get ha
  have hp:ps[i]? =some y:=by
   rw [← S.pre,yaU (by omega)];exact h1
  have ndP:ps.Nodup:=by rw [← S.pre];exact S.nd.sublist (List.take_sublist _ _)
  refine ⟨u,rv,?_⟩
  rcases S.par y (yH hp) with k | k
  ·exact .inl ⟨k,zhL ndP hp hu k⟩
  ·obtain ⟨c,e⟩:=zjx (n:=s.heap.objs.size+1) k
   refine .inr ⟨.inl k,c,e,?_⟩
   have q:=x.cell y c e
   rw [zh0 ndP hp hu (by show scope.names.lookup y≠_;rw [k];decide)] at q
   exact q
 ·exact e0.hok.fresh (wP (x.above y c (xB h)))
 ·unfold start
  show _=N.length
  rw [yI,yB,ybk]
  omega
theorem znG {CX:CXT}{P:Program}{w:World}{K:PySem.W.Frag}{mg:Str→Option Value}{base:Heap}{k:Nat}{f:Addr}{name qual:Str}{params:Arguments}{body:List Stmt}{scope:Scope}{dV kV doc pm cdv ct oc:Value}{an od:Option Addr}
  {osl:Array (Option Value)} {N ps:List Str} {sp:Sp} (lk:K.lookup f=some ⟨oc,od,.func (PySem.W.fnOf name qual params body scope dV kV doc pm an cdv ct),osl⟩) (hcd:PySem.W.codeIn K cdv qual=true) (S:zaw N ps scope)
  (len:∀ vs H Q E,sp vs H Q E→vs.length=ps.length)
  (hbody:∀ (A:Around) (outer:List Env) (s:Shared) (H:Hp) (vs:List V) (Q:VK) (E:XK),Room k (A.deeper (envOfC qual scope s.heap.objs.size f cdv))→sp vs H Q E→
   ∃ t,PSs (cxOf CX P w K mg base N qual scope f cdv A outer s H E) body t∧t {nx:=fun _ H'=>Q .non H',rt:=Q} (start N vs) H):
  FnOk P w K mg base CX (k+1) f (PySem.W.fnOf name qual params body scope dV kV doc pm an cdv ct) ps sp:=by
 refine ⟨len,fun A outer s H args us vs Q E hr e0 hb r hsp=>?_⟩
 have hl:=len _ _ _ _ hsp
 have KX:K.In s.heap:=e0.mod.kin.keeps fun b o e=>(e0.bs b o e).1
 have lim:s.heap.NoLimit:=e0.mod.nolimit.keeps fun b o e=>(e0.bs b o e).1
 have hkind:∀ y∈ps.zip us,scope.names.lookup y.1=some .local∨(scope.names.lookup y.1=some .cell∧((cellsFrom (s.heap.objs.size+1) scope.names []).lookup y.1).isSome=true):=fun ⟨n,v⟩ hy=>by
  rcases S.par n (ybj hy).1 with q | q
  ·exact .inl q
  ·exact .inr ⟨q,PySem.W.cellsFrom_some _ _ _ (.inl q)⟩
 refine codeAny_call_function hr.depth (KX _ _ lk) rfl S.co S.gen rfl (PySem.W.codeRec_of KX hcd) (hb _ _ _ _ ?_)
 refine wpAny_newFunctionEnv_cells S.kind hkind fun env he s1 x=>?_
 subst he
 refine ⟨lim.keeps x.toInCall.keep,codeAny_func ?_⟩
 obtain ⟨t,ht,hq⟩:=hbody A outer s H vs Q E (hr.deeper _) hsp
 have I:Inv (cxOf CX P w K mg base N qual scope f cdv A outer s H E) [] (start N vs) H s1:=zkr S hr.hd e0 hl r x
 refine wpAny_mono (ht [] s1 (start N vs) H _ I hq) (fun fl s' hs=>?_) fun e s' hs=>hs
 have fin:∀ {σ':St} {H':Hp} {v:V} {u:Value},Inv (cxOf CX P w K mg base N qual scope f cdv A outer s H E) [] σ' H' s'→RelV v u→Q v H'→CE outer P w H s Q u s':=
  fun {σ' H' v u} J rv q=>⟨v,H',J.os,J.bare,J.base,J.hok,rv,q⟩
 cases fl with
 | ret u=>
  obtain ⟨v,σ',H',J,rv,q⟩:=hs
  exact fin J rv q
 | next=>
  obtain ⟨σ',H',J,q⟩:=hs
  exact fin (v:=V.non) (u:=Value.none) J rfl q
 | brk=>
  obtain ⟨_,_,_,q⟩:=hs
  exact vT q
 | cont=>
  obtain ⟨_,_,_,q⟩:=hs
  exact vT q
section
variable {X:Cx} {x:Str} {p pos:Pos} {e:Expr} {es:List Expr} {t:TA} {id T:String} {r:List V→Hp→VK→Prop}
noncomputable def tCB (r:List V→Hp→VK→Prop) (t:TA):TE:=fun σ H Q=>t σ H fun vs H1=>r vs H1 Q
theorem zmv (hc:zc3 X (.builtin id) r)(hg:Gl X x)(hm:X.mg x=none)(hv:bootBuiltins x=some (.builtin id))(ha:PA X (e::es) t)(hn:x≠"__name__" :=by decide)(hdb:(x==("__debug__" :Str))=false:=by decide)
  (he:starEach (e::es) X.env=(false,eval e X.env)::starEach es X.env:=by rfl) (hpl:(backTo pos (starEach es X.env)).any (·.1)=false:=by rfl):PE X (.Call (.Name x p) (e::es) [] pos) (tCB r t):=by
 intro pins s σ H Q I h
 refine wpAny_Call_Name_kw (zec I hg hm hv ?_ hn hdb)
 exact yal (thn (ha pos pins s σ H _ I h) fun us s1 ⟨vs,H1,I1,r1,q1⟩=>hc pins s1 σ H1 vs us Q I1 r1 q1) he hpl
theorem zlG (hc:zc3 X (.type T) r)(hg:Gl X x)(hm:X.mg x=none)(hv:bootBuiltins x=some (.type T))(ha:PA X (e::es) t)(hn:x≠"__name__" :=by decide)(hdb:(x==("__debug__" :Str))=false:=by decide)
  (he:starEach (e::es) X.env=(false,eval e X.env)::starEach es X.env:=by rfl) (hpl:(backTo pos (starEach es X.env)).any (·.1)=false:=by rfl):PE X (.Call (.Name x p) (e::es) [] pos) (tCB r t):=by
 intro pins s σ H Q I h
 refine wpAny_Call_Name_kw (zec I hg hm hv ?_ hn hdb)
 exact jZ (thn (ha pos pins s σ H _ I h) fun us s1 ⟨vs,H1,I1,r1,q1⟩=>hc pins s1 σ H1 vs us Q I1 r1 q1) he hpl
end
end L2
namespace HT
open PySem PyProof.Rows
section
open PySem.SeqAt
open PySem.AutoSeq1 (wpAny_loadPart')
open PySem.MeetsSeq PySem.MeetsSeq2 PySem.MeetsSeq3
end
section
variable {prog:Program} {w:World} {A:Around} {E:Value→Shared→Prop} {s:Shared}
theorem cat_tup {t b:Addr}{vs ws:List Value}{Q:Value→Shared→Prop}(ht:IsTup s.heap t vs.toArray)(hb:IsTup s.heap b ws.toArray)(hv:vs≠[])
  (h1:ws= []→Q (.ref t) s) (h2:ws≠[]→Q (.ref s.heap.objs.size) {s with heap:=s.heap.push {cls:=.type "tuple",data:=.seq (vs++ws).toArray}})
  (hsz:vs.length+ws.length≤yK):wpAny (model prog w) A (binaryOp .Add (.ref t) (.ref b)) Q E s:=by
 obtain ⟨⟨cls,dd,data,sl⟩,ho,hc,n,hd⟩:=id ht
 obtain ⟨⟨cls2,dd2,data2,sl2⟩,ho2,hc2,n2,hd2⟩:=id hb
 simp only at hc hd hc2 hd2
 subst hc hd hc2 hd2
 have e:vs.toArray++ws.toArray=(vs++ws).toArray:=by simp
 by_cases hw:ws= []
 ·exact concat_meets ⟨_,ho,rfl⟩ ⟨_,ho2,rfl⟩ noFill_tuple_add seq_tuple_add ybb ya0 (yaV _ _)
   (tuple_addW1 t b vs.toArray ws.toArray n n2 dd dd2 sl sl2 (by simpa using hv) (by simp [hw])) ⟨ho,ho2,h1 hw⟩
 ·refine concat_meets ⟨_,ho,rfl⟩ ⟨_,ho2,rfl⟩ noFill_tuple_add seq_tuple_add ybb ya0 (yaV _ _)
   (tuple_addW2 t b vs.toArray ws.toArray n n2 dd dd2 sl sl2 (by simpa using hv) (by simpa using hw) (by rw [yP,yP];exact hsz)) ⟨ho,ho2,?_⟩
  rw [e]
  exact h2 hw
noncomputable def sIx (n d:Nat):Option Int→Nat
 | none=>d
 | some v=>if v < 0 then (v+(n:Int)).toNat else min v.toNat n
theorem sIx_le (n d:Nat)(hd:d≤n)(o:Option Int):sIx n d o≤n:=by
 cases o with
 | none=>exact hd
 | some v=>
  show (if v < 0 then (v+(n:Int)).toNat else min v.toNat n)≤n
  by_cases hv:v < 0
  ·rw [if_pos hv];omega
  ·rw [if_neg hv];exact Nat.min_le_right _ _
theorem zlm (v:Int)(n d:Nat):(if v < 0 then max (v+(n:Int)) 0 else min v (n:Int))=((sIx n d (some v):Nat):Int):=by
 show (if v < 0 then max (v+(n:Int)) 0 else min v (n:Int))=(((if v < 0 then (v+(n:Int)).toNat else min v.toNat n):Nat):Int)
 by_cases hv:v < 0
 ·simp only [if_pos hv];omega
 ·simp only [if_neg hv];omega
theorem zkc (lo hi:Option Int)(n:Nat):wC lo hi 1 (n:Int)=(((sIx n 0 lo:Nat):Int),((sIx n n hi:Nat):Int)):=by
 have h1:¬((1:Int) < 0):=by omega
 unfold wC
 simp only [h1,if_false]
 refine Prod.ext ?_ ?_
 ·cases lo with
  | none=>rfl
  | some v=>exact zlm v n 0
 ·cases hi with
  | none=>rfl
  | some v=>exact zlm v n n
theorem zj2 (i j:Nat):vO (i:Int) (j:Int) 1=j - i:=by
 unfold vO
 have h1:(1:Int) > 0:=by omega
 simp only [h1,if_true,Int.ediv_one]
 split <;> omega
theorem zgI {v:Value}{o:Option Int}{Q:Option Int→Shared→Prop}(p:IsPart v o)(h:Q o s):wpAny (model prog w) A (Builtin.Slice.slicePartIndex v) Q E s:=by
 cases p with
 | none=>exact slicePart_none h
 | int i t=>exact slicePart_int h
theorem zfl {sl:Addr}{vl vu:Value}{lo hi:Option Int}{n:Nat}{Q:Int×Int×Nat→Shared→Prop}(hs:s.heap.IsSliceOf sl vl vu .none)(pl:IsPart vl lo)(pu:IsPart vu hi)
  (h:Q (((sIx n 0 lo:Nat):Int),1,sIx n n hi - sIx n 0 lo) s):wpAny (model prog w) A (yaI (.ref sl) (pure (n:Int))) Q E s:=by
 obtain ⟨os,hos,hcs,hds⟩:=id hs
 unfold yaI Builtin.Slice.sliceFields
 refine yA (yA (wpAny_field hos hds (x:=vl) rfl (yA (wpAny_field hos hds (x:=vu) rfl (yA (wpAny_field hos hds (x:=.none) rfl (yC ?_)))))))
 refine yA (slicePart_none ?_)
 show wpAny _ _ (if ((1:Int)==0)=true then _ else _) _ _ s
 rw [if_neg (by decide)]
 refine yA (zgI pl (yA (zgI pu (yA (yC ?_)))))
 show wpAny _ _ (match wC lo hi 1 (n:Int) with | (lo,hi)=>pure (lo,(1:Int),vO lo hi 1)) _ _ s
 rw [zkc lo hi n]
 show wpAny _ _ (pure (((sIx n 0 lo:Nat):Int),(1:Int),vO ((sIx n 0 lo:Nat):Int) ((sIx n n hi:Nat):Int) 1)) _ _ s
 rw [zj2]
 exact yC h
theorem zmx (xs:Array Value)(i k:Nat):((qI k).filterMap fun (m:Nat)=>xs[((i:Int)+(m:Int) * 1).toNat]?).toArray=((xs.toList.drop i).take k).toArray:=by
 have e:(fun (m:Nat)=>xs[((i:Int)+(m:Int) * 1).toNat]?)=fun m=>xs[i+m]? :=by
  funext m
  have:((i:Int)+(m:Int) * 1).toNat=i+m:=by omega
  rw [this]
 rw [e]
 have:=pick_run xs i k
 rw [List.filterMap_map] at this
 have e2:((fun x=>xs[x]?) ∘ fun x=>i+x)=fun m=>xs[i+m]? :=rfl
 rw [e2] at this
 rw [this]
theorem getItem_tuple_cut {t sl:Addr}{items:Array Value}{vl vu:Value}{lo hi:Option Int}{Q:Value→Shared→Prop}(ht:IsTup s.heap t items)(hs:s.heap.IsSliceOf sl vl vu .none)(pl:IsPart vl lo)(pu:IsPart vu hi)
  (hw:¬(sIx items.size 0 lo=0∧sIx items.size items.size hi=items.size))
  (h:Q (.ref s.heap.objs.size) {s with heap:=s.heap.push {cls:=.type "tuple",data:=.seq ((items.toList.drop (sIx items.size 0 lo)).take (sIx items.size items.size hi - sIx items.size 0 lo)).toArray}})
  (hsz:items.size≤yK):wpAny (model prog w) A (getItem (.ref t) (.ref sl)) Q E s:=by
 have htake:sizeOk (.seq ((items.toList.drop (sIx items.size 0 lo)).take (sIx items.size items.size hi - sIx items.size 0 lo)).toArray):=by
  show ((items.toList.drop (sIx items.size 0 lo)).take (sIx items.size items.size hi - sIx items.size 0 lo)).toArray.size≤yK
  rw [yP,yU,yb5,kA]
  omega
 have hj:sIx items.size items.size hi≤items.size:=sIx_le _ _ (yL _) hi
 obtain ⟨os,hos,hcs,hds⟩:=id hs
 have hTs:s.TypeIs (.ref sl) "slice" :=⟨os,hos,hcs⟩
 unfold getItem
 try with_reducible refine wpAny_holding ?_
 first | refine yA (yC ?_) | skip
 refine yA (wpAny_sequenceKey ht.typeIs (by decide) ?_)
 refine yA (wpAny_callSpecial?_slot (name:=xQ "__getitem__") ht.typeIs vV
  (wpAny_call_entry vV ht.typeIs entry_tuple_getitem ?_ (args_tuple_getitem _ _)))
 show wpAny _ _ (Builtin.Tuple.tupleItemsOf (.ref t) >>=_) _ _ s
 refine yA (tupleItemsOf_ ht ?_)
 refine yA (wpAny_typeOf hTs ?_)
 rw [if_pos (by decide)]
 refine yA (zfl hs pl pu ?_)
 have hno:¬((((sIx items.size 0 lo:Nat):Int)==0 && (1:Int)==1 && (sIx items.size items.size hi - sIx items.size 0 lo)==items.size)=true):=by
  intro q
  rw [yW,yW] at q
  have q1:((sIx items.size 0 lo:Nat):Int)=0:=eq_of_beq q.1.1
  have q2:sIx items.size items.size hi - sIx items.size 0 lo=items.size:=eq_of_beq q.2
  exact hw ⟨by omega,by omega⟩
 show wpAny _ _ (if (((sIx items.size 0 lo:Nat):Int)==0 && (1:Int)==1 && (sIx items.size items.size hi - sIx items.size 0 lo)==items.size)=true then _ else _) _ _ s
 rw [if_neg hno,zmx]
 first
  | exact yA (m:=vW _) (wpAny_newObj_type (yC ⟨_,rfl,yC h⟩) htake)
  | exact yA (m:=vW _) (wpAny_newObj_type (yA (yC (yC ⟨_,rfl,yC h⟩))) htake)
  | exact yA (yA (m:=vW _) (wpAny_newObj_type (yC (yC ⟨_,rfl,yC h⟩)) htake))
  | exact yA (yA (m:=vW _) (wpAny_newObj_type (yC ⟨_,rfl,yC h⟩) htake))
end
end HT
namespace L2
open PySem PySem.Spec PyProof.Rows
noncomputable abbrev TO:=St→Hp→(Option Int→Hp→Prop)→Prop
noncomputable def PO (X:Cx) (e:Option Expr) (t:TO):Prop:=
 ∀ (pins:List (Addr×Obj)) (s:Shared) (σ :St) (H:Hp) (Q:Option Int→Hp→Prop),Inv X pins σ H s→t σ H Q→
  wpAny (model X.prog X.w) X.A (evalPart e X.env) (fun u s'=>∃ o H',Inv X pins σ H' s'∧IsPart u o∧Q o H') X.xe s
noncomputable def zlN:TO:=fun _ H Q=>Q none H
noncomputable def tPart (t:TE):TO:=fun σ H Q=>t σ H fun x H1=>∃ i,x= .int i∧Q (some i) H1
theorem zjG {ns:List Int}:∀ {us:List Value},Vals (ns.map V.int) us→IntsAre us ns:=by
 induction ns with
 | nil=>intro us r;rw [yaL] at r;cases r;exact .nil
 | cons n ns ih=>
  intro us r
  rw [qJ] at r
  cases r with
  | cons r1 r2=>
   obtain ⟨t,e⟩:=r1
   subst e
   exact .cons n t (ih r2)
section
variable {X:Cx} {e:Expr} {te:TE} {lo hi:Option Expr} {tl th:TO} {pos p2:Pos}
theorem zor:PO X none zlN:=by
 intro pins s σ H Q I h
 rw [evalPart_none]
 exact yC ⟨none,H,I,.none,h⟩
theorem zog (h:PE X e te):PO X (some e) (tPart te):=by
 intro pins s σ H Q I hw
 rw [evalPart_some]
 refine thn (h pins s σ H _ I hw) fun u s1 ⟨x,H1,I1,r1,q1⟩=>?_
 obtain ⟨i,rfl,q⟩:=q1
 obtain ⟨t,rfl⟩:=r1
 exact ⟨some i,H1,I1,.int i t,q⟩
noncomputable def SlR (X:Cx) (r:V→Option Int→Option Int→Hp→VK→Prop):Prop:=
 ∀ (pins:List (Addr×Obj)) (s:Shared) (σ :St) (H:Hp) (x:V) (v vl vu:Value) (lo hi:Option Int) (sl:Addr) (Q:VK),Inv X pins σ H s→RelV x v→s.heap.IsSliceOf sl vl vu .none→IsPart vl lo→IsPart vu hi→r x lo hi H Q→
  ∃ T id,typeLookup (.type T) "__getitem__" =pure (some (.builtin id))∧s.TypeIs v T∧wpAny (model X.prog X.w) X.A (getItem v (.ref sl)) (EP X pins σ Q) X.xe s
theorem SlR.or {r r':V→Option Int→Option Int→Hp→VK→Prop}(h:SlR X r)(h':SlR X r'):SlR X (fun x lo hi H Q=>r x lo hi H Q∨r' x lo hi H Q):=by
 intro pins s σ H x v vl vu lo hi sl Q I rx hs pl pu q
 rcases q with q | q
 ·exact h pins s σ H x v vl vu lo hi sl Q I rx hs pl pu q
 ·exact h' pins s σ H x v vl vu lo hi sl Q I rx hs pl pu q
noncomputable def tSl (r:V→Option Int→Option Int→Hp→VK→Prop) (te:TE) (tl th:TO):TE:=fun σ H Q=>te σ H fun x H1=>tl σ H1 fun l H2=>th σ H2 fun u H3=>r x l u H3 Q
theorem znm {r:V→Option Int→Option Int→Hp→VK→Prop}(hr:SlR X r)(he:PE X e te)(hl:PO X lo tl)(hu:PO X hi th):PE X (.Subscript e (.Slice lo hi none p2) pos) (tSl r te tl th):=by
 intro pins s σ H Q I h
 refine Subscript_ (thn (he pins s σ H _ I h) fun v s1 ⟨x,H1,I1,r1,q1⟩=>?_)
 refine wpAny_Slice (thn (hl pins s1 σ H1 _ I1 q1) fun vl s2 ⟨l,H2,I2,pl,q2⟩=>thn (hu pins s2 σ H2 _ I2 q2) fun vu s3 ⟨u,H3,I3,pu,q3⟩=>?_)
 rw [evalPart_none]
 refine yC ?_
 have I4:Inv X pins σ H3 {s3 with heap:=s3.heap.push {cls:=.type "slice",data:=.fields #[vl,vu,.none]}}:=I3.kept (t':=s3.toks) fun b ob q=>yD _ q
 obtain ⟨T,id,hT,ht,hg⟩:=hr pins {s3 with heap:=s3.heap.push {cls:=.type "slice",data:=.fields #[vl,vu,.none]}} σ H3 x v vl vu l u s3.heap.objs.size Q I4 r1 (Heap.IsSliceOf.new ..) pl pu q3
 show wpAny (model X.prog X.w) X.A (subscriptTail e (.Slice lo hi none p2) v (.ref s3.heap.objs.size)) (EP X pins σ Q) X.xe {s3 with heap:=s3.heap.push {cls:=.type "slice",data:=.fields #[vl,vu,.none]}}
 exact tail_any (ops:=[.ref s3.heap.objs.size,v]) ht hT hg (by with_unfolding_all rfl)
noncomputable def cutV (xs:List V) (lo hi:Option Int):List V:=(xs.drop (HT.sIx xs.length 0 lo)).take (HT.sIx xs.length xs.length hi - HT.sIx xs.length 0 lo)
theorem zfJ (xs:List V)(lo hi:Option Int):(cutV xs lo hi).length≤xs.length:=by
 unfold cutV
 rw [yU,yb5]
 omega
noncomputable def rSlT (K:PySem.W.Frag):V→Option Int→Option Int→Hp→VK→Prop:=fun x lo hi H Q=>∃ a xs,x= .ref a∧SqT K H a xs∧
 ¬(HT.sIx xs.length 0 lo=0∧HT.sIx xs.length xs.length hi=xs.length)∧∀ p,H p=none→Q (.ref p) (upd H p (.tup (cutV xs lo hi)))
theorem sl_tup:SlR X (rSlT X.K):=by
 intro pins s σ H x v vl vu lo hi sl Q I rx hs pl pu h
 obtain ⟨a,xs,rfl,hx,hw,q⟩:=h
 cases rx
 obtain ⟨its,r,ht,hz⟩:=I.tuple hx
 have hlen:its.toArray.size=xs.length:=by rw [yP];exact r.length.symm
 refine ⟨"tuple",_,vV.lookup,ht.typeIs,?_⟩
 refine HT.getItem_tuple_cut ht hs pl pu (by rw [hlen];exact hw) ?_ (by rw [hlen];exact hz)
 rw [hlen]
 refine ⟨.ref s.heap.objs.size,_,I.laid (t':=s.toks) (o:=.tup (cutV xs lo hi)) (fun b ob q=>yD _ q) (yL _) ?_,rfl,q _ (I.hok.fresh (yL _))⟩
 exact ⟨jY (zfJ xs lo hi) hz,_,(r.drop (HT.sIx xs.length 0 lo)).take (HT.sIx xs.length xs.length hi - HT.sIx xs.length 0 lo),yck _ _⟩
noncomputable def rCatT (K:PySem.W.Frag):R2:=fun x y H Q=>∃ a b xs ys,x= .ref a∧y= .ref b∧SqT K H a xs∧SqT K H b ys∧xs≠[]∧xs.length+ys.length≤yK∧
 (ys= []→Q (.ref a) H)∧(ys≠[]→∀ p,H p=none→Q (.ref p) (upd H p (.tup (xs++ys))))
theorem Vals.nil_iff {xs:List V}{us:List Value}(r:Vals xs us):us= []↔xs= []:=by
 cases r with
 | nil=>simp
 | cons _ _=>simp
theorem zk4:OpR X (binaryOp .Add) (rCatT X.K):=by
 intro pins s σ H x y v u Q I rx ry h
 obtain ⟨a,b,xs,ys,rfl,rfl,ha,hb,hx,hz,q1,q2⟩:=h
 cases rx
 cases ry
 obtain ⟨its,r1,p1,_⟩:=I.tuple ha
 obtain ⟨its2,r2,p2,_⟩:=I.tuple hb
 refine HT.cat_tup p1 p2 (fun z=>hx (r1.nil_iff.mp z)) (fun z=>⟨.ref a,H,I,rfl,q1 (r2.nil_iff.mp z)⟩) (fun z=>?_) (by rw [← r1.length,← r2.length];exact hz)
 refine ⟨.ref s.heap.objs.size,_,I.laid (t':=s.toks) (o:=.tup (xs++ys)) (fun b ob q=>yD _ q) (yL _) ?_,rfl,q2 (fun w=>z (r2.nil_iff.mpr w)) _ (I.hok.fresh (yL _))⟩
 exact ⟨by rw [yI];exact hz,_,r1.append r2,yck _ _⟩
end
noncomputable def ixN (n:Nat) (i:Int):Option Nat:=if 0≤i then (if i < n then some i.toNat else none) else if -(n:Int)≤i then some (i+n).toNat else none
noncomputable def atI {α :Type} (xs:List α) (i:Int):Option α :=(ixN xs.length i).bind fun j=>xs[j]?
theorem zkG {n:Nat}{i:Int}{j:Nat}(h:ixN n i=some j):seqIndex? i n=some j∧j < n∧-(n:Int)≤i∧i < n:=by
 unfold ixN at h
 by_cases h0: 0≤i
 ·rw [if_pos h0] at h
  by_cases h1:i < n
  ·rw [if_pos h1] at h
   have e:i.toNat=j:=qF h
   exact ⟨by rw [seqIndex_of h0 h1,e],by omega,by omega,h1⟩
  ·rw [if_neg h1] at h;cases h
 ·rw [if_neg h0] at h
  by_cases h1: -(n:Int)≤i
  ·rw [if_pos h1] at h
   have e:(i+n).toNat=j:=qF h
   exact ⟨by rw [seqIndex_neg (by omega) h1,e],by omega,h1,by omega⟩
  ·rw [if_neg h1] at h;cases h
theorem zlD {α :Type}{xs:List α}{i:Int}{v: α}(h:atI xs i=some v):∃ j,seqIndex? i xs.length=some j∧xs[j]? =some v∧j < xs.length∧-(xs.length:Int)≤i∧i < xs.length:=by
 unfold atI at h
 cases e:ixN xs.length i with
 | none=>rw [e] at h;cases h
 | some j=>
  rw [e] at h
  obtain ⟨h1,h2,h3,h4⟩:=zkG e
  exact ⟨j,h1,h,h2,h3,h4⟩
theorem zdH {α :Type}{xs:List α}{j:Nat}{v: α}(h:xs[j]? =some v):atI xs (j:Int)=some v:=by
 have hj:j < xs.length:=(yE.mp h).1
 have e:ixN xs.length (j:Int)=some j:=by
  unfold ixN
  rw [if_pos (by omega),if_pos (by omega)];simp
 unfold atI;rw [e];exact h
theorem zmJ {α :Type}(xs:List α)(v: α):atI (xs++ [v]) (-1)=some v:=by
 have hl:(xs++ [v]).length=xs.length+1:=by simp
 have e:ixN (xs++ [v]).length (-1)=some xs.length:=by
  unfold ixN
  rw [hl,if_neg (by decide),if_pos (by omega)]
  congr 1
  omega
 unfold atI
 rw [e]
 show (xs++ [v])[xs.length]? =some v
 simp
noncomputable def zlS (b:Expr):Prop:=∀ o i,subscripted b false o i=operate [o,i] (getItem o i)
noncomputable def IxR (X:Cx) (r:R2):Prop:=
 ∀ (value slice:Expr) (pins:List (Addr×Obj)) (s:Shared) (σ :St) (H:Hp) (x y:V) (v u:Value) (Q:VK),Inv X pins σ H s→RelV x v→RelV y u→r x y H Q→
  subscripted slice false v u=operate [v,u] (getItem v u)→wpAny (model X.prog X.w) X.A (subscriptTail value slice v u) (EP X pins σ Q) X.xe s
noncomputable def MtR (X:Cx) (id:String) (r:V→List V→Hp→VK→Prop):Prop:=
 ∀ (pins:List (Addr×Obj)) (s:Shared) (σ :St) (H:Hp) (x:V) (xs:List V) (v:Value) (us:List Value) (Q:VK),Inv X pins σ H s→RelV x v→Vals xs us→r x xs H Q→
  wpAny (model X.prog X.w) X.A (call (.builtin id) (v::us)) (EP X pins σ Q) X.xe s
section
variable {X:Cx} {a b:Expr} {ta tb:TE} {pos:Pos}
theorem IxR.or {r r':R2}(h:IxR X r)(h':IxR X r'):IxR X (fun x y H Q=>r x y H Q∨r' x y H Q):=by
 intro value slice pins s σ H x y v u Q I rx ry q hs
 rcases q with q | q
 ·exact h value slice pins s σ H x y v u Q I rx ry q hs
 ·exact h' value slice pins s σ H x y v u Q I rx ry q hs
theorem MtR.or {id:String}{r r':V→List V→Hp→VK→Prop}(h:MtR X id r)(h':MtR X id r'):MtR X id (fun x xs H Q=>r x xs H Q∨r' x xs H Q):=by
 intro pins s σ H x xs v us Q I rx rs q
 rcases q with q | q
 ·exact h pins s σ H x xs v us Q I rx rs q
 ·exact h' pins s σ H x xs v us Q I rx rs q
theorem pe_ix {r:R2}(hr:IxR X r)(ha:PE X a ta)(hb:PE X b tb)(hs:zlS b):PE X (.Subscript a b pos) (tOp r ta tb):=by
 intro pins s σ H Q I h
 exact Subscript_ (binT ha hb I h fun v u s2 x y H2 I2 rx ry q=>hr a b pins s2 σ H2 x y v u Q I2 rx ry q (hs _ _))
noncomputable def rIxL (K:PySem.W.Frag):R2:=fun x y H Q=>∃ p xs i v,x= .ref p∧y= .int i∧SqL K H p xs∧atI xs i=some v∧Q v H
noncomputable def rIxT (K:PySem.W.Frag):R2:=fun x y H Q=>∃ p xs i v,x= .ref p∧y= .int i∧SqT K H p xs∧atI xs i=some v∧Q v H
theorem zaR:IxR X (rIxL X.K):=by
 intro value slice pins s σ H x y v u Q I rx ry h hs
 obtain ⟨p,xs,i,z,rfl,rfl,hq,he,q⟩:=h
 cases rx
 obtain ⟨t,rfl⟩:=ry
 obtain ⟨its,r,pl,hz⟩:=I.list hq
 obtain ⟨j,h1,h2,h3,h4,h5⟩:=zlD he
 obtain ⟨w,ew,rw'⟩:=r.get h2
 have hl:=r.length
 have hn:=zjq
 have fin:EP X pins σ Q w s:=⟨z,H,I,rw',q⟩
 by_cases h0: 0≤i
 ·have hj:i.toNat=j:=by
   rw [seqIndex_of h0 h5] at h1
   exact qF h1
  exact item_listR pl.isList h0 (by omega) (by rw [hj];simpa using ew) fin hs
 ·have hj:(i+(its.toArray.size:Int)).toNat=j:=by
   rw [seqIndex_neg (by omega) h4] at h1
   rw [yP,← hl]
   exact qF h1
  exact subscriptTail_builtinR (x:=w) pl.isList.typeIs slot_list_getitem.lookup
   (wpAny_getItem_list_neg (Q:=fun r s'=>r=w∧EP X pins σ Q r s') pl.isList (by omega) (by rw [yP] <;> omega) (by omega) (by rw [hj];simpa using ew) ⟨rfl,fin⟩) hs
theorem zay:IxR X (rIxT X.K):=by
 intro value slice pins s σ H x y v u Q I rx ry h hs
 obtain ⟨p,xs,i,z,rfl,rfl,hq,he,q⟩:=h
 cases rx
 obtain ⟨t,rfl⟩:=ry
 obtain ⟨its,r,pl,hz⟩:=I.tuple hq
 obtain ⟨j,h1,h2,h3,h4,h5⟩:=zlD he
 obtain ⟨w,ew,rw'⟩:=r.get h2
 have hl:=r.length
 have hn:=zjq
 have fin:EP X pins σ Q w s:=⟨z,H,I,rw',q⟩
 exact subscriptTail_builtinR (x:=w) pl.typeIs slot_tuple_getitem.lookup
  (getItem_tuple (j:=j) (Q:=fun r s'=>r=w∧EP X pins σ Q r s') pl (by omega) (by omega) (by rw [yP,← hl];exact h1) (by simpa using ew) ⟨rfl,fin⟩) hs
theorem zjL (its:List Value)(n j:Nat)(u:Value):vI (·.setIfInBounds j u) {cls:=.type "list",data:=.seq its.toArray n}= {cls:=.type "list",data:=.seq (its.set j u).toArray n}:=by
 simp [vI]
theorem Inv.lst {pins:List (Addr×Obj)}{σ :St}{H:Hp}{s:Shared}{p:Addr}{xs:List V}(I:Inv X pins σ H s)(h:H p=some (.lst xs)):
  ∃ (its:List Value) (n:Nat),Vals xs its∧s.heap.get? p=some {cls:=.type "list",data:=.seq its.toArray n}∧xs.length≤yK:=by
 obtain ⟨z,its,n,r,e⟩:=I.hok p _ h
 exact ⟨its,n,r,e,z⟩
theorem Inv.lstUpd {pins:List (Addr×Obj)}{σ :St}{H:Hp}{s:Shared}{p:Addr}{xs ys:List V}{its its':List Value}{n n':Nat}{f:Obj→Obj}(I:Inv X pins σ H s)(h:H p=some (.lst xs))
  (ho:s.heap.get? p=some {cls:=.type "list",data:=.seq its.toArray n}) (hf:f {cls:=.type "list",data:=.seq its.toArray n}= {cls:=.type "list",data:=.seq its'.toArray n'}) (r:Vals ys its') (hz:ys.length≤yK) (t:Nat):
  Inv X pins σ (upd H p (.lst ys)) {s with heap:=s.heap.update p f,toks:=t}:=by
 have e:(s.heap.update p f).get? p=some {cls:=.type "list",data:=.seq its'.toArray n'}:=by
  rw [xC f ho (by rw [hf] <;> rfl),hf]
 refine I.write (x:=p) (e:=p) (by rw [h];trivial) (.inl rfl) (fun b u hb q=>(qW _ _ (qR hb)).trans q) ⟨_,e⟩ ?_
 exact ⟨hz,its',n',r,e⟩
noncomputable def rSetL:V→V→V→Hp→(Hp→Prop)→Prop:=fun o i v H Q=>∃ p xs k j,o= .ref p∧i= .int k∧H p=some (.lst xs)∧ixN xs.length k=some j∧Q (upd H p (.lst (xs.set j v)))
theorem znn:PSet X rSetL:=by
 intro pins s σ H o i v ov iv u Q I ro ri rv h
 obtain ⟨p,xs,k,j,rfl,rfl,hp,hj,q⟩:=h
 cases ro
 obtain ⟨t,rfl⟩:=ri
 obtain ⟨its,n,r,ho,hz⟩:=I.lst hp
 obtain ⟨h1,h2,h3,h4⟩:=zkG hj
 have hl:=r.length
 have hn:=zjq
 have I':Inv X pins σ (upd H p (.lst (xs.set j v))) {s with heap:=s.heap.update p (vI (·.setIfInBounds j u))}:=
  I.lstUpd hp ho (zjL its n j u) (r.set rv j) (by rw [List.length_set];exact hz) s.toks
 by_cases h0: 0≤k
 ·have hk:k.toNat=j:=by
   rw [seqIndex_of h0 h4] at h1
   exact qF h1
  exact PySem.W.ki_setAt ho h0 (by omega) (by rw [yP,← hl];exact h4) (by rw [hk];exact ⟨_,I',q⟩)
 ·have hk:(k+(its.toArray.size:Int)).toNat=j:=by
   rw [seqIndex_neg (by omega) h3] at h1
   rw [yP,← hl]
   exact qF h1
  exact PySem.W.ki_setBack ho (by omega) (by rw [yP,← hl];exact h3) (by omega) (by rw [hk];exact ⟨_,I',q⟩)
theorem zhy (lo hi:Option Int)(n:Nat):(sliceBounds lo hi none n).1=((HT.sIx n 0 lo:Nat):Int)∧(sliceBounds lo hi none n).2.1=((HT.sIx n n hi:Nat):Int)∧(sliceBounds lo hi none n).2.2=1:=by
 refine ⟨?_,?_,rfl⟩
 ·cases lo with
  | none=>simp [sliceBounds,HT.sIx]
  | some i=>
   simp only [sliceBounds,HT.sIx,yb6,show (1:Int) > 0 by decide,if_true]
   by_cases h:i < 0
   ·simp only [h,if_true] <;> omega
   ·simp only [h,if_false] <;> omega
 ·cases hi with
  | none=>simp [sliceBounds,HT.sIx]
  | some i=>
   simp only [sliceBounds,HT.sIx,yb6,show (1:Int) > 0 by decide,if_true]
   by_cases h:i < 0
   ·simp only [h,if_true] <;> omega
   ·simp only [h,if_false] <;> omega
theorem zg7 (its:List Value)(lo hi:Option Int):slicePick its.toArray lo hi none=((its.drop (HT.sIx its.length 0 lo)).take (HT.sIx its.length its.length hi - HT.sIx its.length 0 lo)).toArray:=by
 obtain ⟨h1,h2,h3⟩:=zhy lo hi its.toArray.size
 unfold slicePick
 rw [h1,h2,h3]
 simp only [sliceRange_one,pick_run,yP] <;> rfl
noncomputable def rSlL (K:PySem.W.Frag):V→Option Int→Option Int→Hp→VK→Prop:=fun x lo hi H Q=>∃ a xs,x= .ref a∧SqL K H a xs∧∀ p,H p=none→Q (.ref p) (upd H p (.lst (cutV xs lo hi)))
theorem zlc:SlR X (rSlL X.K):=by
 intro pins s σ H x v vl vu lo hi sl Q I rx hs pl pu h
 obtain ⟨a,xs,rfl,hx,q⟩:=h
 cases rx
 obtain ⟨its,r,ht,hz⟩:=I.list hx
 have hlen:=r.length
 refine ⟨"list",_,slot_list_getitem.lookup,ht.isList.typeIs,?_⟩
 refine wpAny_getItem_list_slice ht.isList hs pl pu .none (by simp) ?_ (by rw [yP] <;> omega)
 rw [zg7,← hlen]
 refine ⟨.ref s.heap.objs.size,_,I.laid (t':=s.toks) (o:=.lst (cutV xs lo hi)) (fun b ob q=>yD _ q) (yL _) ?_,rfl,q _ (I.hok.fresh (yL _))⟩
 exact ⟨jY (zfJ xs lo hi) hz,_,0,(r.drop (HT.sIx xs.length 0 lo)).take (HT.sIx xs.length xs.length hi - HT.sIx xs.length 0 lo),yO _ rfl⟩
noncomputable def zgv:V→Bool
 | .non=>true
 | .bl _=>true
 | .int _=>true
 | .str _=>true
 | _=>false
noncomputable def eqV:V→V→Bool
 | .non,.non=>true
 | .bl a,.bl b=>a==b
 | .bl a,.int b=>(if a then 1 else 0)==b
 | .int a,.bl b=>a==(if b then 1 else 0)
 | .int a,.int b=>a==b
 | .str a,.str b=>a==b
 | _,_=>false
theorem eqAt_V {A:Around}{s:Shared}{y x:V}{u v:Value}(ry:RelV y u)(rx:RelV x v)(fy:zgv y=true)(fx:zgv x=true):jP A s u v (eqV y x):=by
 cases y with
 | non=>
  cases ry
  cases x with
  | non=>cases rx;exact jP.same _
  | bl b=>cases rx;exact jP.none_bool b
  | int b=>obtain ⟨t,rfl⟩:=rx;exact jP.none_int b t
  | str b=>obtain ⟨t,rfl⟩:=rx;exact jP.none_str b t
  | _=>exact absurd (show false=true from fx) yQ
 | bl a=>
  cases ry
  cases x with
  | non=>cases rx;exact jP.bool_none a
  | bl b=>cases rx;exact jP.bool_bool a b
  | int b=>obtain ⟨t,rfl⟩:=rx;exact jP.bool_int a b t
  | str b=>obtain ⟨t,rfl⟩:=rx;exact jP.bool_str a b t
  | _=>exact absurd (show false=true from fx) yQ
 | int a=>
  obtain ⟨t',rfl⟩:=ry
  cases x with
  | non=>cases rx;exact jP.int_none a t'
  | bl b=>cases rx;exact jP.int_bool a t' b
  | int b=>obtain ⟨t,rfl⟩:=rx;exact jP.int_int a t' b t
  | str b=>obtain ⟨t,rfl⟩:=rx;exact ybJ a t' b t
  | _=>exact absurd (show false=true from fx) yQ
 | str a=>
  obtain ⟨t',rfl⟩:=ry
  cases x with
  | non=>cases rx;exact jP.str_none a t'
  | bl b=>cases rx;exact jP.str_bool a t' b
  | int b=>obtain ⟨t,rfl⟩:=rx;exact ybK a t' b t
  | str b=>obtain ⟨t,rfl⟩:=rx;exact jP.str_str a t' b t
  | _=>exact absurd (show false=true from fx) yQ
 | _=>exact absurd (show false=true from fy) yQ
noncomputable def eqU (x:V) (u:Value):Bool:=match u with
 | .none=>eqV .non x
 | .bool b=>eqV (.bl b) x
 | .int i _=>eqV (.int i) x
 | .str z _=>eqV (.str z) x
 | _=>false
theorem znu {x y:V}{u:Value}(r:RelV y u)(f:zgv y=true):eqU x u=eqV y x:=by
 cases y with
 | non=>cases r;rfl
 | bl b=>cases r;rfl
 | int i=>obtain ⟨t,rfl⟩:=r;rfl
 | str z=>obtain ⟨t,rfl⟩:=r;rfl
 | _=>exact absurd (show false=true from f) yQ
theorem zfI {x:V}:∀ {xs:List V} {us:List Value},Vals xs us→xs.all zgv=true→us.any (eqU x)=xs.any fun y=>eqV y x
 | _,_,.nil,_=>rfl
 | y::xs,u::us,.cons r t,f=>by
  rw [ybN,yW] at f
  rw [yav,yav,znu r f.1,zfI t f.2]
theorem zeN {A:Around}{s:Shared}{x:V}{v:Value}(rx:RelV x v)(fx:zgv x=true):∀ {xs:List V} {us:List Value},Vals xs us→xs.all zgv=true→∀ u∈us,jP A s u v (eqU x u)
 | _,_,.nil,_=>fun u hu=>by cases hu
 | y::xs,u::us,.cons r t,f=>fun u' hu=>by
  rw [ybN,yW] at f
  rcases yY.mp hu with rfl | hu
  ·rw [znu r f.1];exact eqAt_V r rx f.1 fx
  ·exact zeN rx fx t f.2 u' hu
noncomputable def inV (x:V) (xs:List V):Bool:=xs.any fun y=>eqV y x
noncomputable def rIn (K:PySem.W.Frag) (neg:Bool):R2:=fun x y H Q=>∃ p xs,y= .ref p∧(SqL K H p xs∨SqT K H p xs)∧zgv x=true∧xs.all zgv=true∧Q (.bl (if neg then !inV x xs else inV x xs)) H
theorem zf0:OpR X (compareOp .In) (rIn X.K false):=by
 intro pins s σ H x y v u Q I rx ry h
 obtain ⟨p,xs,rfl,hq,fx,fs,q⟩:=h
 cases ry
 rcases hq with hq | hq
 ·obtain ⟨its,r,pl,hz⟩:=I.list hq
  refine ycb (eqU x) pl.isList (fun w hw=>zeN rx fx r fs w (by simpa using hw)) ⟨.bl _,H,I,rfl,?_⟩
  rw [show its.toArray.any (eqU x)=its.any (eqU x) by simp,zfI r fs]
  exact q
 ·obtain ⟨its,r,pl,hz⟩:=I.tuple hq
  refine SeqAt.in_tupleAt (eqU x) pl (fun w hw=>zeN rx fx r fs w (by simpa using hw)) ⟨.bl _,H,I,rfl,?_⟩
  rw [show its.toArray.any (eqU x)=its.any (eqU x) by simp,zfI r fs]
  exact q
theorem zhY:OpR X (compareOp .NotIn) (rIn X.K true):=by
 intro pins s σ H x y v u Q I rx ry h
 obtain ⟨p,xs,rfl,hq,fx,fs,q⟩:=h
 cases ry
 rcases hq with hq | hq
 ·obtain ⟨its,r,pl,hz⟩:=I.list hq
  refine ybO (eqU x) pl.isList (fun w hw=>zeN rx fx r fs w (by simpa using hw)) ⟨.bl _,H,I,rfl,?_⟩
  rw [show its.toArray.any (eqU x)=its.any (eqU x) by simp,zfI r fs]
  exact q
 ·obtain ⟨its,r,pl,hz⟩:=I.tuple hq
  refine SeqAt.notIn_tupleAt (eqU x) pl (fun w hw=>zeN rx fx r fs w (by simpa using hw)) ⟨.bl _,H,I,rfl,?_⟩
  rw [show its.toArray.any (eqU x)=its.any (eqU x) by simp,zfI r fs]
  exact q
theorem zaq:zc3 X (.builtin "len") (fun xs H Q=>∃ p ys,xs= [.ref p]∧(SqL X.K H p ys∨SqT X.K H p ys)∧Q (.int ys.length) H):=by
 intro pins s σ H xs us Q I r h
 obtain ⟨p,ys,rfl,hq,q⟩:=h
 obtain ⟨u,rfl,rx⟩:=zgs r
 cases rx
 have hn:=zjq
 rcases hq with hq | hq
 ·obtain ⟨its,r',pl,hz⟩:=I.list hq
  have hlen:=r'.length
  exact Calls.call_len_list pl.isList (by simp only [yP] <;> omega) ⟨.int ys.length,H,I.tok _,⟨s.toks+1,by rw [yP,hlen]⟩,q⟩
 ·obtain ⟨its,r',pl,hz⟩:=I.tuple hq
  have hlen:=r'.length
  exact len_tuple pl (by simp only [yP] <;> omega) ⟨.int ys.length,H,I.tok _,⟨s.toks+1,by rw [yP,hlen]⟩,q⟩
theorem zc3.or {f:Value}{r r':List V→Hp→VK→Prop}(h:zc3 X f r)(h':zc3 X f r'):zc3 X f (fun xs H Q=>r xs H Q∨r' xs H Q):=by
 intro pins s σ H xs us Q I rs q
 rcases q with q | q
 ·exact h pins s σ H xs us Q I rs q
 ·exact h' pins s σ H xs us Q I rs q
theorem zdL:zc3 X (.type "list") (fun xs H Q=>∃ p ys,xs= [.ref p]∧(SqL X.K H p ys∨SqT X.K H p ys)∧∀ l,H l=none→Q (.ref l) (upd H l (.lst ys))):=by
 intro pins s σ H xs us Q I r h
 obtain ⟨p,ys,rfl,hq,q⟩:=h
 obtain ⟨u,rfl,rx⟩:=zgs r
 cases rx
 have fin:∀ (its:List Value),Vals ys its→ys.length≤yK→∀ (h':Heap) (c':Nat),(∀ b o',s.heap.get? b=some o'→h'.get? b=some o')→
   h'.get? s.heap.objs.size=some {cls:=.type "list",dict:=none,data:=.seq its.toArray c',slots:=#[]}→EP X pins σ Q (.ref s.heap.objs.size) {s with heap:=h'}:=fun its r' hz h' c' kp e=>
  ⟨.ref s.heap.objs.size,_,I.laid (t':=s.toks) kp (yL _) (show zbh X.prog X.w _ h' _ (.lst ys) from ⟨hz,its,c',r',e⟩),rfl,q _ (I.hok.fresh (yL _))⟩
 rcases hq with hq | hq
 ·obtain ⟨its,r',pl,hz⟩:=I.list hq
  have hlen:=r'.length
  obtain ⟨o,ho,hc,n,hd⟩:=pl.isList
  exact call_list_seq p (.inl rfl) ho hc hd (fun h' c' kp e=>fin its r' hz h' c' kp e) (by simp only [yP] <;> omega)
 ·obtain ⟨its,r',pl,hz⟩:=I.tuple hq
  have hlen:=r'.length
  obtain ⟨o,ho,hc,n,hd⟩:=pl
  exact call_list_seq p (.inr rfl) ho hc hd (fun h' c' kp e=>fin its r' hz h' c' kp e) (by simp only [yP] <;> omega)
theorem zhn:zc3 X (.type "tuple") (fun xs H Q=>∃ p ys,xs= [.ref p]∧((SqL X.K H p ys∧∀ l,H l=none→Q (.ref l) (upd H l (.tup ys)))∨(SqT X.K H p ys∧Q (.ref p) H))):=by
 intro pins s σ H xs us Q I r h
 obtain ⟨p,ys,rfl,h⟩:=h
 obtain ⟨u,rfl,rx⟩:=zgs r
 cases rx
 rcases h with ⟨hq,q⟩ | ⟨hq,q⟩
 ·obtain ⟨its,r',pl,hz⟩:=I.list hq
  have hlen:=r'.length
  refine call_tuple_list pl.isList (fun h' kp=>?_) (by simp only [yP] <;> omega)
  have I1:Inv X pins σ H {s with heap:=h'}:=I.kept (t':=s.toks) kp
  have I2:Inv X pins σ (upd H h'.objs.size (.tup ys)) {s with heap:=h'.push {cls:=.type "tuple",data:=.seq its.toArray}}:=
   I1.laid (t':=s.toks) (fun b o e=>yD _ e) (yL _) (show zbh X.prog X.w _ _ _ (.tup ys) from ⟨hz,its,r',yck _ _⟩)
  exact ⟨.ref h'.objs.size,_,I2,rfl,q _ (I1.hok.fresh (yL _))⟩
 ·obtain ⟨its,r',pl,hz⟩:=I.tuple hq
  exact call_tuple_same pl ⟨.ref p,H,I,rfl,q⟩
noncomputable def tyV (K:PySem.W.Frag) (T:String) (x:V) (H:Hp):Prop:=match x with
 | .str _=>T="str"
 | .int _=>T="int"
 | .ref p=>(T="list"∧∃ xs,SqL K H p xs)∨(T="tuple"∧∃ o,K.lookup p=some o∧o.cls= .type "tuple"∧o.dict=none)∨
   (T="dict"∧((∃ kvs,H p=some (.dK kvs))∨∃ kvs,H p=some (.dT kvs)))∨(T="set"∧∃ S n,H p=some (.set S n))
 | _=>False
theorem znC {pins:List (Addr×Obj)}{σ :St}{H:Hp}{s:Shared}{T:String}{x:V}{v:Value}(I:Inv X pins σ H s)(r:RelV x v)(ty:tyV X.K T x H):
  s.TypeIs v T∧∀ a,v= .ref a→∃ ob,s.heap.get? a=some ob∧ob.dict=none:=by
 cases x with
 | str z=>
  obtain ⟨t,rfl⟩:=r
  cases (show T="str" from ty)
  exact ⟨typeIs_str s z t,fun _ e=>nomatch e⟩
 | int i=>
  obtain ⟨t,rfl⟩:=r
  cases (show T="int" from ty)
  exact ⟨typeIs_int s i t,fun _ e=>nomatch e⟩
 | ref p=>
  cases r
  rcases ty with ⟨rfl,xs,hq⟩ | ⟨rfl,o,hk,hc,hd⟩ | ⟨rfl,hk⟩ | ⟨rfl,S,n,hk⟩
  ·obtain ⟨its,_,pl,_⟩:=I.list hq
   refine ⟨pl.isList.typeIs,fun a e=>?_⟩
   cases e
   obtain ⟨o,n,e,c,hd,_⟩:=pl
   exact ⟨o,e,hd⟩
  ·refine ⟨⟨o,I.kIn p o hk,hc⟩,fun a e=>?_⟩
   cases e
   exact ⟨o,I.kIn _ o hk,hd⟩
  ·have z:∃ o,s.heap.get? p=some o∧o.ExactDict:=by
    rcases hk with ⟨kvs,hk⟩ | ⟨kvs,hk⟩
    ·obtain ⟨_,_,_,_,o,_,_,e,ex,_⟩:=I.hok p _ hk
     exact ⟨o,e,ex⟩
    ·obtain ⟨_,_,_,_,o,_,_,e,ex,_⟩:=I.hok p _ hk
     exact ⟨o,e,ex⟩
   obtain ⟨o,e,ex⟩:=z
   refine ⟨⟨o,e,ex.1⟩,fun a e2=>?_⟩
   cases e2
   exact ⟨o,e,ex.2.1⟩
  ·obtain ⟨o,_,_,_,e,ex,_⟩:=I.hok p _ hk
   refine ⟨⟨o,e,ex.1⟩,fun a e2=>?_⟩
   cases e2
   exact ⟨o,e,ex.2.1⟩
 | _=>exact vT ty
noncomputable def tBM0 (K:PySem.W.Frag) (T:String) (r:V→List V→Hp→VK→Prop) (to:TE):TE:=fun σ H Q=>to σ H fun x H1=>tyV K T x H1∧r x [] H1 Q
noncomputable def tBM (K:PySem.W.Frag) (T:String) (r:V→List V→Hp→VK→Prop) (to:TE) (t:TA):TE:=fun σ H Q=>to σ H fun x H1=>tyV K T x H1∧t σ H1 fun xs H2=>r x xs H2 Q
variable {o e:Expr} {es:List Expr} {to:TE} {t:TA} {name:Str} {apos cpos:Pos} {T id:String} {r:V→List V→Hp→VK→Prop}
theorem pe_bm0 (pa:PlainAttrs T)(slot:Slot T name id)(hty:typeOf (.builtin id)=pure (.type "method_descriptor"))(hm:MtR X id r)(ho:PE X o to)
  (hbase:attributeBase o name X.env (eval o X.env)=eval o X.env:=by rfl) (hline:(apos.endLine==cpos.line)=true:=by rfl):PE X (.Call (.Attribute o name apos) [] [] cpos) (tBM0 X.K T r to):=by
 intro pins s σ H Q I h
 refine wpAny_Call_method0_late hbase hline (thn (ho pins s σ H _ I h) fun v s1 ⟨x,H1,I1,r1,ty,q1⟩=>?_)
 obtain ⟨h1,h2⟩:=znC I1 r1 ty
 exact ⟨T,id,pa,slot,hty,h1,h2,vG rfl (yaA (hm pins s1 σ H1 x [] v [] Q I1 r1 .nil q1))⟩
theorem pe_bm (pa:PlainAttrs T)(slot:Slot T name id)(hty:typeOf (.builtin id)=pure (.type "method_descriptor"))(hm:MtR X id r)(ho:PE X o to)(ha:PA X (e::es) t)
  (hbase:attributeBase o name X.env (eval o X.env)=eval o X.env:=by rfl)
  (hfew:((backTo cpos (starEach (e::es) X.env)).all (fun x=>!x.1) && (backToKw cpos (keywordEach [] X.env)).all (fun x=>x.1.isSome)
   && decide ((e::es).length+([]:List Keyword).length+(if ([]:List Keyword).isEmpty then 0 else 1) < 30))=true:=by rfl)
  (hline:(apos.endLine==cpos.line)=true:=by rfl) (hs:starEach (e::es) X.env=(false,eval e X.env)::starEach es X.env:=by rfl) (hplain:(backTo cpos (starEach es X.env)).any (·.1)=false:=by rfl):
  PE X (.Call (.Attribute o name apos) (e::es) [] cpos) (tBM X.K T r to t):=by
 intro pins s σ H Q I h
 refine wpAny_Call_method_late hbase hfew hline rfl (thn (ho pins s σ H _ I h) fun v s1 ⟨x,H1,I1,r1,ty,q1⟩=>?_)
 obtain ⟨h1,h2⟩:=znC I1 r1 ty
 refine ⟨T,id,pa,slot,hty,h1,h2,?_⟩
 have hA:=ha cpos pins s1 σ H1 _ I1 q1
 rw [hs] at hA ⊢
 refine vG (by show (false || (backTo cpos (starEach es X.env)).any (·.1))=false;rw [hplain] <;> rfl) (ybA ?_)
 exact thn hA fun us s2 ⟨vs,H2,I2,r2,q2⟩=>hm pins s2 σ H2 x vs v us Q I2 r1 r2 q2
end
noncomputable def MtM (X:Cx) (id:String) (r:V→List V→Hp→VK→Prop):Prop:=
 ∀ (pins:List (Addr×Obj)) (s:Shared) (σ :St) (H:Hp) (x:V) (xs:List V) (v:Value) (us:List Value) (Q:VK),Inv X pins σ H s→RelV x v→Vals xs us→r x xs H Q→
  wpAny (model X.prog X.w) X.A (call (.builtin id) (v::us)) (EP X pins σ Q) X.xe s
theorem Vals.one:∀ {x:V} {us:List Value},Vals [x] us→∃ u,us= [u]∧RelV x u
 | _,_,.cons r .nil=>⟨_,rfl,r⟩
theorem Vals.two:∀ {x y:V} {us:List Value},Vals [x,y] us→∃ u v,us= [u,v]∧RelV x u∧RelV y v
 | _,_,_,.cons r (.cons q .nil)=>⟨_,_,rfl,r,q⟩
theorem Vals.zero:∀ {us:List Value},Vals [] us→us= []
 | _,.nil=>rfl
theorem Vals.eraseIdx:∀ {xs:List V} {us:List Value} (i:Nat),Vals xs us→Vals (xs.eraseIdx i) (us.eraseIdx i)
 | _,_,_,.nil=>.nil
 | _,_,0,.cons _ t=>t
 | _,_,i+1,.cons r t=>.cons r (Vals.eraseIdx i t)
theorem Vals.reverse {xs:List V}{us:List Value}(h:Vals xs us):Vals xs.reverse us.reverse:=by
 induction h with
 | nil=>exact .nil
 | cons r t ih=>rw [ybU,ybU];exact Vals.append ih (.cons r .nil)
theorem Vals.rep {xs:List V}{us:List Value}(h:Vals xs us):∀ k:Nat,Vals (kK k xs).flatten (kK k us).flatten
 | 0=>.nil
 | k+1=>by
  rw [ybH,ybH,ybV,ybV]
  exact Vals.append h (Vals.rep h k)
section
variable {X:Cx} {pins:List (Addr×Obj)} {σ :St} {H:Hp} {s:Shared} {l b:Addr} {xs ys zs:List V}
theorem Inv.lset {its its':List Value}{n:Nat}{f:Array Value→Array Value}{t':Nat}(I:Inv X pins σ H s)(hH:H l=some (.lst xs))
  (e:s.heap.get? l=some {cls:=.type "list",data:=.seq its.toArray n}) (hf:f its.toArray=its'.toArray) (hv:Vals ys its') (hz:ys.length≤yK):
  Inv X pins σ (upd H l (.lst ys)) {s with heap:=s.heap.update l (vI f),toks:=t'}:=by
 have q:=PySem.IsL.update e f
 rw [hf] at q
 refine I.write (x:=l) (e:=l) (by rw [hH];exact trivial) (.inl rfl) (fun b' u hb hu=>(qW s.heap (vI f) (qR hb)).trans hu) ⟨_,q⟩ ?_
 exact ⟨hz,its',_,hv,q⟩
theorem Inv.lnew {its:List Value}{t':Nat}(I:Inv X pins σ H s)(hv:Vals ys its)(hz:ys.length≤yK):
  Inv X pins σ (upd H s.heap.objs.size (.lst ys)) {s with heap:=s.heap.push {cls:=.type "list",data:=.seq its.toArray},toks:=t'}:=
 I.laid (fun _ _ q=>yD _ q) (yL _) ⟨hz,its,0,hv,yO _ rfl⟩
theorem Inv.fresh (I:Inv X pins σ H s):H s.heap.objs.size=none:=I.hok.fresh (yL _)
theorem Inv.lstM (I:Inv X pins σ H s)(hH:H l=some (.lst xs)):xs.length≤yK∧∃ (its:List Value) (n:Nat),Vals xs its∧xs.length=its.length∧s.heap.get? l=some {cls:=.type "list",data:=.seq its.toArray n}:=by
 obtain ⟨z,its,n,r,e⟩:=I.hok l _ hH
 exact ⟨z,its,n,r,r.length,e⟩
theorem zmp {n:Nat}(h:n≤yK):wQ n=false:=by
 unfold wQ
 exact decide_eq_false (by omega)
end
section
variable {X:Cx}
noncomputable def znW:V→List V→Hp→VK→Prop:=fun x vs H Q=>∃ l xs y,x= .ref l∧vs= [y]∧H l=some (.lst xs)∧xs.length < yK∧Q .non (upd H l (.lst (xs++ [y])))
theorem zbv:MtM X "list.append" znW:=by
 intro pins s σ H x vs v us Q I rx rv h
 obtain ⟨l,xs,y,rfl,rfl,hH,hz,q⟩:=h
 cases rx
 obtain ⟨u,rfl,ru⟩:=rv.one
 obtain ⟨z,its,n,r,hl,e⟩:=I.lstM hH
 refine call_meets F.slot_list_append ⟨_,e,rfl⟩ F.entry_list_append (F.args_list_append_2 _ _) (PySem.list_append l its.toArray n u (by rw [yP];omega)) ⟨e,?_⟩
 refine ⟨.non,_,I.lset (its':=its++ [u]) hH e (by simp) (r.append (.cons ru .nil)) ?_,rfl,q⟩
 rw [yI,qC]
 omega
noncomputable def zn3:V→List V→Hp→VK→Prop:=fun x vs H Q=>∃ l b xs zs,x= .ref l∧vs= [.ref b]∧H l=some (.lst xs)∧H b=some (.lst zs)∧xs.length+zs.length≤yK∧Q .non (upd H l (.lst (xs++zs)))
theorem zl1:MtM X "list.extend" zn3:=by
 intro pins s σ H x vs v us Q I rx rv h
 obtain ⟨l,b,xs,zs,rfl,rfl,hH,hB,hz,q⟩:=h
 cases rx
 obtain ⟨u,rfl,ru⟩:=rv.one
 cases ru
 obtain ⟨z,its,n,r,hl,e⟩:=I.lstM hH
 obtain ⟨z2,its2,n2,r2,hl2,e2⟩:=I.lstM hB
 have hsz:its.toArray.size+its2.toArray.size≤yK:=by rw [yP,yP];omega
 have hlong:¬(!its.toArray.isEmpty && wQ (its.toArray.size+its2.toArray.size))=true:=by
  rw [zmp hsz,Bool.and_false]
  exact yQ
 refine call_meets F.slot_list_extend ⟨_,e,rfl⟩ F.entry_list_extend (F.args_list_extend_2 _ _)
  (AutoSeq1.list_extend_list_list_0 l its.toArray n b its2.toArray n2 hlong (by rw [yP];omega) (by omega)) ⟨e,e2,?_⟩
 refine ⟨.non,_,I.lset (its':=its++its2) hH e (by simp) (r.append r2) ?_,rfl,q⟩
 rw [yI]
 omega
noncomputable def rClear:V→List V→Hp→VK→Prop:=fun x vs H Q=>∃ l xs,x= .ref l∧vs= []∧H l=some (.lst xs)∧Q .non (upd H l (.lst []))
theorem zmV:MtM X "list.clear" rClear:=by
 intro pins s σ H x vs v us Q I rx rv h
 obtain ⟨l,xs,rfl,rfl,hH,q⟩:=h
 cases rx
 have hus:=rv.zero
 subst hus
 obtain ⟨z,its,n,r,hl,e⟩:=I.lstM hH
 refine call_meets F.slot_list_clear ⟨_,e,rfl⟩ F.entry_list_clear (F.args_list_clear_1 _) (AutoSeq1.list_clear_list_0 l its.toArray n (by rw [yP];omega)) ⟨e,?_⟩
 exact ⟨.non,_,I.lset (its':=[]) (ys:=[]) hH e rfl .nil (qM _),rfl,q⟩
noncomputable def rCat:R2:=fun x y H Q=>∃ l b xs zs,x= .ref l∧y= .ref b∧H l=some (.lst xs)∧H b=some (.lst zs)∧xs.length+zs.length≤yK∧∀ p,H p=none→Q (.ref p) (upd H p (.lst (xs++zs)))
theorem zcY:OpR X (binaryOp .Add) rCat:=by
 intro pins s σ H x y v u Q I rx ry h
 obtain ⟨l,b,xs,zs,rfl,rfl,hH,hB,hz,q⟩:=h
 cases rx
 cases ry
 obtain ⟨z,its,n,r,hl,e⟩:=I.lstM hH
 obtain ⟨z2,its2,n2,r2,hl2,e2⟩:=I.lstM hB
 refine PySem.P.add_list e e2 ?_ (by rw [yP,yP];omega)
 have ea:its.toArray++its2.toArray=(its++its2).toArray:=by simp
 rw [ea]
 exact ⟨.ref _,_,I.lnew (t':=s.toks) (r.append r2) (by rw [yI];omega),rfl,q _ I.fresh⟩
end
section
variable {prog:Program} {w:World} {A:Around} {E:Value→Shared→Prop} {s:Shared}
end
section
variable {X:Cx}
end
section
variable {κ :Type} [DecidableEq κ]
noncomputable def valV (kvs:List (κ×V)) (k: κ):Option V:=(kvs.find? fun kv=>decide (kv.1=k)).map (·.2)
noncomputable def putK (kvs:List (κ×V)) (k: κ) (v:V):List (κ×V):=
 if (kvs.any fun kv=>decide (kv.1=k))=true then kvs.map (fun kv=>if kv.1=k then (kv.1,v) else kv) else kvs++ [(k,v)]
noncomputable def dropK (kvs:List (κ×V)) (k: κ):List (κ×V):=kvs.filter fun kv=>decide (kv.1≠k)
theorem zcO {p: κ×V}{r:List (κ×V)}{k: κ}(e:p.1=k):valV (p::r) k=some p.2:=by simp [valV,vC,e]
theorem zb8 {p: κ×V}{r:List (κ×V)}{k: κ}(e:¬p.1=k):valV (p::r) k=valV r k:=by simp [valV,vC,e]
theorem zhr (k: κ):∀ kvs:List (κ×V),(kvs.any fun kv=>decide (kv.1=k))=(valV kvs k).isSome
 | []=>rfl
 | p::r=>by
  rw [yav]
  by_cases e:p.1=k
  ·simp only [zcO e,decide_eq_true e,Bool.true_or,Option.isSome_some]
  ·rw [zb8 e,decide_eq_false e,ybP];exact zhr k r
theorem zdd (kvs:List (κ×V))(k: κ)(v:V):(putK kvs k v).length≤kvs.length+1:=by
 unfold putK
 split
 ·rw [yB];omega
 ·rw [yI,jE,vD];omega
theorem zfo {kvs:List (κ×V)}{k: κ}(v:V)(h:valV kvs k=none):putK kvs k v=kvs++ [(k,v)]:=by
 unfold putK
 rw [zhr,h]
 exact if_neg (by decide)
theorem RelO.isSome_eq {o:Option V}{u:Option Value}(r:RelO o u):o.isSome=u.isSome:=by
 cases o with
 | none=>cases u with
  | none=>rfl
  | some _=>exact (show False from r).elim
 | some _=>cases u with
  | none=>exact (show False from r).elim
  | some _=>rfl
theorem RelO.getD {o:Option V}{u:Option Value}{d:V}{d':Value}(r:RelO o u)(rd:RelV d d'):RelV (o.getD d) (u.getD d'):=by
 cases o with
 | none=>cases u with
  | none=>exact rd
  | some _=>exact (show False from r).elim
 | some _=>cases u with
  | none=>exact (show False from r).elim
  | some _=>exact r
theorem KV.val {kvs:List (κ×V)}{vs:List (κ×Value)}(r:KV kvs vs)(k: κ):RelO (valV kvs k) (valueAt vs k):=by
 unfold KV at r
 induction r with
 | nil=>exact True.intro
 | @cons p q ps qs h t ih=>
  obtain ⟨h1,h2⟩:=h
  by_cases e:p.1=k
  ·have e':q.1=k:=h1.symm.trans e
   have b:valueAt (q::qs) k=some q.2:=by simp [valueAt,vC,e']
   rw [zcO e,b];exact h2
  ·have e':¬q.1=k:=fun z=>e (h1.trans z)
   have b:valueAt (q::qs) k=valueAt qs k:=by simp [valueAt,vC,e']
   rw [zb8 e,b];exact ih
theorem KV.any {kvs:List (κ×V)}{vs:List (κ×Value)}(r:KV kvs vs)(k: κ):(kvs.any fun kv=>decide (kv.1=k))=vs.any fun kv=>decide (kv.1=k):=by
 unfold KV at r
 induction r with
 | nil=>rfl
 | cons h t ih=>rw [yav,yav,ih,h.1]
theorem KV.repl {kvs:List (κ×V)}{vs:List (κ×Value)}(r:KV kvs vs)(k: κ){y:V}{u:Value}(ry:RelV y u):
  KV (kvs.map fun kv=>if kv.1=k then (kv.1,y) else kv) (vs.map fun kv=>if kv.1=k then (kv.1,u) else kv):=by
 unfold KV at r ⊢
 induction r with
 | nil=>exact .nil
 | @cons p q ps qs h t ih=>
  rw [qJ,qJ]
  refine .cons ?_ ih
  obtain ⟨h1,h2⟩:=h
  by_cases e:p.1=k
  ·rw [if_pos e,if_pos (h1.symm.trans e)];exact ⟨h1,ry⟩
  ·rw [if_neg e,if_neg (fun z=>e (h1.trans z))];exact ⟨h1,h2⟩
theorem KV.put {kvs:List (κ×V)}{vs:List (κ×Value)}(r:KV kvs vs)(k: κ){y:V}{u:Value}(ry:RelV y u):KV (putK kvs k y) (stored vs k u):=by
 unfold putK stored
 rw [r.any k]
 by_cases e:(vs.any fun kv=>decide (kv.1=k))=true
 ·rw [if_pos e,if_pos e];exact r.repl k ry
 ·rw [if_neg e,if_neg e];exact kF r ⟨rfl,ry⟩
theorem KV.drop {kvs:List (κ×V)}{vs:List (κ×Value)}(r:KV kvs vs)(k: κ):KV (dropK kvs k) (without vs k):=by
 unfold KV at r ⊢
 unfold dropK without
 induction r with
 | nil=>exact .nil
 | @cons p q ps qs h t ih=>
  obtain ⟨h1,h2⟩:=h
  rw [yb7,yb7]
  by_cases e:p.1=k
  ·have a:¬decide (p.1≠k)=true:=by simp [e]
   have b:¬decide (q.1≠k)=true:=by simp [h1.symm.trans e]
   rw [if_neg a,if_neg b];exact ih
  ·have e':¬q.1=k:=fun z=>e (h1.trans z)
   have a:decide (p.1≠k)=true:=by simp [e]
   have b:decide (q.1≠k)=true:=by simp [e']
   rw [if_pos a,if_pos b];exact .cons ⟨h1,h2⟩ ih
theorem KV.keys {kvs:List (κ×V)}{vs:List (κ×Value)}(r:KV kvs vs):kvs.map (·.1)=vs.map (·.1):=by
 unfold KV at r
 induction r with
 | nil=>rfl
 | cons h t ih=>rw [qJ,qJ,ih,h.1]
theorem KV.length {kvs:List (κ×V)}{vs:List (κ×Value)}(r:KV kvs vs):kvs.length=vs.length:=yX r
end
theorem zjU {P:Program}{w:World}{k:Key}{u:Value}(r:RelV (kV k) u):(zaG P w).is k u=true:=by
 cases k with
 | inl i=>obtain ⟨t,e⟩:=(show ∃ t,u=Value.int i t from r);subst e;exact ziG P w i t
 | inr x=>obtain ⟨t,e⟩:=(show ∃ t,u=Value.str x t from r);subst e;exact zis P w x t
theorem zia {P:Program}{w:World}:∀ {ks:List Key} {us:List Value},Vals (ks.map kV) us→ItemsAre (zaG P w) ks us
 | [],_,r=>by rw [yaL] at r;cases r;exact .nil
 | k::ks,_,r=>by
  rw [qJ] at r
  cases r with
  | cons h t=>exact .cons (zjU h) (zia t)
noncomputable abbrev KT (H:Hp):List (List Key×V)→List (List Key×Addr×Value)→Prop:=Paired fun p q=>p.1=q.1∧RdT H q.2.1 (p.1.map kV)∧RelV p.2 q.2.2
theorem KT.val {H:Hp}{kvs:List (List Key×V)}{xs:List (List Key×Addr×Value)}(r:KT H kvs xs)(k:List Key):RelO (valV kvs k) ((atKey xs k).map (·.2)):=by
 induction r with
 | nil=>exact True.intro
 | @cons p q ps qs h t ih=>
  obtain ⟨h1,_,h2⟩:=h
  by_cases e:p.1=k
  ·have e':q.1=k:=h1.symm.trans e
   have b:atKey (q::qs) k=some q.2:=by simp [atKey,vC,e']
   rw [zcO e,b];exact h2
  ·have e':¬q.1=k:=fun z=>e (h1.trans z)
   have b:atKey (q::qs) k=atKey qs k:=by simp [atKey,vC,e']
   rw [zb8 e,b];exact ih
theorem KT.repl {H:Hp}{kvs:List (List Key×V)}{xs:List (List Key×Addr×Value)}(r:KT H kvs xs)(k:List Key){y:V}{u:Value}(ry:RelV y u):
  KT H (kvs.map fun kv=>if kv.1=k then (kv.1,y) else kv) (xs.map (putAt k u)):=by
 induction r with
 | nil=>exact .nil
 | @cons p q ps qs h t ih=>
  rw [qJ,qJ]
  refine .cons ?_ ih
  obtain ⟨h1,h2,h3⟩:=h
  unfold putAt
  by_cases e:p.1=k
  ·rw [if_pos e,if_pos (h1.symm.trans e)];exact ⟨h1,h2,ry⟩
  ·rw [if_neg e,if_neg (fun z=>e (h1.trans z))];exact ⟨h1,h2,h3⟩
theorem KT.put {H:Hp}{kvs:List (List Key×V)}{xs:List (List Key×Addr×Value)}(r:KT H kvs xs)(k:List Key){b:Addr}{y:V}{u:Value}(hb:RdT H b (k.map kV))(ry:RelV y u):
  KT H (putK kvs k y) (storedH xs k b u):=by
 have e:(kvs.any fun kv=>decide (kv.1=k))=(atKey xs k).isSome:=by
  rw [zhr,(r.val k).isSome_eq,ybW]
 unfold putK storedH
 rw [e]
 by_cases q:(atKey xs k).isSome=true
 ·rw [if_pos q,if_pos q];exact r.repl k ry
 ·rw [if_neg q,if_neg q];exact kF r ⟨rfl,hb,ry⟩
theorem KT.keeps {H H':Hp}{kvs:List (List Key×V)}{xs:List (List Key×Addr×Value)}(r:KT H kvs xs)(ht:∀ b ys,RdT H b ys→RdT H' b ys):KT H' kvs xs:=
 Paired.mapP r fun _ _ z=>⟨z.1,ht _ _ z.2.1,z.2.2⟩
section
variable {P:Program} {w:World} {H:Hp} {h:Heap} {a:Addr}
theorem rd_of {u:HO}(ok:HOk P w H h)(e:Rd H a u):zbh P w H h a u:=e.ok ok
theorem zj4 {kvs:List (Key×V)}(ok:HOk P w H h)(e:Rd H a (.dK kvs)):kvs.length≤yK∧(a==sysModules)=false∧∃ vs,KV kvs vs∧h.DictOf (zaG P w) a vs:=
 show zbh P w H h a (.dK kvs) from rd_of ok e
theorem dk_of {kvs:List (Key×V)}(ok:HOk P w H h)(e:H a=some (.dK kvs)):kvs.length≤yK∧(a==sysModules)=false∧∃ vs,KV kvs vs∧h.DictOf (zaG P w) a vs:=zj4 ok (.inl e)
theorem zfR {ks:List Key}(ok:HOk P w H h)(e:RdT H a (ks.map kV)):(tupleKind (zaG P w)).is h ks a:=by
 obtain ⟨_,its,r,o,h1,h2,n,h3⟩:=(show zbh P w H h a (.tup (ks.map kV)) from Rd.ok (show Rd H a _ from e) ok)
 exact ⟨o,its.toArray,n,h1,h2,h3,by simpa using zia r⟩
theorem zkh {kvs:List (List Key×V)}(ok:HOk P w H h)(e:Rd H a (.dT kvs)):kvs.length≤yK∧(a==sysModules)=false∧
  ∃ xs,KT H kvs xs∧h.DictOfH (tupleKind (zaG P w)) a xs:=by
 obtain ⟨z,y,xs,r,o,es,ep,h1,h2,h3,h4,h5⟩:=(show zbh P w H h a (.dT kvs) from rd_of ok e)
 refine ⟨z,y,xs,r,o,es,ep,h1,h2,h3,h4,fun x hx=>?_,h5⟩
 have all:∀ {l:List (List Key×V)} {m:List (List Key×Addr×Value)},KT H l m→∀ x∈m,(tupleKind (zaG P w)).is h x.1 x.2.1:=by
  intro l m q
  induction q with
  | nil=>intro x hx;exact nomatch hx
  | @cons p q ps qs hq t ih=>
   intro x hx
   rcases yY.mp hx with e | hx
   ·subst e
    exact zfR ok (by rw [← hq.1];exact hq.2.1)
   ·exact ih x hx
 exact all r x hx
theorem dt_of {kvs:List (List Key×V)}(ok:HOk P w H h)(e:H a=some (.dT kvs)):kvs.length≤yK∧(a==sysModules)=false∧
  ∃ xs,KT H kvs xs∧h.DictOfH (tupleKind (zaG P w)) a xs:=zkh ok (.inl e)
end
noncomputable def DGet (H:Hp) (a:Addr) (y:V) (r:Option V):Prop:=
 (∃ kvs k,Rd H a (.dK kvs)∧y=kV k∧r=valV kvs k)∨∃ kvs k b,Rd H a (.dT kvs)∧y= .ref b∧RdT H b (k.map kV)∧r=valV kvs k
noncomputable def DPut (H:Hp) (a:Addr) (y v:V) (H':Hp):Prop:=
 (∃ kvs k,H a=some (.dK kvs)∧y=kV k∧kvs.length < yK∧H'=upd H a (.dK (putK kvs k v)))∨
 ∃ kvs k b,H a=some (.dT kvs)∧y= .ref b∧RdT H b (k.map kV)∧kvs.length < yK∧H'=upd H a (.dT (putK kvs k v))
theorem DGet.k {H:Hp}{a:Addr}{kvs:List (Key×V)}{k:Key}(e:H a=some (.dK kvs)):DGet H a (kV k) (valV kvs k):=.inl ⟨kvs,k,.inl e,rfl,rfl⟩
theorem DGet.t {H:Hp}{a b:Addr}{kvs:List (List Key×V)}{k:List Key}(e:H a=some (.dT kvs))(eb:H b=some (.tup (k.map kV))):DGet H a (.ref b) (valV kvs k):=.inr ⟨kvs,k,b,.inl e,rfl,.inl eb,rfl⟩
theorem DPut.k {H:Hp}{a:Addr}{kvs:List (Key×V)}{k:Key}{v:V}(e:H a=some (.dK kvs))(hl:kvs.length < yK):DPut H a (kV k) v (upd H a (.dK (putK kvs k v))):=.inl ⟨kvs,k,e,rfl,hl,rfl⟩
theorem DPut.t {H:Hp}{a b:Addr}{kvs:List (List Key×V)}{k:List Key}{v:V}(e:H a=some (.dT kvs))(eb:H b=some (.tup (k.map kV)))(hl:kvs.length < yK):
  DPut H a (.ref b) v (upd H a (.dT (putK kvs k v))):=.inr ⟨kvs,k,b,e,rfl,.inl eb,hl,rfl⟩
section
variable {X:Cx} {pins:List (Addr×Obj)} {σ :St} {H:Hp} {s:Shared} {a:Addr} {y v:V} {u r:Value} {o:Option V} {A:Around} {E:Value→Shared→Prop}
theorem Inv.big (I:Inv X pins σ H s):sysModules < s.heap.objs.size:=by
 have h:qQ < s.heap.objs.size:=(I.mod.glob.keeps I.bk).lt
 exact Nat.lt_trans (by decide) h
theorem zlu {Q:Value→Shared→Prop}(hu:A.units+1 < cLine)(I:Inv X pins σ H s)(g:DGet H a y (some v))(ry:RelV y u)(h:∀ w' s',Inv X pins σ H s'→RelV v w'→Q w' s'):
  wpAny (model X.prog X.w) A (getItem (.ref a) u) Q E s:=by
 rcases g with ⟨kvs,k,e,ey,l⟩ | ⟨kvs,k,b,e,ey,eb,l⟩
 ·subst ey
  obtain ⟨z,hd,vs,rel,dd⟩:=zj4 I.hok e
  obtain ⟨w',hw,rw'⟩:=RelO.some_of (v:=v) (o:=valueAt vs k) (by rw [l];exact rel.val k)
  exact wpAny_getItem_of (zjU ry) dd.mapOf hw (h w' _ (I.tok _) rw')
 ·subst ey
  cases (show u=Value.ref b from ry)
  obtain ⟨z,hd,xs,rel,dd⟩:=zkh I.hok e
  obtain ⟨w',hw,rw'⟩:=RelO.some_of (v:=v) (o:=(atKey xs k).map (·.2)) (by rw [l];exact rel.val k)
  obtain ⟨p,hp,hp2⟩:=wZ.mp hw
  refine wpAny_getItem_heap (tupleKind_room_in1 hu) (zfR I.hok eb) dd hp ?_
  rw [hp2]
  exact h w' _ (I.tok _) rw'
theorem zoI {Q:Value→Shared→Prop}(hu:A.units+1 < cLine)(I:Inv X pins σ H s)(g:DGet H a y o)(ry:RelV y u)(h:∀ s',Inv X pins σ H s'→Q (.bool (!o.isSome)) s'):
  wpAny (model X.prog X.w) A (compareOp .NotIn u (.ref a)) Q E s:=by
 rcases g with ⟨kvs,k,e,ey,l⟩ | ⟨kvs,k,b,e,ey,eb,l⟩
 ·subst ey
  obtain ⟨z,hd,vs,rel,dd⟩:=zj4 I.hok e
  refine wpAny_notIn_of (zjU ry) hd dd.mapOf ?_
  rw [← (rel.val k).isSome_eq,← l]
  exact h _ (I.tok _)
 ·subst ey
  cases (show u=Value.ref b from ry)
  obtain ⟨z,hd,xs,rel,dd⟩:=zkh I.hok e
  refine wpAny_notIn_heap (tupleKind_room_in1 hu) (zfR I.hok eb) hd dd ?_
  have q:=(rel.val k).isSome_eq
  rw [ybW] at q
  rw [← q,← l]
  exact h _ (I.tok _)
theorem zgU {h':Heap}{t':Nat}{ob:HO}(I:Inv X pins σ H s)(mu:Mut (H a))(hs:qX a s.heap h')(he:∃ q,h'.get? a=some q)(new:zbh X.prog X.w (upd H a ob) h' a ob):
  Inv X pins σ (upd H a ob) {s with heap:=h',toks:=t'}:=
 I.write (x:=a) (e:=a) mu (.inl rfl) (fun b q hb z=>(hs.2 b hb).trans z) he new
theorem znA {P:Program}{w:World}{H':Hp}{h':Heap}{kvs:List (Key×V)}{vs:List (Key×Value)}(z:kvs.length≤yK)(hd:(a==sysModules)=false)(rel:KV kvs vs)(dd:h'.DictOf (zaG P w) a vs):
  zbh P w H' h' a (.dK kvs):=⟨z,hd,vs,rel,dd⟩
theorem zlt {H':Hp}{Q:Unit→Shared→Prop}(hu:A.units+1 < cLine)(I:Inv X pins σ H s)(g:DPut H a y v H')(ry:RelV y u)(rv:RelV v r)(h:∀ s',Inv X pins σ H' s'→Q () s'):
  wpAny (model X.prog X.w) A (setItem (.ref a) u r) Q E s:=by
 rcases g with ⟨kvs,k,e,ey,l,eH⟩ | ⟨kvs,k,b,e,ey,eb,l,eH⟩
 ·subst ey eH
  obtain ⟨z,hd,vs,rel,dd⟩:=dk_of I.hok e
  have hz:vs.length≤yK:=by rw [← rel.length];exact z
  have hl:(putK kvs k v).length≤yK:=by have:=zdd kvs k v;omega
  refine wpAny_setItem_pairs (hsz:=hz) (zjU ry) dd fun h' dd' hs=>h _ ?_
  have he:∃ q,h'.get? a=some q:=let ⟨q,_,_,hq,_⟩:=dd';⟨q,hq⟩
  exact zgU I (by rw [e];exact True.intro) hs he (znA hl hd (rel.put k rv) dd')
 ·subst ey eH
  cases (show u=Value.ref b from ry)
  obtain ⟨z,hd,xs,rel,dd⟩:=dt_of I.hok e
  have hz:xs.length≤yK:=by rw [← yX rel];exact z
  have hl:(putK kvs k v).length≤yK:=by have:=zdd kvs k v;omega
  refine wpAny_setItem_heap (hsz:=hz) (tupleKind_room_in1 hu) (zfR I.hok eb) dd fun h' dd' hs=>h _ ?_
  obtain ⟨q,es,ep,hq,h2,h3,h4,_,h5⟩:=dd'
  refine zgU I (by rw [e];exact True.intro) hs ⟨q,hq⟩ ⟨hl,hd,_,(rel.put k eb rv).keeps fun c ys ec=>ec.keep fun u eu hu=>?_,q,es,ep,hq,h2,h3,h4,h5⟩
  rw [zah (zeZ eu e (fun z=>by obtain ⟨ys,hu | ⟨_,hu⟩⟩:=hu <;> (rw [hu] at z;cases z)))]
  exact eu
end
section
variable {X:Cx} {pins:List (Addr×Obj)} {σ :St} {H:Hp} {s:Shared} {a:Addr} {kvs:List (Key×V)} {k:Key} {u:Value} {A:Around} {E:Value→Shared→Prop}
end
noncomputable def NoSl (i:Expr):Prop:=∀ ov iv,subscripted i false ov iv=operate [ov,iv] (getItem ov iv)
theorem zoB {prog:Program}{w:World}{A:Around}{E:Value→Shared→Prop}{s:Shared}{env:Env}{value slice:Expr}{pos:Pos}{T id:String}{Q:Value→Shared→Prop}
  (hl:typeLookup (.type T) "__getitem__" =pure (some (.builtin id))) (hs:NoSl slice)
  (h:wpAny (model prog w) A (eval value env) (fun o s₁ =>wpAny (model prog w) A (eval slice env) (fun i s₂ =>s₂.TypeIs o T∧wpAny (model prog w) A (getItem o i) Q E s₂) E s₁) E s):
  wpAny (model prog w) A (eval (.Subscript value slice pos) env) Q E s:=by
 refine Subscript_ (wpAny_mono h (fun o s₁ h₁ =>wpAny_mono h₁ (fun i s₂ h₂ =>?_) fun _ _ x=>x) fun _ _ x=>x)
 obtain ⟨hT,h₂⟩:=h₂
 unfold subscriptTail
 refine yA ?_
 rw [getitemInPython_of_ne hT.not_modules]
 refine yA (wpAny_specialOf hT hl ?_)
 have fin:wpAny (model prog w) A (subscripted slice false o i) (fun r s₃ =>wpAny (model prog w) A (letTemporaryGo value o r >>=fun _=>pure r) Q E s₃) E s₂ :=by
  rw [hs o i]
  exact wpAny_operating (wpAny_mono h₂ (fun r s₃ h₃ =>yA (wpAny_letTemporaryGo (yC h₃))) fun _ _ x=>x)
 first
  | exact yC (yA fin)
  | exact yA (yC (yA fin))
  | exact yA fin
theorem ziF {X:Cx}{pins:List (Addr×Obj)}{σ :St}{H:Hp}{s:Shared}{a:Addr}{y:V}{o:Option V}(I:Inv X pins σ H s)(g:DGet H a y o):s.TypeIs (.ref a) "dict" :=by
 rcases g with ⟨kvs,k,e,_,_⟩ | ⟨kvs,k,b,e,_,_,_⟩
 ·obtain ⟨_,_,vs,_,dd⟩:=zj4 I.hok e
  exact dd.typeIs
 ·obtain ⟨_,_,xs,_,dd⟩:=zkh I.hok e
  exact dd.typeIs
noncomputable def tDGet (td ty:TE):TE:=fun σ H Q=>td σ H fun x H1=>ty σ H1 fun y H2=>∃ a v,x= .ref a∧DGet H2 a y (some v)∧Q v H2
noncomputable def zlK (ty td:TE):TE:=fun σ H Q=>ty σ H fun y H1=>td σ H1 fun x H2=>∃ a o,x= .ref a∧DGet H2 a y o∧Q (.bl (!o.isSome)) H2
noncomputable def sDPut (td ty tv:TE):TS:=fun D σ H=>tv σ H fun v H1=>td σ H1 fun x H2=>ty σ H2 fun y H3=>∃ a H4,x= .ref a∧DPut H3 a y v H4∧D.nx σ H4
section
variable {X:Cx} {o i e value:Expr} {pos pos' tpos:Pos} {td ty tv:TE}
theorem zoM (hu:X.A.units+1 < cLine)(ho:PE X o td)(hi:PE X i ty)(hs:NoSl i):PE X (.Subscript o i pos) (tDGet td ty):=by
 intro pins s σ H Q I h
 refine zoB PySem.F.slot_dict_getitem.lookup hs (thn (ho pins s σ H _ I h) fun u s1 ⟨x,H1,I1,rx,q1⟩=>thn (hi pins s1 σ H1 _ I1 q1) fun iv s2 ⟨y,H2,I2,ry,a,v,ex,g,q2⟩=>?_)
 subst ex
 obtain rfl:u=Value.ref a:=rx
 exact ⟨ziF I2 g,zlu hu I2 g ry fun w' s3 I3 rw'=>⟨v,H2,I3,rw',q2⟩⟩
theorem zl8 (hu:X.A.units+1 < cLine)(hi:PE X i ty)(ho:PE X o td):PC X .NotIn i o (zlK ty td):=by
 intro pins s σ H Q I h
 refine thn (hi pins s σ H _ I h) fun iv s1 ⟨y,H1,I1,ry,q1⟩=>thn (ho pins s1 σ H1 _ I1 q1) fun u s2 ⟨x,H2,I2,rx,a,ov,ex,g,q2⟩=>?_
 subst ex
 obtain rfl:u=Value.ref a:=rx
 exact zoI hu I2 g ry fun s3 I3=>⟨.bl (!ov.isSome),H2,I3,rfl,q2⟩
theorem zoQ (hu:X.A.units+1 < cLine)(ho:PE X o td)(hi:PE X i ty)(hv:PE X value tv)(hs:swapsWith value (some (.Subscript o i pos')) pos.line X.env=pure false):
  PS X (.Assign [.Subscript o i pos'] value pos) (sDPut td ty tv):=by
 intro pins s σ H D I h
 refine wpAny_Assign_Subscript (thn (hv pins s σ H _ I h) fun r s1 ⟨v,H1,I1,rv,q1⟩=>thn (ho pins s1 σ H1 _ I1 q1) fun u s2 ⟨x,H2,I2,rx,q2⟩=>thn (hi pins s2 σ H2 _ I2 q2) fun iv s3 ⟨y,H3,I3,ry,a,H4,ex,g,q3⟩=>?_) hs
 subst ex
 obtain rfl:u=Value.ref a:=rx
 exact zlt hu I3 g ry rv fun s4 I4=>⟨σ,H4,I4,q3⟩
end
theorem zmT {P:Program}{w:World}{H:Hp}(h:Heap)(hb:sysModules < h.objs.size):zbh P w H (h.push {cls:=.type "dict",data:=.dict #[]}) h.objs.size (.dK []):=
 ⟨qM _,beq_eq_false_iff_ne.mpr (qR (qA hb)),[],.nil,Heap.DictOf.new h⟩
theorem zjl {P:Program}{w:World}{H:Hp}(h:Heap)(hb:sysModules < h.objs.size):zbh P w H (h.push {cls:=.type "dict",data:=.dict #[]}) h.objs.size (.dT []):=
 ⟨qM _,beq_eq_false_iff_ne.mpr (qR (qA hb)),[],.nil,_,#[],0,yO _ rfl,⟨rfl,rfl,rfl⟩,rfl,rfl,xN⟩
noncomputable def znx:TE:=fun _ H Q=>∀ p,H p=none→Q (.ref p) (upd H p (.dT []))
section
variable {X:Cx} {pos:Pos}
theorem zmz:PE X (.Dict [] [] pos) znx:=fun pins s σ H Q I h=>
 wpAny_Dict_empty ⟨.ref s.heap.objs.size,_,I.laid (a:=s.heap.objs.size) (o:=.dT []) (t':=s.toks) (fun _ _ q=>yD _ q) (yL _) (zjl s.heap I.big),rfl,h _ (I.hok.fresh (yL _))⟩
end
noncomputable def zkF:List (TE×TE)→St→Hp→(List (V×V)→Hp→Prop)→Prop
 | [],_,H,Q=>Q [] H
 | (tk,tv)::r,σ,H,Q=>tk σ H fun x H1=>tv σ H1 fun y H2=>zkF r σ H2 fun ps H3=>Q ((x,y)::ps) H3
noncomputable abbrev VV:List (V×V)→List (Value×Value)→Prop:=Paired fun p q=>RelV p.1 q.1∧RelV p.2 q.2
noncomputable def PPs (X:Cx) (pos:Pos) (keys:List (Option Expr)) (values:List Expr) (trs:List (TE×TE)):Prop:=
 ∀ (pins:List (Addr×Obj)) (s:Shared) (σ :St) (H:Hp) (Q:List (V×V)→Hp→Prop),Inv X pins σ H s→zkF trs σ H Q→
  wpAny (model X.prog X.w) X.A (evalPairs (pairTrees keys values X.env pos)) (fun vs s'=>∃ ps H',Inv X pins σ H' s'∧VV ps vs∧Q ps H') X.xe s
theorem zom {X:Cx}{pos:Pos}:PPs X pos [] [] []:=fun pins s σ H Q I h=>pairTrees_nil_walk ⟨[],H,I,.nil,h⟩
theorem zm0 {X:Cx}{pos:Pos}{k v:Expr}{ks:List (Option Expr)}{vs:List Expr}{tk tv:TE}{trs:List (TE×TE)}(hk:PE X k tk)(hv:PE X v tv)(hr:PPs X pos ks vs trs):
  PPs X pos (some k::ks) (v::vs) ((tk,tv)::trs):=fun pins s σ H Q I h=>
 pairTrees_cons_walk (thn (hk pins s σ H _ I h) fun u s1 ⟨x,H1,I1,rx,q1⟩=>thn (hv pins s1 σ H1 _ I1 q1) fun w2 s2 ⟨y,H2,I2,ry,q2⟩=>
  thn (hr pins s2 σ H2 _ I2 q2) fun ws s3 ⟨ps,H3,I3,rel,q3⟩=>⟨(x,y)::ps,H3,I3,.cons ⟨rx,ry⟩ rel,q3⟩)
noncomputable def zed (kvs more:List (Key×V)):List (Key×V):=more.foldl (fun acc kv=>putK acc kv.1 kv.2) kvs
theorem KV.merge:∀ {more:List (Key×V)} {rs:List (Key×Value)} {kvs:List (Key×V)} {vs:List (Key×Value)},KV more rs→KV kvs vs→KV (zed kvs more) (merged vs rs):=by
 intro more rs kvs vs r
 unfold KV at r
 induction r generalizing kvs vs with
 | nil=>intro q;exact q
 | @cons p q ps qs h t ih=>
  intro r0
  have e:KV (putK kvs p.1 p.2) (stored vs q.1 q.2):=by
   have:=r0.put p.1 h.2
   rw [← h.1];exact this
  exact ih e
theorem zeM:∀ (more kvs:List (Key×V)),(zed kvs more).length≤kvs.length+more.length
 | [],kvs=>by show kvs.length≤kvs.length+0;omega
 | p::r,kvs=>by
  have h1:=zeM r (putK kvs p.1 p.2)
  have h2:=zdd kvs p.1 p.2
  show (zed (putK kvs p.1 p.2) r).length≤_
  rw [jE];omega
theorem zgG {P:Program}{w:World}:∀ {kvs:List (Key×V)} {ws:List (Value×Value)},VV (kvs.map fun kv=>(kV kv.1,kv.2)) ws→∃ rs,Carries (zaG P w) ws rs∧KV kvs rs
 | [],_,r=>by rw [yaL] at r;cases r;exact ⟨[],True.intro,.nil⟩
 | p::kvs,_,r=>by
  rw [qJ] at r
  cases r with
  | @cons a b as bs h t=>
   obtain ⟨rs,c,q⟩:=zgG (P:=P) (w:=w) t
   obtain ⟨b1,b2⟩:=b
   exact ⟨(p.1,b2)::rs,⟨zjU h.1,rfl,c⟩,.cons ⟨rfl,h.2⟩ q⟩
noncomputable def tDisp (trs:List (TE×TE)):TE:=fun σ H Q=>∀ p,H p=none→zkF trs σ (upd H p (.dK [])) fun ps H2=>H2 p=some (.dK [])∧∃ kvs:List (Key×V),ps=kvs.map (fun kv=>(kV kv.1,kv.2))∧kvs.length≤15∧Q (.ref p) (upd H2 p (.dK (zed [] kvs)))
theorem zoF {X:Cx}{pos:Pos}{keys:List (Option Expr)}{values:List Expr}{trs:List (TE×TE)}(h:PPs X pos keys values trs)(hall:keys.all (·.isSome)=true)(hl:keys.length=values.length)(h0:keys≠[])
  (h15:keys.length≤15):PE X (.Dict keys values pos) (tDisp trs):=by
 intro pins s σ H Q I q
 have hn:=I.hok.fresh (yL s.heap.objs.size)
 have I1:=I.laid (a:=s.heap.objs.size) (o:=.dK []) (h':=s.heap.push {cls:=.type "dict",data:=.dict #[]}) (t':=s.toks) (fun _ _ q=>yD _ q) (yL _) (zmT s.heap I.big)
 refine wpAny_Dict_walk (knd:=zaG X.prog X.w) hall hl h0 h15 (thn (h pins _ σ _ _ I1 (q _ hn)) fun ws s2 ⟨ps,H2,I2,rel,e,kvs,ep,lk,q2⟩=>?_)
 subst ep
 obtain ⟨rs,c,rk⟩:=zgG (P:=X.prog) (w:=X.w) rel
 obtain ⟨z,hd,vs0,r0,dd⟩:=dk_of I2.hok e
 cases r0
 refine ⟨rs,c,dd,fun h' dd' hs=>⟨.ref s.heap.objs.size,_,?_,rfl,q2⟩⟩
 have hz:(zed [] kvs).length≤yK:=by
  have h1:=zeM kvs []
  rw [vD] at h1
  rw [sizeLine_eq];omega
 have he:∃ q,h'.get? s.heap.objs.size=some q:=let ⟨q,_,_,hq,_⟩:=dd';⟨q,hq⟩
 exact zgU I2 (by rw [e];exact True.intro) hs he (znA hz hd (rk.merge .nil) dd')
structure M2 (X:Cx) (o:Expr) (m:Str) (apos:Pos) (e f:Expr) (cpos:Pos):Prop where
 base:attributeBase o m X.env (eval o X.env)=eval o X.env
 few:((backTo cpos (starEach [e,f] X.env)).all (fun x=>!x.1) && (backToKw cpos (keywordEach [] X.env)).all (fun x=>x.1.isSome)
  && decide (([e,f]:List Expr).length+([]:List Keyword).length+(if ([]:List Keyword).isEmpty then 0 else 1) < 30))=true
 line:(apos.endLine==cpos.line)=true
 trees:backTo cpos (starEach [e,f] X.env)= [(false,eval e X.env),(false,eval f X.env)]
noncomputable def IsD (H:Hp) (a:Addr):Prop:=(∃ kvs,Rd H a (.dK kvs))∨∃ kvs,Rd H a (.dT kvs)
theorem isD_at {X:Cx}{pins:List (Addr×Obj)}{σ :St}{H:Hp}{s:Shared}{a:Addr}(I:Inv X pins σ H s)(d:IsD H a):
  s.TypeIs (.ref a) "dict"∧(∀ b,Value.ref a= .ref b→∃ ob,s.heap.get? b=some ob∧ob.dict=none)∧(a==sysModules)=false:=by
 rcases d with ⟨kvs,e⟩ | ⟨kvs,e⟩
 ·obtain ⟨_,hd,vs,_,dd⟩:=zj4 I.hok e
  refine ⟨dd.typeIs,fun b q=>?_,hd⟩
  cases q
  obtain ⟨ob,_,_,h1,h2,_⟩:=dd
  exact ⟨ob,h1,h2.2.1⟩
 ·obtain ⟨_,hd,xs,_,dd⟩:=zkh I.hok e
  refine ⟨dd.typeIs,fun b q=>?_,hd⟩
  cases q
  obtain ⟨ob,_,_,h1,h2,_⟩:=dd
  exact ⟨ob,h1,h2.2.1⟩
section
variable {X:Cx} {pins:List (Addr×Obj)} {σ :St} {H:Hp} {s:Shared} {a:Addr} {y d:V} {u r:Value} {o:Option V} {A:Around} {E:Value→Shared→Prop}
theorem d_get2 {Q:Value→Shared→Prop}(hu:A.units+1 < cLine)(I:Inv X pins σ H s)(g:DGet H a y o)(ry:RelV y u)(rd:RelV d r)(h:∀ w' s',Inv X pins σ H s'→RelV (o.getD d) w'→Q w' s'):
  wpAny (model X.prog X.w) A (call (.builtin "dict.get") [.ref a,u,r]) Q E s:=by
 rcases g with ⟨kvs,k,e,ey,l⟩ | ⟨kvs,k,b,e,ey,eb,l⟩
 ·subst ey
  obtain ⟨z,hd,vs,rel,dd⟩:=zj4 I.hok e
  refine call_meetsIn yam dd.typeIs ybc (ya1 _ _ _) (meets_dict_get_default (zaG X.prog X.w) a (zjU ry) hd r) ⟨_,dd.mapOf,h _ _ (I.tok _) ?_⟩
  rw [l]
  exact (rel.val k).getD rd
 ·subst ey
  cases (show u=Value.ref b from ry)
  obtain ⟨z,hd,xs,rel,dd⟩:=zkh I.hok e
  refine call_meetsIn yam dd.typeIs ybc (ya1 _ _ _) (meetsH_dict_get_default (tupleKind (zaG X.prog X.w)) a b hd r) ⟨tupleKind_room_in1 hu,k,xs,zfR I.hok eb,dd,h _ _ (I.tok _) ?_⟩
  rw [l]
  exact (rel.val k).getD rd
end
noncomputable def znE (td ty tx:TE):TE:=fun σ H Q=>td σ H fun x H1=>∃ a,x= .ref a∧IsD H1 a∧ty σ H1 fun y H2=>tx σ H2 fun z H3=>∃ o,DGet H3 a y o∧Q (o.getD z) H3
section
variable {X:Cx} {o e f:Expr} {apos cpos:Pos} {td ty tx:TE}
theorem zmm (hu:X.A.units+1 < cLine)(ho:PE X o td)(he:PE X e ty)(hf:PE X f tx)(m:M2 X o "get" apos e f cpos):PE X (.Call (.Attribute o "get" apos) [e,f] [] cpos) (znE td ty tx):=by
 intro pins s σ H Q I h
 refine wpAny_Call_method m.base m.few m.line wS yam PySem.F.type_dict_get (thn (ho pins s σ H _ I h) fun u s1 ⟨x,H1,I1,rx,a,ex,d,q1⟩=>?_)
 subst ex
 obtain rfl:u=Value.ref a:=rx
 obtain ⟨t1,t2,_⟩:=isD_at I1 d
 refine ⟨t1,t2,?_⟩
 rw [m.trees]
 refine vG rfl (ybA (kM (thn (he pins s1 σ H1 _ I1 q1) fun iv s2 ⟨y,H2,I2,ry,q2⟩=>
  kM (thn (hf pins s2 σ H2 _ I2 q2) fun fv s3 ⟨z,H3,I3,rz,ov,g,q3⟩=>yae ?_))))
 exact d_get2 hu I3 g ry rz fun w' s4 I4 rw'=>⟨_,H3,I4,rw',q3⟩
end
section
variable {X:Cx} {pins:List (Addr×Obj)} {σ :St} {H:Hp} {s:Shared} {a:Addr} {kvs:List (Key×V)} {A:Around} {E:Value→Shared→Prop}
end
section
variable {X:Cx} {pins:List (Addr×Obj)} {σ :St} {H:Hp} {s:Shared} {a:Addr} {y:V} {u:Value} {A:Around} {E:Value→Shared→Prop}
end
end L2
namespace Att
open PySem PySem.W PySem.Calls PyProof.Rows
theorem zgc {P:Params}{h:Heap}:∀ (ns:List Int) (vs:List Value),WellAll P h vs (ns.map WData.int)→IntsAre vs ns:=by
 intro ns
 induction ns with
 | nil=>
  intro vs w
  rw [yaL] at w
  cases w
  exact .nil
 | cons n ns ih=>
  intro vs w
  rw [qJ] at w
  cases w with
  | cons a b=>
   cases a
   exact .cons _ _ (ih _ b)
theorem zkL {l:OpenLaw}{n:Nat}(hn:l.most=some n){P:Params}{h:Heap}{args:List WData}{vals:List Value}
  (hpre:l.row.toRowW.claim.pre args=true) (hwl:WellAll P h vals args):
  ∃ a vs ns,vals= [Value.ref a]∧args= [WData.list (ns.map WData.int)]∧h.get? a=some {cls:=.type "list",data:=.seq vs.toArray}∧IntsAre vs ns∧ns.length≤n:=by
 have hsh:WShape.hasAll [] args [.list .int]=true:=(pre_splitW hpre).1
 have hc:l.pre.holds [] {args:=args}=true:=(pre_splitW hpre).2
 obtain ⟨d,r,rfl,h1,h2⟩:=hasAllW_cons hsh
 obtain rfl:=hasAllW_nil h2
 obtain ⟨xs,rfl,h3⟩:=hasW_list h1
 obtain ⟨ns,rfl⟩:=items_int h3
 have hlen:ns.length≤n:=by
  unfold OpenLaw.pre at hc
  have h4:(WTm.not (.lt (.lit (.int (n:Int))) (.len (.arg 0)))).holds [] {args:=[.list (ns.map .int)]}=true:=by
   have h4:=(holds_andW hc).1
   rw [hn] at h4
   exact h4
  have h5:=condW_of h4 (w_not (w_lt w_lit (w_len_list (w_arg rfl))))
  rw [yB] at h5
  refine Nat.le_of_not_lt fun q=>?_
  have q':(n:Int) < ((ns.length:Nat):Int):=by omega
  first
   | (rw [decide_eq_true q'] at h5;exact absurd h5 (by decide))
   | (simp at h5;omega)
 cases hwl with
 | cons w1 w2=>
  cases w2
  cases w1 with
  | list ho hall=>exact ⟨_,_,ns,rfl,rfl,ho,zgc ns _ hall,hlen⟩
theorem zlT (l:OpenLaw)(args:List WData):l.row.toRowW.claim.post args (.bool true) args=true:=
 postW_of (r:=l.row.toRowW) (X:=(true==true))
  (show WShape.has [] (.bool true) .bool=true by first | rfl | decide | simp [WShape.has,WShape.arms,WShape.armsAll])
  (show (WTm.eq .res (.lit (.bool true))).value [] {args:=args,res:=some (.bool true),after:=args}=some (.bool (true==true)) from w_eq_bool (w_res rfl) w_lit) rfl
theorem attach_call {l:OpenLaw}{n:Nat}{q:Program}{loose:List Str}{XP:(Str→Option Value)→Heap→Prop}{YP:World→Heap→Prop}{d:DefRec}
  (hn:l.most=some n) (hdf:d.params.defaults= [])
  (call:∀ (w:World) (s₀ s₁ :Shared) (mg mb:Str→Option Value) (fa:Addr) (o:Obj) (pm cd doc:Value) (a:Addr) (vs:List Value) (ns:List Int),
   Ground q loose [] XP w s₀ mg mb s₁.heap→YP w s₁.heap→
   s₁.heap.get? fa=some o→o.data= .func (docDef d.name d.params d.body d.scope pm cd doc)→s₁.heap.CodeRec cd d.name→mg d.name=some (.ref fa)→
   s₁.heap.get? a=some {cls:=.type "list",data:=.seq vs.toArray}→IntsAre vs ns→ns.length≤n→s₁.gens= #[]→
   codeAny (model l.prog w) callerA (.call (.ref fa) ⟨[.ref a],[]⟩) (fun r s'=>r= .ok (.ret (.bool true))∧OldK s₁.heap s'.heap∧s'.os=s₁.os∧AllBare s'.gens) s₁):
  WalkO q loose XP YP l.row.toRowW d [] (fun f vs=>ych f vs):=by
 intro w s₀ s₁ mg mb G Y fa o pm cd doc dV kV ho hd hcd hD hmg hg args vals as hpre hlay hrd hwl hlo
 obtain rfl:dV= .none:=Dflts.none hD hdf
 obtain rfl:kV= .none:=Dflts.noKw hD
 obtain ⟨a,vs,ns,rfl,rfl,hobj,hints,hlen⟩:=zkL hn hpre hwl
 refine enter_call (codeAny_mono (call w s₀ s₁ mg mb fa o pm cd doc a vs ns G Y ho (fd_plain hd) hcd hmg hobj hints hlen hg) fun r s' hq=>?_)
 obtain ⟨rfl,h2,h3,h4⟩:=hq
 exact ⟨.inl ⟨.bool true,.bool true,[],rfl,fun _=>rfl,.bool true,zlT l _,fun _=>⟨ybQ.nil,fun _ hm=>(nomatch hm)⟩⟩,h2,h3,h4⟩
section
variable {prog:Program} {w:World} {A:Around} {E:Value→Shared→Prop} {s:Shared} {K:Frag}
end
end Att
namespace L2
open PySem PySem.Spec PyProof.Rows
theorem zfX:∀ {vs:List Value} {ns:List Int},IntsAre vs ns→Vals (ns.map V.int) vs
 | _,_,.nil=>.nil
 | _,_,.cons n t h=>.cons ⟨t,rfl⟩ (zfX h)
noncomputable abbrev CX0:CXT:=fun _ _ _ _ _ _=>False
noncomputable abbrev E0:XK:=fun _ _ _=>False
theorem zaK {X:Cx}:zjd CX0 X E0:=fun _ _ _ _ _ _ _ h=>h.elim
structure Fun (K:PySem.W.Frag) (x qual:Str) (st:Stmt) (f:Addr) (fd:FuncData):Prop where
 ex:∃ (oc:Value) (od:Option Addr) (kV doc pm:Value) (an:Option Addr) (cdv ct:Value) (osl:Array (Option Value)),
  fd=PySem.W.fnOf x qual (zbV st) (zbs st) (zak st) .none kV doc pm an cdv ct∧K.lookup f=some ⟨oc,od,.func fd,osl⟩∧PySem.W.codeIn K cdv qual=true
 kp:PySem.W.keepIn K (.ref f)=true
section
variable {P:Program} {w:World} {K:PySem.W.Frag} {mg:Str→Option Value} {base:Heap}
theorem Fun.ok {x qual:Str}{st:Stmt}{f:Addr}{fd:FuncData}{N ps:List Str}{k:Nat}{sp:Sp}(F:Fun K x qual st f fd)(S:zaw N ps (zak st))(len:∀ vs H Q E,sp vs H Q E→vs.length=ps.length)
  (hbody:∀ (cdv:Value) (A:Around) (outer:List Env) (s:Shared) (H:Hp) (vs:List V) (Q:VK) (E:XK),Room k (A.deeper (envOfC qual (zak st) s.heap.objs.size f cdv))→sp vs H Q E→
   ∃ t,PSs (cxOf CX0 P w K mg base N qual (zak st) f cdv A outer s H E).nox (zbs st) t∧t {nx:=fun _ H'=>Q .non H',rt:=Q} (start N vs) H):FnOk P w K mg base CX0 (k+1) f fd ps sp:=by
 obtain ⟨oc,od,kV,doc,pm,an,cdv,ct,osl,rfl,lk,hcd⟩:=F.ex
 refine znG lk hcd S len fun A outer s H vs Q E hr hsp=>?_
 obtain ⟨t,h,q⟩:=hbody cdv A outer s H vs Q E hr hsp
 exact ⟨t,h.nox,q⟩
theorem Fun.binds {x qual:Str}{st:Stmt}{f:Addr}{fd:FuncData}{ps:List Str}(F:Fun K x qual st f fd)
  (h:∀ (kV doc pm:Value) (an:Option Addr) (cdv ct:Value) (us:List Value),us.length=ps.length→bindArgs (PySem.W.fnOf x qual (zbV st) (zbs st) (zak st) .none kV doc pm an cdv ct) ⟨us,[]⟩=pure (ps.zip us)):zgp K fd ps []:=by
 obtain ⟨oc,od,kV,doc,pm,an,cdv,ct,osl,rfl,lk,hcd⟩:=F.ex
 exact .all (h kV doc pm an cdv ct)
theorem zkB {x qual:Str}{st:Stmt}{f:Addr}{oc:Value}{od an:Option Addr}{osl:Array (Option Value)}{kV doc pm cdv ct:Value}(l:K.lookup f=some ⟨oc,od,.func (PySem.W.fnOf x qual (zbV st) (zbs st) (zak st) .none kV doc pm an cdv ct),osl⟩)
  (c:PySem.W.codeIn K cdv qual=true) (k:PySem.W.keepIn K (.ref f)=true):Fun K x qual st f (PySem.W.fnOf x qual (zbV st) (zbs st) (zak st) .none kV doc pm an cdv ct):=⟨⟨oc,od,kV,doc,pm,an,cdv,ct,osl,rfl,l,c⟩,k⟩
end
theorem zgo {A:Around}{k:Nat}(hr:Room k A):A.units+1 < cLine:=ybR (Nat.add_le_add_left (by decide: 1≤64) _) hr.units
section
variable {X:Cx}
end
theorem iteF {A B:Prop}(h:B):if false=true then A else B:=by
 rw [if_neg yQ]
 exact h
theorem iteT {A B:Prop}(h:A):if true=true then A else B:=by
 rw [if_pos rfl]
 exact h
theorem ite2 {c A B:Prop}[Decidable c](h1:c→A)(h2:¬c→B):if c then A else B:=by
 by_cases h:c
 ·rw [if_pos h]
  exact h1 h
 ·rw [if_neg h]
  exact h2 h
theorem iteNS {c A B:Prop}[Decidable c](hc:c)(h:B):if (!decide c)=true then A else B:=by
 rw [decide_eq_true hc]
 exact iteF h
noncomputable def Same (H H':Hp):Prop:=∀ b o,H b=some o→H' b=some o
theorem Same.refl (H:Hp):Same H H:=fun _ _ h=>h
theorem Same.trans {H H1 H2:Hp}(a:Same H H1)(b:Same H1 H2):Same H H2:=fun c o h=>b c o (a c o h)
theorem Same.free {H H':Hp}(e:Same H H'){l:Addr}(h:H' l=Option.none):H l=Option.none:=by
 cases q:H l with
 | none=>rfl
 | some o=>
  rw [e l o q] at h
  cases h
theorem Same.seq {K:PySem.W.Frag}{H H':Hp}{a:Addr}{xs:List V}(e:Same H H')(h:SqL K H a xs):SqL K H' a xs:=by
 rcases h with (h | ⟨o,h⟩) | h
 ·exact .inl (.inl (e _ _ h))
 ·exact .inl (.inr ⟨o,e _ _ h⟩)
 ·exact .inr h
section
variable {X:Cx}
end
section
variable {κ :Type} [DecidableEq κ]
end
end L2
set_option maxHeartbeats 4000000
namespace L2
open PySem PySem.Spec PyProof.Rows
theorem zhl {prog:Program}{w:World}{A:Around}{R:Result→Shared→Prop}{s:Shared}
  {elt tg iter:Expr} {ifs:List Expr} {scope:Scope} {pos:Pos} {it acc:Value} {env:Env}
  (I:Nat→Shared→Prop)
  (turn:∀ n s,I n s→wpAny (model prog w) A (pyNext it)
   (fun r s1=>match r with
    | none=>R (.ok .next) s1
    | some v=>wpAny (model prog w) A (letOwnedTupleGo tg it v) (fun _ s2=>
      wpAny (model prog w) A (assign tg env v) (fun _ s3=>
      wpAny (model prog w) A
       (forIn ifs true fun c r=>if r=true then do
         let ok ← isTrue c env (eval c env)
         pure (ForInStep.yield ok)
        else pure (ForInStep.yield r))
       (fun ok s4=>if ok=true then
         wpAny (model prog w) A (eval elt env) (fun x s5=>
          wpAny (model prog w) A (call (.builtin "list.append") [acc,x])
           (fun _ s6=>∃ m,m < n∧I m s6) (fun _ _=>False) s5) (fun _ _=>False) s4
        else ∃ m,m < n∧I m s4) (fun _ _=>False) s3) (fun _ _=>False) s2)
      (fun _ _=>False) s1)
   (fun _ _=>False) s)
  (n:Nat) (h:I n s):
  codeAny (model prog w) A (.compLoop (.ListComp elt [⟨tg,iter,ifs,0⟩] scope pos) 0 it acc env) R s:=by
 refine codeAny_loop rfl I (fun n s hI=>?_) n h
 show wpAny _ A ((compTurn _ 0 it acc env).onRaise (fun x=>do noteFrame x env;theTreesLotGoes x)) _ _ s
 refine wpAny_noted (E:=fun e s'=>R (.error e) s') ?_
 rw [compTurn_list]
 refine yA (wpAny_standAt (yA (wpAny_mono (turn n s hI) (fun r s1 h1=>?_) fun _ _ z=>z.elim)))
 cases r with
 | none=>exact yC h1
 | some v=>
  refine yA (wpAny_mono h1 (fun _ s2 h2=>yA (wpAny_mono h2 (fun _ s3 h3=>
   yA (wpAny_mono h3 (fun ok s4 h4=>?_) fun _ _ z=>z.elim)) fun _ _ z=>z.elim)) fun _ _ z=>z.elim)
  cases ok with
  | false=>exact yC ⟨rfl,h4⟩
  | true=>
   exact yA (yA (wpAny_mono h4 (fun x s5 h5=>yA (wpAny_mono h5
    (fun _ s6 h6=>yC (yC ⟨rfl,h6⟩)) fun _ _ z=>z.elim)) fun _ _ z=>z.elim))
theorem zeS {scope:Scope}{env:Env}(h:∀ y∈scope.names,y.2= .free→∃ c,env.cells.lookup y.1=some c):
  ∃ cl,closureFor scope env=pure cl∧(∀ x c,cl.lookup x=some c→env.cells.lookup x=some c)∧
   ∀ y∈scope.names,y.2= .free→∃ c,cl.lookup y.1=some c:=by
 have all:∀ (ns:List (Str×NameKind)),(∀ y∈ns,y.2= .free→∃ c,env.cells.lookup y.1=some c)→∀ cl0:List (Str×Addr),
   (∀ x c,cl0.lookup x=some c→env.cells.lookup x=some c)→
   ∃ cl,(forIn ns cl0 fun (x:Str×NameKind) (r:List (Str×Addr))=>
     (if (x.2==NameKind.free)=true then do
      let a ← cellOf env x.1
      pure (ForInStep.yield ((x.1,a)::r))
     else pure (ForInStep.yield r):Sem _))=pure cl∧(∀ x c,cl.lookup x=some c→env.cells.lookup x=some c)∧
    (∀ x c,cl0.lookup x=some c→∃ c,cl.lookup x=some c)∧∀ y∈ns,y.2= .free→∃ c,cl.lookup y.1=some c:=by
  intro ns
  induction ns with
  | nil=>exact fun _ cl0 h0=>⟨cl0,rfl,h0,fun x c e=>⟨c,e⟩,fun y hy=>nomatch hy⟩
  | cons y r ih=>
   intro hy cl0 h0
   by_cases hk:y.2= .free
   ·obtain ⟨c,hc⟩:=hy y (.head _) hk
    have h1:∀ x d,((y.1,c)::cl0).lookup x=some d→env.cells.lookup x=some d:=fun x d e=>by
     rw [jT] at e
     cases q:x==y.1 with
     | true=>
      rw [q] at e
      have:x=y.1:=eq_of_beq q
      subst this
      exact (qF e) ▸ hc
     | false=>
      rw [q] at e
      exact h0 x d e
    obtain ⟨cl,e,a,b,d⟩:=ih (fun z hz=>hy z (.tail _ hz)) ((y.1,c)::cl0) h1
    have keep:∀ x d,cl0.lookup x=some d→∃ d,cl.lookup x=some d:=fun x d e=>by
     cases q:x==y.1 with
     | true=>exact b x c (by rw [jT,q])
     | false=>exact b x d (by rw [jT,q];exact e)
    refine ⟨cl,?_,a,keep,fun z hz hf=>?_⟩
    ·rw [ybl]
     have:(y.2==NameKind.free)=true:=by rw [hk];rfl
     rw [if_pos this]
     have ec:cellOf env y.1=pure c:=by unfold cellOf;rw [hc]
     rw [ec]
     exact e
    ·rcases yY.mp hz with rfl | hz
     ·exact b z.1 c (by rw [jT,beq_self_eq_true])
     ·exact d z hz hf
   ·obtain ⟨cl,e,a,b,d⟩:=ih (fun z hz=>hy z (.tail _ hz)) cl0 h0
    refine ⟨cl,?_,a,b,fun z hz hf=>?_⟩
    ·rw [ybl]
     have:¬(y.2==NameKind.free)=true:=by simpa using hk
     rw [if_neg this]
     exact e
    ·rcases yY.mp hz with rfl | hz
     ·exact absurd hf hk
     ·exact d z hz hf
 obtain ⟨cl,e,a,_,d⟩:=all scope.names h [] (fun x c e=>by simp at e)
 exact ⟨cl,congrArg (fun (m:Sem (List (Str×Addr)))=>m >>=fun cs=>pure cs) e,a,d⟩
theorem zfc {scope:Scope}{env:Env}{x:Str}(hc:∀ y∈scope.names,y.2≠.cell)
  (h:(relabel scope env).names.lookup x=some .cell∨(relabel scope env).names.lookup x=some .free):∃ y∈scope.names,y.1=x∧y.2= .free:=by
 have all:∀ ns:List (Str×NameKind),(∀ y∈ns,y.2≠.cell)→∀ k,(k=NameKind.cell∨k=NameKind.free)→
   (ns.map fun (n,k)=>if (k== .free && env.scope.kind== .function && env.kindOf n==some .cell) then (n,.cell) else (n,k)).lookup x=some k→∃ y∈ns,y.1=x∧y.2= .free:=by
  intro ns
  induction ns with
  | nil=>intro _ k _ e;simp at e
  | cons y r ih=>
   intro hn k hk e
   obtain ⟨n,j⟩:=y
   rw [qJ,jT] at e
   have step:(∃ z∈r,z.1=x∧z.2= .free)→∃ z∈(n,j)::r,z.1=x∧z.2= .free:=fun ⟨z,hz,q⟩=>⟨z,.tail _ hz,q⟩
   by_cases hcc:(j==NameKind.free && env.scope.kind== .function && env.kindOf n==some .cell)=true
   ·have hj:j= .free:=by
     simp only [yW,beq_iff_eq] at hcc
     exact hcc.1.1
    simp only [hcc,if_true] at e
    cases q:x==n with
    | true=>exact ⟨(n,j),.head _,(eq_of_beq q).symm,hj⟩
    | false=>
     rw [q] at e
     exact step (ih (fun z hz=>hn z (.tail _ hz)) k hk e)
   ·simp only [hcc,if_false,jN] at e
    cases q:x==n with
    | true=>
     rw [q] at e
     have ej:j=k:=qF e
     refine ⟨(n,j),.head _,(eq_of_beq q).symm,?_⟩
     rcases hk with hk | hk
     ·exact absurd (ej.trans hk) (hn (n,j) (.head _))
     ·exact ej.trans hk
    | false=>
     rw [q] at e
     exact step (ih (fun z hz=>hn z (.tail _ hz)) k hk e)
 rcases h with h | h
 ·exact all scope.names hc _ (.inl rfl) h
 ·exact all scope.names hc _ (.inr rfl) h
noncomputable def zbp (X:Cx) (N:List Str) (scope:Scope) (cl:List (Str×Addr)) (fp:List Addr) (s:Shared) (H:Hp):Cx where
 prog:=X.prog
 w:=X.w
 K:=X.K
 mg:=X.mg
 base:=X.base
 A:=X.A
 N:=N
 s₀ :=s
 H₀ :=H
 env:=compEnvC scope cl s.heap.objs.size X.env
 outer:=X.stack
 stack:=X.stack
 ex:=fp
 fn:=fun _=>false
 calm:=X.calm
 pn:=[]
 xe:=fun _ _=>False
noncomputable def zbt (n:Nat) (cap:List Nat) (σ :St):St:=kK n none++cap.map fun j=>(σ[j]?).join
noncomputable def PTs (X:Cx) (ifs:List Expr) (t:TT):Prop:=
 ∀ (pins:List (Addr×Obj)) (s:Shared) (σ :St) (H:Hp) (Q:Bool→Hp→Prop),Inv X pins σ H s→t σ H Q→
  wpAny (model X.prog X.w) X.A (forIn ifs true fun c r=>if r=true then do
    let ok ← isTrue c X.env (eval c X.env)
    pure (ForInStep.yield ok)
   else pure (ForInStep.yield r)) (TP X pins σ Q) X.xe s
noncomputable def tYes:TT:=fun _ H Q=>Q true H
theorem zoj {X:Cx}:PTs X [] tYes:=fun _ _ _ H _ I h=>wpAny_tests_nil ⟨H,I,h⟩
theorem znM {X:Cx}{c:Expr}{t:TT}(h:PT X c t):PTs X [c] t:=fun pins s σ H Q I hw=>wpAny_tests_one (h pins s σ H Q I hw)
noncomputable def zc2 (J:It) (D:Addr) (n:Nat) (cap:List Nat) (σ :St) (g:TG) (tt:TT) (te:TE) (Q:VK) (H1:Hp):Prop:=
 ∃ W:Nat→Nat→Hp→Prop,(∃ m,W 0 m (upd H1 D (.lst [])))∧∀ i m H,W i m H→
  (J.stop i H∧Q (.ref D) H)∨(J.go i H∧∃ N:Hp→Prop,(∀ H',N H'→∃ m',m' < m∧W (i+1) m' H')∧∀ x H',J.yld i H x H'→g x (zbt n cap σ) H' fun σ2 H2=>
   tt σ2 H2 fun b H3=>if b=true then te σ2 H3 fun y H4=>∃ xs,H4 D=some (.lst xs)∧xs.length < yK∧N (upd H4 D (.lst (xs++ [y])))
    else N H3)
noncomputable def zmw (n:Nat) (cap:List Nat) (wi:TI) (g:TG) (tt:TT) (te:TE):TE:=fun σ H Q=>wi σ H fun J H1=>∀ D,H1 D=none→zc2 J D n cap σ g tt te Q H1
section
variable {X:Cx} {elt tg iter:Expr} {ifs:List Expr} {scope:Scope} {pos:Pos} {N:List Str} {n:Nat} {cap:List Nat} {wi:TI} {g:TG} {tt:TT} {te:TE}
structure Blk (X:Cx) (scope:Scope) (N:List Str) (n:Nat) (cap:List Nat):Prop where
 kind:scope.kind= .function
 cell:∀ y∈scope.names,y.2≠.cell
 names:∀ y∈scope.names,y.2= .local→scope.names.lookup y.1=some .local
 free:∀ y∈scope.names,y.2= .free→X.env.kindOf y.1=some .cell∨X.env.kindOf y.1=some .free
 len:N.length=n+cap.length
 caps:∀ (i j:Nat) (x:Str),cap[i]? =some j→N[n+i]? =some x→X.N[j]? =some x∧(scope.names.lookup x=some .free)
end
noncomputable def blkOk (names:List (Str×NameKind)) (N:List Str) (n:Nat) (cap:List Nat) (No:List Str) (so:List (Str×NameKind)):Bool:=
 names.all (fun y=>y.2 != .cell) && names.all (fun y=>y.2 != .local || names.lookup y.1==some .local) &&
 names.all (fun y=>y.2 != .free || (so.lookup y.1==some .cell || so.lookup y.1==some .free)) && (N.length==n+cap.length) &&
 (qI cap.length).all fun i=>match cap[i]?,N[n+i]? with
  | some j,some x=>No[j]? ==some x && names.lookup x==some .free
  | _,_=>true
theorem za5 {X:Cx}{scope:Scope}{N:List Str}{n:Nat}{cap:List Nat}(hk:scope.kind= .function)(h:blkOk scope.names N n cap X.N X.env.scope.names=true):Blk X scope N n cap:=by
 unfold blkOk at h
 simp only [yW,yZ] at h
 obtain ⟨⟨⟨⟨h1,h2⟩,h3⟩,h4⟩,h5⟩:=h
 refine ⟨hk,fun y hy z=>?_,fun y hy z=>?_,fun y hy z=>?_,by simpa using h4,fun i j x e1 e2=>?_⟩
 ·have:=h1 y hy
  rw [z] at this
  cases this
 ·have:=h2 y hy
  rw [z] at this
  simpa using this
 ·have:=h3 y hy
  rw [z] at this
  show X.env.scope.names.lookup y.1=some .cell∨X.env.scope.names.lookup y.1=some .free
  simpa using this
 ·have hi:i < cap.length:=(yE.mp e1).1
  have:=h5 i (qN.mpr hi)
  rw [e1,e2] at this
  simpa using this
theorem zks {n:Nat}{cap:List Nat}{σ :St}{i:Nat}{v:V}(h:(zbt n cap σ)[i]? =some (some v)):
  ∃ k j,i=n+k∧cap[k]? =some j∧σ[j]? =some (some v):=by
 unfold zbt at h
 by_cases hi:i < n
 ·rw [jG (by simpa using hi),yaZ,if_pos hi] at h
  cases h
 ·rw [jJ (by simpa using Nat.not_lt.mp hi)] at h
  simp only [ybk,yJ] at h
  cases e:cap[i - n]? with
  | none=>rw [e] at h;cases h
  | some j=>
   rw [e] at h
   have h':(σ[j]?).join=some v:=qF h
   refine ⟨i - n,j,by omega,e,?_⟩
   cases q: σ[j]? with
   | none=>rw [q] at h';cases h'
   | some o=>
    rw [q] at h'
    exact congrArg some h'
theorem zfh {scope:Scope}{env:Env}{x:Str}(h:scope.names.lookup x=some .free):
  (relabel scope env).names.lookup x=some .cell∨(relabel scope env).names.lookup x=some .free:=by
 have all:∀ ns:List (Str×NameKind),ns.lookup x=some .free→
   (ns.map fun (n,k)=>if (k== .free && env.scope.kind== .function && env.kindOf n==some .cell) then (n,NameKind.cell) else (n,k)).lookup x=some .cell∨
   (ns.map fun (n,k)=>if (k== .free && env.scope.kind== .function && env.kindOf n==some .cell) then (n,NameKind.cell) else (n,k)).lookup x=some .free:=by
  intro ns
  induction ns with
  | nil=>intro e;simp at e
  | cons y r ih=>
   intro e
   obtain ⟨m,j⟩:=y
   rw [jT] at e
   rw [qJ,jT]
   cases q:x==m with
   | true=>
    rw [q] at e
    have ej:j= .free:=qF e
    subst ej
    by_cases hcc:(NameKind.free==NameKind.free && env.scope.kind== .function && env.kindOf m==some .cell)=true
    ·simp only [hcc,if_true,q,true_or]
    ·simp only [hcc,if_false,jN,q,or_true]
   | false=>
    rw [q] at e
    have h1:=ih e
    by_cases hcc:(j==NameKind.free && env.scope.kind== .function && env.kindOf m==some .cell)=true
    ·simp only [hcc,if_true,q]
     exact h1
    ·simp only [hcc,if_false,jN,q]
     exact h1
 exact all scope.names h
theorem zoP {X:Cx}{pins:List (Addr×Obj)}{σ :St}{H:Hp}{s:Shared}{N:List Str}{scope:Scope}{n:Nat}{cap:List Nat}{cl:List (Str×Addr)}{fp:List Addr}
  (I:Inv X pins σ H s) (B:Blk X scope N n cap) (c1:∀ x c,cl.lookup x=some c→X.env.cells.lookup x=some c)
  (c2:∀ y∈scope.names,y.2= .free→∃ c,cl.lookup y.1=some c) (hf:∀ b∈fp,FpOk X pins H b) (hfl:∀ b∈fp,b < s.heap.objs.size):(zbp X N scope cl fp s H).Ok where
 mod:=I.ok.mod
 kind:=by show (relabel scope X.env).kind=_;exact B.kind
 glob:=I.ok.glob
 blt:=I.ok.blt
 above:=yL _
 inj:=fun x y c e1 e2=>I.ok.inj x y c (c1 x c e1) (c1 y c e2)
 has:=fun x h=>by
  obtain ⟨y,hy,e,k⟩:=zfc B.cell h
  obtain ⟨c,hc⟩:=c2 y hy k
  exact ⟨c,e ▸ hc⟩
 cab:=fun x c h=>nomatch h
 hd:=I.ok.hd
 frames:=I.ok.frames
 stk:=.inl rfl
 exf:=fun b hb=>⟨qA (hfl b hb),fun x c e=>(hf b hb).2.2.2.2.1 x c (c1 x c e)⟩
 bs:=I.bs
 bsz:=jY I.ok.bsz I.sz
 noex:=fun b o e hb=>by
  rcases (hf b hb).2.2.2.1 with z | z
  ·exact I.ok.noex b o e z
  ·exact absurd (qB (yS e) (jY I.ok.bsz z)) (vJ _)
 exfs:=fun b hb z=>by
  rcases yY.mp (I.stkSub b z) with e | e
  ·exact (hf b hb).2.1 e
  ·exact (hf b hb).2.2.1 e
 funs:=I.stack
 frf:=I.stkFree
theorem zjT {X:Cx}{pins:List (Addr×Obj)}{σ :St}{H:Hp}{s:Shared}{h1:Heap}{t1:Nat}{N:List Str}{scope:Scope}{n:Nat}{cap:List Nat}{cl:List (Str×Addr)}{fp:List Addr}{m:Str→Option Value}
  (I:Inv X pins σ H s) (B:Blk X scope N n cap) (c1:∀ x c,cl.lookup x=some c→X.env.cells.lookup x=some c)
  (c2:∀ y∈scope.names,y.2= .free→∃ c,cl.lookup y.1=some c) (hf:∀ b∈fp,FpOk X pins H b) (hfl:∀ b∈fp,b < s.heap.objs.size)
  (hn:h1.Ns s.heap.objs.size m) (k:∀ b o,s.heap.get? b=some o→h1.get? b=some o):
  Inv (zbp X N scope cl fp s H) [] (zbt n cap σ) H {s with heap:=h1,toks:=t1} where
 ok:=zoP I B c1 c2 hf hfl
 os:=rfl
 bare:=I.bare
 base:=Un.kept k
 loc:=by
  refine ⟨m,hn,fun i x v e1 e2 e3=>?_⟩
  obtain ⟨k',j,rfl,ec,es⟩:=zks e2
  obtain ⟨ex,ef⟩:=B.caps k' j x ec e1
  have hy:∃ y∈scope.names,y.1=x∧y.2= .free:=zfc (env:=X.env) B.cell (zfh ef)
  obtain ⟨y,hy,ey,ky⟩:=hy
  have kx:X.env.kindOf x=some .cell∨X.env.kindOf x=some .free:=ey ▸ B.free y hy ky
  obtain ⟨m0,_,hl⟩:=I.loc
  have vis:Vis X.env.scope x:=.inr kx
  obtain ⟨u,r,l⟩:=hl j x v ex es vis
  refine ⟨u,r,.inr ⟨zfh ef,?_⟩⟩
  rcases l with ⟨kl,_⟩ | ⟨_,c,hc,ho⟩
  ·rcases kx with q | q <;> (rw [kl] at q;cases q)
  ·obtain ⟨c',hc'⟩:=c2 y hy ky
   rw [ey] at hc'
   have:=c1 x c' hc'
   rw [hc] at this
   cases this
   obtain ⟨o,eo,d⟩:=ho
   exact ⟨c,hc',o,k c o eo,d⟩
 cell:=fun x c e=>by
  obtain ⟨v,o,eo,d⟩:=I.cell x c (c1 x c e)
  exact ⟨v,o,k c o eo,d⟩
 free:=I.hok.fresh (yL _)
 freeC:=fun x c e=>I.freeC x c (c1 x c e)
 pin:=fun p hp=>nomatch hp
 hok:=I.hok.kept k
 len:=by show (zbt n cap σ).length=N.length;rw [B.len];unfold zbt;simp
theorem zmy {X:Cx}{pins:List (Addr×Obj)}{σ σ':St}{H H':Hp}{s s':Shared}{N:List Str}{scope:Scope}{cl:List (Str×Addr)}{fp:List Addr}{pl:List (Addr×Obj)}
  (I:Inv X pins σ H s) (I':Inv (zbp X N scope cl fp s H) pl σ' H' s') (hf:∀ b∈fp,FpOk X pins H b):
  Inv X pins σ H' s'∧FpOk X pins H' s.heap.objs.size∧∃ m,s'.heap.Ns s.heap.objs.size m:=by
 obtain ⟨m,hn,_⟩:=I'.loc
 have u:Un (frs X.stack) fp H H' s.heap s'.heap:=I'.base
 have J:Inv X pins σ H' s':=I.call' (ch:=fp) I'.os u I'.hok I'.bare fun b hb=>by
  obtain ⟨_,a1,_,a3,a4,a5⟩:=hf b hb
  exact ⟨a3,a1,a4,a5⟩
 exact ⟨J,I.fpOk (yL _) I'.free,m,hn⟩
noncomputable def ziA (n:Nat) (g:TG):Prop:=∀ x σ H Q,g x σ H Q→g x σ H fun σ2 H2=>Q σ2 H2∧σ2.length= σ.length∧∀ z,n≤z→σ2[z]? = σ[z]?
noncomputable def zkw (n:Nat) (g:TGs):Prop:=∀ xs σ H Q,g xs σ H Q→g xs σ H fun σ2 H2=>Q σ2 H2∧σ2.length= σ.length∧∀ z,n≤z→σ2[z]? = σ[z]?
theorem zaz {n i:Nat}(h:i < n):ziA n (zeW i):=fun x σ H Q q=>⟨q,by simp,fun z hz=>by rw [vQ (by omega)]⟩
theorem zmY {n:Nat}:zkw n gNil:=fun xs σ H Q q=>⟨q.1,q.2,rfl,fun _ _=>rfl⟩
theorem zhR {n i:Nat}{u:TGs}(h:i < n)(hu:zkw n u)(hm:∀ xs σ H (Q Q':St→Hp→Prop),u xs σ H Q→(∀ a b,Q a b→Q' a b)→u xs σ H Q'):zkw n (zik (zeW i) u):=fun xs σ H Q q=>by
 obtain ⟨v,r,e,q⟩:=q
 refine ⟨v,r,e,hm r _ H _ _ (hu r _ H _ q) fun σ2 H2 ⟨p,l,k⟩=>⟨p,by rw [l];simp,fun z hz=>?_⟩⟩
 rw [k z hz,vQ (by omega)]
theorem zjo:∀ xs σ H (Q Q':St→Hp→Prop),gNil xs σ H Q→(∀ a b,Q a b→Q' a b)→gNil xs σ H Q':=fun xs σ H Q Q' q m=>⟨q.1,m _ _ q.2⟩
theorem zlP {i:Nat}{u:TGs}(hm:∀ xs σ H (Q Q':St→Hp→Prop),u xs σ H Q→(∀ a b,Q a b→Q' a b)→u xs σ H Q'):
  ∀ xs σ H (Q Q':St→Hp→Prop),zik (zeW i) u xs σ H Q→(∀ a b,Q a b→Q' a b)→zik (zeW i) u xs σ H Q':=fun xs σ H Q Q' ⟨v,r,e,q⟩ m=>⟨v,r,e,hm r _ H _ _ q m⟩
theorem zet {K:PySem.W.Frag}{n m i j:Nat}(hi:i < n)(hj:j < n):ziA n (gTup K m (zik (zeW i) (zik (zeW j) gNil))):=fun x σ H Q q=>by
 obtain ⟨a,xs,e,hq,hl,q⟩:=q
 exact ⟨a,xs,e,hq,hl,zhR hi (zhR hj zmY zjo) (zlP zjo) xs σ H Q q⟩
theorem zhF {X:Cx}{elt tg iter:Expr}{ifs:List Expr}{scope:Scope}{pos:Pos}{N:List Str}{n:Nat}{cap:List Nat}{g:TG}{tt:TT}{te:TE}
  {cl:List (Str×Addr)} {RR:Value→Addr→Result→Shared→Prop} {E:Value→Shared→Prop}
  (hc:X.calm=true) (B:Blk X scope N n cap) (c1:∀ x c,cl.lookup x=some c→X.env.cells.lookup x=some c) (c2:∀ y∈scope.names,y.2= .free→∃ c,cl.lookup y.1=some c)
  (hk:ziA n g) (hg:∀ cl fp s H,PG (zbp X N scope cl fp s H) tg g) (ht:∀ cl fp s H,PTs (zbp X N scope cl fp s H) ifs tt) (he:∀ cl fp s H,PE (zbp X N scope cl fp s H) elt te)
  {pins:List (Addr×Obj)} {σ :St} {Q:VK} {itv:Value} {s2:Shared}
  (h:PIE X pins σ tg (fun J H1=>∀ D,H1 D=none→zc2 J D n cap σ g tt te Q H1) itv s2)
  (hRR:∀ (D C:Addr) (H':Hp) (s':Shared) (m:Str→Option Value),Inv X pins σ H' s'→FpOk X pins H' C→s'.heap.Ns C m→Q (.ref D) H'→RR (.ref D) C (.ok .next) s'):
  wpAny (model X.prog X.w) X.A (newList []) (fun acc s3=>
   wpAny (model X.prog X.w) X.A (newFunctionEnv scope X.env.globals cl [] X.env.qual none .none (some X.env)) (fun cenv s4=>
    codeAny (model X.prog X.w) X.A (.compStart (.ListComp elt [⟨tg,iter,ifs,0⟩] scope pos) 0 itv acc {cenv with scope:=relabel scope X.env})
     (RR acc cenv.locals) s4) E s3) E s2:=by
 obtain ⟨it,fp,tn,J,H2,e,I2,T,st2,f2,q2⟩:=h
 subst e
 refine wpAny_newObj_type ?_ (by show 0≤yK;decide)
 have hD:H2 s2.heap.objs.size=none:=I2.hok.fresh (yL _)
 obtain ⟨W,⟨m0,w0⟩,turn⟩:=q2 _ hD
 have I3:Inv X pins σ (upd H2 s2.heap.objs.size (.lst [])) {s2 with heap:=s2.heap.push {cls:=.type "list",data:=.seq ([]:List Value).toArray},toks:=s2.toks}:=
  I2.lnew .nil (by show 0≤yK;decide)
 have st3:tn 0 (s2.heap.push {cls:=.type "list",data:=.seq ([]:List Value).toArray}):=T.keep _ _ _ st2 fun b _ o e=>yD _ e
 have obj2:=T.obj _ _ st2
 have fD:∀ b∈fp,b≠s2.heap.objs.size:=fun b hb=>by
  obtain ⟨o,eo,_⟩:=obj2 b hb
  exact qA (yS eo)
 have f3:∀ b∈fp,FpOk X pins (upd H2 s2.heap.objs.size (.lst [])) b:=fun b hb=>⟨by rw [zah (fD b hb)];exact (f2 b hb).1,(f2 b hb).2⟩
 have go3:∀ (s3:Shared) (H3:Hp),Inv X pins σ H3 s3→tn 0 s3.heap→(∀ b∈fp,FpOk X pins H3 b)→W 0 m0 H3→
   wpAny (model X.prog X.w) X.A (newFunctionEnv scope X.env.globals cl [] X.env.qual none .none (some X.env)) (fun cenv s4=>
    codeAny (model X.prog X.w) X.A (.compStart (.ListComp elt [⟨tg,iter,ifs,0⟩] scope pos) 0 (.ref it) (.ref s2.heap.objs.size) {cenv with scope:=relabel scope X.env})
     (RR (.ref s2.heap.objs.size) cenv.locals) s4) E s3:=by
  intro s3 H3 I3 st3 f3 w0
  refine wpAny_newFunctionEnv B.cell (fun y hy=>nomatch hy) (fun h4 n4 sb4=>?_) B.kind
  have k4:∀ b o,s3.heap.get? b=some o→h4.get? b=some o:=fun b o e=>sb4.extBut b o (qA (yS e)) (yD _ e)
  have fl3:∀ b∈fp,b < s3.heap.objs.size:=fun b hb=>by
   obtain ⟨o,eo,_⟩:=T.obj _ _ st3 b hb
   exact yS eo
  have I4:Inv (zbp X N scope cl fp s3 H3) [] (zbt n cap σ) H3 {s3 with heap:=h4,toks:=s3.toks+([]:List (Str×Value)).length}:=
   zjT I3 B c1 c2 f3 fl3 n4 k4
  have st4:tn 0 h4:=T.keep _ _ _ st3 fun b _ o e=>k4 b o e
  have stat:∀ {H':Hp},(∀ b∈fp,H' b=none)→∀ b∈fp,FpOk (zbp X N scope cl fp s3 H3) [] H' b:=fun hn b hb=>by
   obtain ⟨_,a1,a2,_,a4,_⟩:=f3 b hb
   refine ⟨hn b hb,qA (fl3 b hb),fun z=>?_,.inl hb,fun x c e=>a4 x c (c1 x c e),fun p hp=>nomatch hp⟩
   rcases yY.mp (I3.stkSub b z) with e | e
   ·exact a1 e
   ·exact a2 e
  have loop:∀ s5:Shared,s5= {s3 with heap:=h4,toks:=s3.toks+([]:List (Str×Value)).length}→
    codeAny (model X.prog X.w) X.A (.compLoop (.ListComp elt [⟨tg,iter,ifs,0⟩] scope pos) 0 (.ref it) (.ref s2.heap.objs.size) (compEnvC scope cl s3.heap.objs.size X.env))
     (RR (.ref s2.heap.objs.size) s3.heap.objs.size) s5:=by
   rintro s5 rfl
   refine zhl (fun k s'=>∃ i H',Inv (zbp X N scope cl fp s3 H3) [] (zbt n cap σ) H' s'∧tn i s'.heap∧(∀ b∈fp,H' b=none)∧W i k H') ?_ m0
    ⟨0,H3,I4,st4,fun b hb=>(f3 b hb).1,w0⟩
   rintro k s6 ⟨i,H6,I6,st6,fr6,w6⟩
   rcases turn i k H6 w6 with ⟨stop,qn⟩ | ⟨go,N6,hN6,step⟩
   ·refine thn (T.done (zbp X N scope cl fp s3 H3) rfl rfl rfl hc i [] s6 _ H6 _ I6 (stat fr6) st6 stop) fun r s7 ⟨hr,I7⟩=>?_
    subst hr
    obtain ⟨J7,C7,m7,n7⟩:=zmy I3 I7 f3
    exact hRR _ _ H6 s7 m7 J7 C7 n7 qn
   ·refine thn (T.item (zbp X N scope cl fp s3 H3) rfl rfl rfl hc i [] s6 _ H6 _ I6 (stat fr6) st6 go) fun r s7 ⟨u,hr,h7⟩=>?_
    subst hr
    refine thn h7 fun _ s8 ⟨x,H8,I8,r8,y8,st8,fr8⟩=>?_
    have I8':=I8.pinned (stat fr8) (T.obj _ _ st8)
    refine thn (hg cl fp s3 H3 _ s8 _ H8 x u _ I8' r8 (hk _ _ _ _ (step x H8 y8))) fun _ s9 ⟨σ9,H9,I9,q9,l9,k9⟩=>?_
    refine thn (ht cl fp s3 H3 _ s9 σ9 H9 _ I9 q9) fun b s10 ⟨H10,I10,q10⟩=>?_
    have wk:∀ (z:Nat) v,(zbt n cap σ)[z]? =some (some v)→σ9[z]? =some (some v):=fun z v e=>by
     obtain ⟨kk,j,rfl,_,_⟩:=zks e
     rw [k9 _ (xT _ _)]
     exact e
    have back:∀ {Ha:Hp} {sa:Shared} {j:Nat},Inv (zbp X N scope cl fp s3 H3) ([]++zhH fp s8.heap) σ9 Ha sa→W (i+1) j Ha→
      ∃ i H',Inv (zbp X N scope cl fp s3 H3) [] (zbt n cap σ) H' sa∧tn i sa.heap∧(∀ b∈fp,H' b=none)∧W i j H':=fun {Ha sa j} Ia wa=>by
     refine ⟨i+1,Ha,(Ia.unpinned).weak l9.symm wk,T.keep _ _ _ st8 fun b hb o e=>(Ia.pin (b,o) (jA _ (jA _ (zdQ hb e)))).1,fun b hb=>?_,wa⟩
     obtain ⟨o,e,d⟩:=T.obj _ _ st8 b hb
     exact (Ia.pin (b,o) (jA _ (jA _ (zdQ hb e)))).2.1
    cases b with
    | false=>
     rw [if_neg yQ] at q10 ⊢
     obtain ⟨m',hm,w'⟩:=hN6 _ q10
     exact ⟨m',hm,back I10 w'⟩
    | true=>
     rw [if_pos rfl] at q10 ⊢
     refine thn (he cl fp s3 H3 _ s10 σ9 H10 _ I10 q10) fun y s11 ⟨yv,H11,I11,r11,q11⟩=>?_
     obtain ⟨xs,eD,hl,q11⟩:=q11
     obtain ⟨m',hm,w'⟩:=hN6 _ q11
     refine thn (zbv _ s11 σ9 H11 (.ref s2.heap.objs.size) [yv] (.ref s2.heap.objs.size) [y] (fun _ Hz=>Hz=upd H11 s2.heap.objs.size (.lst (xs++ [yv]))) I11 rfl (.cons r11 .nil)
      ⟨_,xs,yv,rfl,rfl,eD,hl,rfl⟩) fun _ s12 ⟨_,H12,I12,_,e12⟩=>?_
     subst e12
     exact ⟨m',hm,back I12 w'⟩
  exact codeAny_compStart_list (loop _ rfl) (T.self _ _ _ _ _ st4 (loop _ rfl))
 exact go3 _ _ I3 st3 f3 w0
section
variable {X:Cx} {elt tg iter:Expr} {ifs:List Expr} {scope:Scope} {pos:Pos} {N:List Str} {n:Nat} {cap:List Nat} {wi:TI} {g:TG} {tt:TT} {te:TE}
theorem zoz (hc:X.calm=true)(B:Blk X scope N n cap)(hi:PI X tg iter wi)(hk:ziA n g)
  (hg:∀ cl fp s H,PG (zbp X N scope cl fp s H) tg g) (ht:∀ cl fp s H,PTs (zbp X N scope cl fp s H) ifs tt) (he:∀ cl fp s H,PE (zbp X N scope cl fp s H) elt te)
  (hs:∀ x,foldedSetIterable iter X.env x=pure x:=by intro _;rfl):PE X (.ListComp elt [⟨tg,iter,ifs,0⟩] scope pos) (zmw n cap wi g tt te):=by
 intro pins s σ H Q I h
 obtain ⟨cl,ecl,c1,c2⟩:=zeS (scope:=scope) (env:=X.env) fun y hy k=>I.ok.has y.1 (B.free y hy k)
 rw [eval_ListComp]
 refine wpAny_comprehension_free (use:=none) rfl hs ecl B.kind B.names ?_
 refine thn (hi pins s σ H _ I h) fun v s1 h1=>thn h1 fun itv s2 h2=>?_
 refine zhF (RR:=fun acc C=>compPost (model X.prog X.w) X.A X.xe none (EP X pins σ Q) acc C) hc B c1 c2 hk hg ht he h2 fun D C H' s' m J f nn q=>?_
 exact ⟨m,nn,fun h' sb=>⟨.ref D,H',J.turned (t':=s'.toks) (fun b o hb e=>sb.extBut b o hb e) f.1 f.2.1 f.2.2.2.1 f.2.2.2.2.1 f.2.2.2.2.2,rfl,q⟩⟩
theorem znQ {i:Nat}{x:Str}{pos' spos:Pos}(hc:X.calm=true)(B:Blk X scope N n cap)(hN:X.N.Nodup)(hi:X.N[i]? =some x)(hx:X.env.scope.names.lookup x=some .local)(hit:PI X tg iter wi)(hk:ziA n g)
  (hg:∀ cl fp s H,PG (zbp X N scope cl fp s H) tg g) (ht:∀ cl fp s H,PTs (zbp X N scope cl fp s H) ifs tt) (he:∀ cl fp s H,PE (zbp X N scope cl fp s H) elt te)
  (hsw:swapsWith (.ListComp elt [⟨tg,iter,ifs,0⟩] scope pos) (some (.Name x pos')) spos.line X.env=pure true)
  (hs:∀ x,foldedSetIterable iter X.env x=pure x:=by intro _;rfl):
  PS X (.Assign [.Name x pos'] (.ListComp elt [⟨tg,iter,ifs,0⟩] scope pos) spos) (tAsg (zmw n cap wi g tt te) (zeW i)):=by
 intro pins s σ H D I h
 obtain ⟨cl,ecl,c1,c2⟩:=zeS (scope:=scope) (env:=X.env) fun y hy k=>I.ok.has y.1 (B.free y hy k)
 rw [exec_Assign_Name_used _ _ _ _ hsw]
 refine yA (wpAny_standAt (yA ?_))
 show wpAny _ X.A (do
  let _ ← comprehension (.ListComp elt [⟨tg,iter,ifs,0⟩] scope pos) scope X.env _ (newList []) false (eval iter X.env)
   (some (assign (.Name x pos') X.env))) _ _ s
 refine yA (thn (wpAny_comprehension_free (use:=some (assign (.Name x pos') X.env)) (Q:=fun _ s'=>SP X pins D .next s') rfl hs ecl B.kind B.names ?_) fun _ s' hq=>yC (yC hq))
 refine thn (hit pins s σ H _ I h) fun v s1 h1=>thn h1 fun itv s2 h2=>?_
 refine zhF (Q:=fun y H2=>zeW i y σ H2 D.nx) (RR:=fun acc C=>compPost (model X.prog X.w) X.A X.xe (some (assign (.Name x pos') X.env)) (fun _ s'=>SP X pins D .next s') acc C) hc B c1 c2 hk hg ht he h2 fun Dl C H' s' m J f nn q=>?_
 show wpAny (model X.prog X.w) X.A (assign (.Name x pos') X.env (.ref Dl)) _ X.xe s'
 refine wpAny_assign_Name (zhK J hN hi (.inl hx) (show RelV (.ref Dl) (.ref Dl) from rfl) (fun s3 I3 ⟨a,sb,ha⟩=>?_) (.inr hx))
 have ca:C≠a:=by
  rcases ha with e | e
  ·rw [e];exact f.2.1
  ·exact fun z=>f.2.2.2.2.1 x a e z.symm
 refine ⟨m,nn.sameBut sb ca,fun h' sb'=>⟨_,H',I3.turned (t':=s3.toks) (fun b o hb e=>sb'.extBut b o hb e) f.1 f.2.1 f.2.2.2.1 f.2.2.2.2.1 f.2.2.2.2.2,q⟩⟩
end
section
variable {g:TG} {tt:TT} {te:TE} {n0:Nat} {cap:List Nat} {σ :St} {Q:VK} {D:Addr} {H1:Hp} {K:PySem.W.Frag}
theorem zc5 {lo:Int}{n:Nat}(Pv:Nat→Hp→Prop)(h0:Pv 0 (upd H1 D (.lst [])))
  (hs:∀ i H,i < n→Pv i H→g (.int (lo+i)) (zbt n0 cap σ) H fun σ2 H2=>tt σ2 H2 fun b H3=>if b=true then te σ2 H3 fun y H4=>∃ xs,H4 D=some (.lst xs)∧xs.length < yK∧Pv (i+1) (upd H4 D (.lst (xs++ [y]))) else Pv (i+1) H3)
  (hd:∀ H,Pv n H→Q (.ref D) H):
  zc2 (Itr lo n) D n0 cap σ g tt te Q H1:=by
 refine ⟨fun i m H=>m=n - i∧i≤n∧Pv i H,⟨n,by simp,qM _,h0⟩,?_⟩
 rintro i m H ⟨rfl,hi,p⟩
 by_cases hlt:i < n
 ·refine .inr ⟨hlt,Pv (i+1),fun H' p'=>⟨n - (i+1),by omega,rfl,hlt,p'⟩,fun x H' y=>?_⟩
  obtain ⟨e1,e2⟩:=y
  subst e1 e2
  exact hs i _ hlt p
 ·have e:i=n:=by omega
  subst e
  exact .inl ⟨yL _,hd H p⟩
theorem zaO {a:Addr}{xs:List V}(Pv:Nat→Hp→Prop)(h0:Pv 0 (upd H1 D (.lst [])))(hl:∀ i H,i≤xs.length→Pv i H→SqL K H a xs)
  (hs:∀ i x H,xs[i]? =some x→Pv i H→g x (zbt n0 cap σ) H fun σ2 H2=>tt σ2 H2 fun b H3=>if b=true then te σ2 H3 fun y H4=>∃ xs,H4 D=some (.lst xs)∧xs.length < yK∧Pv (i+1) (upd H4 D (.lst (xs++ [y]))) else Pv (i+1) H3)
  (hd:∀ H,Pv xs.length H→Q (.ref D) H):
  zc2 (Itl K a) D n0 cap σ g tt te Q H1:=by
 refine ⟨fun i m H=>m=xs.length - i∧i≤xs.length∧Pv i H,⟨xs.length,by simp,qM _,h0⟩,?_⟩
 rintro i m H ⟨rfl,hi,p⟩
 have q:=hl i H hi p
 by_cases hlt:i < xs.length
 ·refine .inr ⟨⟨xs,xs[i],q,by simp [hlt]⟩,Pv (i+1),fun H' p'=>⟨xs.length - (i+1),by omega,rfl,hlt,p'⟩,fun x H' y=>?_⟩
  obtain ⟨e1,y⟩:=y
  subst e1
  exact hs i x _ (y xs q) p
 ·have e:i=xs.length:=by omega
  subst e
  exact .inl ⟨⟨xs,q,yL _⟩,hd H p⟩
theorem zjs {a:Addr}{xs:List V}(Pv:Nat→Hp→Prop)(h0:Pv 0 (upd H1 D (.lst [])))(hl:∀ i H,i≤xs.length→Pv i H→SqT K H a xs)
  (hs:∀ i x H,xs[i]? =some x→Pv i H→g x (zbt n0 cap σ) H fun σ2 H2=>tt σ2 H2 fun b H3=>if b=true then te σ2 H3 fun y H4=>∃ xs,H4 D=some (.lst xs)∧xs.length < yK∧Pv (i+1) (upd H4 D (.lst (xs++ [y]))) else Pv (i+1) H3)
  (hd:∀ H,Pv xs.length H→Q (.ref D) H):
  zc2 (Itt K a) D n0 cap σ g tt te Q H1:=by
 refine ⟨fun i m H=>m=xs.length - i∧i≤xs.length∧Pv i H,⟨xs.length,by simp,qM _,h0⟩,?_⟩
 rintro i m H ⟨rfl,hi,p⟩
 have q:=hl i H hi p
 by_cases hlt:i < xs.length
 ·refine .inr ⟨⟨xs,xs[i],q,by simp [hlt]⟩,Pv (i+1),fun H' p'=>⟨xs.length - (i+1),by omega,rfl,hlt,p'⟩,fun x H' y=>?_⟩
  obtain ⟨e1,y⟩:=y
  subst e1
  exact hs i x _ (y xs q) p
 ·have e:i=xs.length:=by omega
  subst e
  exact .inl ⟨⟨xs,q,yL _⟩,hd H p⟩
end
theorem Inv.laidC {X:Cx}{pins:List (Addr×Obj)}{σ :St}{H:Hp}{s:Shared}{h':Heap}{a:Addr}{o:HO}{t':Nat}{ch:List Addr}(I:Inv X pins σ H s)
  (hch:∀ b∈ch,FpOk X pins H b) (k:∀ b u,b∉ch→s.heap.get? b=some u→h'.get? b=some u) (hp:s.heap.objs.size≤a)
  (new:zbh X.prog X.w (upd H a o) h' a o):Inv X pins σ (upd H a o) {s with heap:=h',toks:=t'}:=by
 have hn:=I.hok.fresh hp
 have nch:∀ c u,H c=some u→c∉ch:=fun c u e z=>by rw [(hch c z).1] at e;cases e
 refine I.step (g':=s.gens) (d':=s.drawn) (ch:=ch) (fun b hb=>⟨(hch b hb).2.2.2.1,(hch b hb).2.1,(hch b hb).2.2.2.2.1,(hch b hb).2.2.2.2.2⟩)
  (fun b u _ _ hc e _=>k b u hc e) (fun b u _ _ hc e _=>⟨u.slots,k b u hc e⟩)
  (fun b u _ e n=>by rw [zah (qA (qB (yS e) hp))];exact n) (fun b u hc e=>⟨u,k b u hc e⟩)
  (fun b xs q=>by rw [zah (zai q hn)];exact q) (fun b u xs q=>by rw [zah (zai q hn)];exact q)
  (fun b ps q=>⟨#[],by rw [zah (zai q hn),q];simp⟩) (fun m hm=>?_) (fun b u e=>?_) I.bare
 ·exact hm.at' fun ob e=>k _ ob (fun z=>(hch _ z).2.1 rfl) e
 ·by_cases hb:b=a
  ·subst hb;rw [zab] at e;cases e;exact new
  ·rw [zah hb] at e
   refine (I.hok b u e).stay (fun c v hc q=>k c v ?_ q) (fun c q=>by rw [zah (zai q hn)];exact q) fun c xs q=>q.upd hn
   rcases hc with rfl | hc
   ·exact nch _ _ e
   ·exact nch _ _ hc
noncomputable def Ite (K:PySem.W.Frag) (a:Addr):It:=
 ⟨fun i H => ∃ xs x, SqL K H a xs ∧ xs[i]? = some x,
  fun i H v H'=>∃ T x,H T=none∧v= .ref T∧H'=upd H T (.tup [.int i,x])∧∀ xs,SqL K H a xs→xs[i]? =some x,
  fun i H=>∃ xs,SqL K H a xs∧xs.length≤i⟩
theorem zl2 {P:Program}{w:World}{K:PySem.W.Frag}{elts:List Expr}{k:Nat}{tp:Pos}(a e it:Addr)(hne:e≠it):
  Turn P w K (.Tuple elts k tp) (Ite K a) [e,it] e (fun i h=>(∃ old,IsEnum h e it (i:Nat) old)∧h.IsListIter it a i) where
 mem:=by simp
 obj:=fun i h st b hb=>by
  obtain ⟨⟨old,he⟩,o,eo,c,d⟩:=st
  rcases yY.mp hb with rfl | hb
  ·exact ⟨_,he,fun v z=>nomatch z⟩
  ·have q:b=it:=by simpa using hb
   subst q
   exact ⟨o,eo,fun v z=>by rw [d] at z;cases z⟩
 keep:=fun i h h' st k=>by
  obtain ⟨⟨old,he⟩,hit⟩:=st
  exact ⟨⟨old,k e (by simp) _ he⟩,hit.at fun o q=>k it (by simp) o q⟩
 item:=by
  intro X hP hw hK hc i pins s σ H E I hf st hg
  subst hP hw hK
  obtain ⟨⟨old,he⟩,hit⟩:=st
  obtain ⟨xs,x,hq,hx⟩:=hg
  obtain ⟨its,rv,p,hz⟩:=I.list hq
  obtain ⟨u,hu,ru⟩:=rv.get hx
  have fe:=hf e (by simp)
  have fi:=hf it (by simp)
  refine wpAny_pyNext_enum_item he hit p.isList (x:=u) (by simpa using hu) hne fun h' ho hit' hT hsz hk=>?_
  have eT:e≠s.heap.objs.size:=qA (yS he)
  have iT:it≠s.heap.objs.size:=by
   obtain ⟨o,eo,_⟩:=hit
   exact qA (yS eo)
  have I1:Inv X pins σ (upd H s.heap.objs.size (.tup [.int i,x])) {s with heap:=h',toks:=s.toks+1}:=
   I.laidC (ch:=[e,it]) hf (fun b v hb q=>hk b v (fun z=>hb (by simp [z])) (fun z=>hb (by simp [z])) q) (yL _)
    ⟨(by show 2≤yK;decide),[.int i s.toks,u],.cons ⟨_,rfl⟩ (.cons ru .nil),_,hT,rfl,_,rfl⟩
  refine ⟨_,rfl,wpAny_letOwnedTupleGo_enum ho fun h2 he2 sb2=>?_⟩
  have I2:Inv X pins σ (upd H s.heap.objs.size (.tup [.int i,x])) {s with heap:=h2,toks:=s.toks+1}:=
   I1.turned (t':=s.toks+1) (fun b o hb q=>(sb2.2 b hb).trans q) (by rw [zah eT];exact fe.1) fe.2.1 fe.2.2.2.1 fe.2.2.2.2.1 fe.2.2.2.2.2
  refine ⟨.ref s.heap.objs.size,_,I2,rfl,⟨_,x,I.hok.fresh (yL _),rfl,rfl,fun ys hy=>by rw [I.list_inj hy hq];exact hx⟩,⟨⟨u,?_⟩,?_⟩,fun b hb=>?_⟩
  ·have:(((i+1:Nat)):Int)=(i:Int)+1:=by omega
   rw [this]
   exact he2
  ·exact hit'.extBut sb2.extBut (qR hne)
  ·rcases yY.mp hb with rfl | hb
   ·rw [zah eT];exact fe.1
   ·have q:b=it:=by simpa using hb
    subst q
    rw [zah iT];exact fi.1
 done:=by
  intro X hP hw hK hc i pins s σ H E I hf st hg
  subst hP hw hK
  obtain ⟨⟨old,he⟩,hit⟩:=st
  obtain ⟨xs,hq,hx⟩:=hg
  obtain ⟨its,rv,p,hz⟩:=I.list hq
  have fi:=hf it (by simp)
  have hl:=rv.length
  exact wpAny_pyNext_enum_end (I.ok.hd hc) he hit p.isList (by simp;omega) fun h' eb=>
   ⟨rfl,I.turned (t':=s.toks) (fun b o hb q=>eb b o hb q) fi.1 fi.2.1 fi.2.2.2.1 fi.2.2.2.2.1 fi.2.2.2.2.2⟩
 self:=fun _ _ _ _ _ st h=>by
  obtain ⟨⟨old,he⟩,_⟩:=st
  exact wpAny_pyIter_enum he h
noncomputable def iEnum (K:PySem.W.Frag) (ta:TA):TI:=fun σ H R=>ta σ H fun vs H1=>∃ l,vs= [.ref l]∧(∃ xs,SqL K H1 l xs)∧R (Ite K l) H1
theorem zoK {X:Cx}{a:Expr}{ta:TA}{p pos tp:Pos}{elts:List Expr}{k:Nat}(hg:Gl X "enumerate")(hm:X.mg "enumerate" =none)(ha:PA X [a] ta)
  (hs:starEach [a] X.env= [(false,eval a X.env)]:=by rfl):PI X (.Tuple elts k tp) (.Call (.Name "enumerate" p) [a] [] pos) (iEnum X.K ta):=by
 intro pins s σ H R I h
 refine Call_ (zec I hg hm boot_enumerate (jZ (thn (ha pos pins s σ H _ I h) fun us s1 ⟨vs,H1,I1,r1,q1⟩=>?_) hs rfl))
 obtain ⟨l,e,⟨xs,hq⟩,q⟩:=q1
 subst e
 cases r1 with
 | cons r rr=>
  cases rr
  cases r
  obtain ⟨its,rv,pl,hz⟩:=I1.list hq
  refine call_enumerate_list pl.isList fun h' he hit hz' hk=>?_
  refine wpAny_pyIter_enum he ?_
  refine ⟨s1.heap.objs.size+1,[s1.heap.objs.size+1,s1.heap.objs.size],_,_,H1,rfl,I1.kept (t':=s1.toks) hk,zl2 l _ _ (Nat.succ_ne_self _),⟨⟨_,he⟩,hit⟩,fun b hb=>?_,q⟩
  have le:s1.heap.objs.size≤b:=by
   rcases yY.mp hb with z | hb
   ·rw [z];exact ycc _
   ·have z:b=s1.heap.objs.size:=by simpa using hb
    rw [z];exact yL _
  exact I1.fpOk le (I1.hok.fresh le)
theorem zi7 {K:PySem.W.Frag}{a:Addr}{xs:List V}{g:TG}{tb:TS}{D:Ends}{σ :St}{H:Hp}(Pv:Nat→St→Hp→Prop)(h0:Pv 0 σ H)
  (hl:∀ i σ H,i≤xs.length→Pv i σ H→SqL K H a xs)
  (hs:∀ i x σ H T,xs[i]? =some x→Pv i σ H→H T=none→g (.ref T) σ (upd H T (.tup [.int i,x])) fun σ2 H2=>tb {D with nx:=Pv (i+1),ct:=Pv (i+1),bk:=D.nx} σ2 H2)
  (hd:∀ σ H,Pv xs.length σ H→D.nx σ H):
  ∃ W:Nat→Nat→St→Hp→Prop,(∃ m,W 0 m σ H)∧∀ i m σ H,W i m σ H→
   ((Ite K a).stop i H ∧ D.nx σ H) ∨ ((Ite K a).go i H ∧ ∃ N : St → Hp → Prop, (∀ σ' H', N σ' H' → ∃ m', m' < m ∧ W (i + 1) m' σ' H') ∧
     ∀ x H',(Ite K a).yld i H x H'→g x σ H' fun σ2 H2=>tb {D with nx:=N,ct:=N,bk:=D.nx} σ2 H2):=by
 refine ⟨fun i m σ H=>m=xs.length - i∧i≤xs.length∧Pv i σ H,⟨xs.length,by simp,qM _,h0⟩,?_⟩
 rintro i m σ H ⟨rfl,hi,p⟩
 have q:=hl i σ H hi p
 by_cases hlt:i < xs.length
 ·refine .inr ⟨⟨xs,xs[i],q,by simp [hlt]⟩,Pv (i+1),fun σ' H' p'=>⟨xs.length - (i+1),by omega,rfl,hlt,p'⟩,fun x H' y=>?_⟩
  obtain ⟨T,z,hT,e1,e2,y⟩:=y
  subst e1 e2
  exact hs i z σ H T (y xs q) p hT
 ·have e:i=xs.length:=by omega
  subst e
  exact .inl ⟨⟨xs,q,yL _⟩,hd σ H p⟩
open PySem.W (Dat kqdP kqdPs kqdOk)
mutual
inductive Rep (K:PySem.W.Frag) (H:Hp):V→Dat→Prop
 | non:Rep K H .non .none
 | bl (b:Bool):Rep K H (.bl b) (.bool b)
 | int (i:Int):Rep K H (.int i) (.int i)
 | str (x:Str):Rep K H (.str x) (.str x)
 | tup {a:Addr} {xs:List V} {ds:List Dat}:SqT K H a xs→Reps K H xs ds→Rep K H (.ref a) (.tuple ds)
 | lst {a:Addr} {xs:List V} {ds:List Dat}:SqL K H a xs→Reps K H xs ds→Rep K H (.ref a) (.list ds)
inductive Reps (K:PySem.W.Frag) (H:Hp):List V→List Dat→Prop
 | nil:Reps K H [] []
 | cons {x:V} {xs:List V} {d:Dat} {ds:List Dat}:Rep K H x d→Reps K H xs ds→Reps K H (x::xs) (d::ds)
end
theorem Same.seqT {K:PySem.W.Frag}{H H':Hp}{a:Addr}{xs:List V}(e:Same H H')(h:SqT K H a xs):SqT K H' a xs:=by
 rcases h with h | h
 ·rcases h with h | ⟨o,h⟩
  ·exact .inl (.inl (e _ _ h))
  ·exact .inl (.inr ⟨o,e _ _ h⟩)
 ·exact .inr h
mutual
theorem Rep.mono {K:PySem.W.Frag}{H H':Hp}(s:Same H H'):∀ {v:V} {d:Dat},Rep K H v d→Rep K H' v d
 | _,_,.non=>.non
 | _,_,.bl b=>.bl b
 | _,_,.int i=>.int i
 | _,_,.str x=>.str x
 | _,_,.tup h r=>.tup (s.seqT h) (Reps.mono s r)
 | _,_,.lst h r=>.lst (s.seq h) (Reps.mono s r)
theorem Reps.mono {K:PySem.W.Frag}{H H':Hp}(s:Same H H'):∀ {vs:List V} {ds:List Dat},Reps K H vs ds→Reps K H' vs ds
 | _,_,.nil=>.nil
 | _,_,.cons h r=>.cons (Rep.mono s h) (Reps.mono s r)
end
theorem Reps.length {K:PySem.W.Frag}{H:Hp}:∀ {vs:List V} {ds:List Dat},Reps K H vs ds→vs.length=ds.length
 | _,_,.nil=>rfl
 | _,_,.cons _ r=>congrArg Nat.succ (Reps.length r)
theorem Reps.get {K:PySem.W.Frag}{H:Hp}:∀ {vs:List V} {ds:List Dat} {i:Nat} {v:V},Reps K H vs ds→vs[i]? =some v→∃ d,ds[i]? =some d∧Rep K H v d
 | _,_,_,_,.nil,e=>by simp at e
 | _,_,0,_,.cons h _,e=>by simp at e;subst e;exact ⟨_,rfl,h⟩
 | _,_,i+1,v,.cons _ r,e=>by
  obtain ⟨d,h1,h2⟩:=Reps.get (i:=i) (v:=v) r (by simpa using e)
  exact ⟨d,by simpa using h1,h2⟩
theorem Reps.getD {K:PySem.W.Frag}{H:Hp}:∀ {vs:List V} {ds:List Dat} {i:Nat} {d:Dat},Reps K H vs ds→ds[i]? =some d→∃ v,vs[i]? =some v∧Rep K H v d
 | _,_,_,_,.nil,e=>by simp at e
 | _,_,0,_,.cons h _,e=>by simp at e;subst e;exact ⟨_,rfl,h⟩
 | _,_,i+1,v,.cons _ r,e=>by
  obtain ⟨d,h1,h2⟩:=Reps.getD (i:=i) (d:=v) r (by simpa using e)
  exact ⟨d,by simpa using h1,h2⟩
theorem Reps.append {K:PySem.W.Frag}{H:Hp}:∀ {vs us:List V} {ds es:List Dat},Reps K H vs ds→Reps K H us es→Reps K H (vs++us) (ds++es)
 | _,_,_,_,.nil,s=>s
 | _,_,_,_,.cons h r,s=>.cons h (Reps.append r s)
theorem Reps.snoc {K:PySem.W.Frag}{H:Hp}{vs:List V}{ds:List Dat}{v:V}{d:Dat}(r:Reps K H vs ds)(h:Rep K H v d):Reps K H (vs++ [v]) (ds++ [d]):=r.append (.cons h .nil)
theorem Reps.ints {K:PySem.W.Frag}{H:Hp}:∀ ns:List Int,Reps K H (ns.map V.int) (ns.map Dat.int)
 | []=>.nil
 | n::r=>.cons (.int n) (Reps.ints r)
section
variable {X:Cx} {pins:List (Addr×Obj)} {σ :St} {H:Hp} {s:Shared}
mutual
theorem Rep.reads (I:Inv X pins σ H s):∀ (n:Nat) {v:V} {d:Dat} {u:Value},Rep X.K H v d→RelV v u→kqdOk n d=true→∃ as,Reads s.heap u (kqdP d) as
 | _,_,_,_,.non,r,_=>by cases (show _=_ from r);exact ⟨_,Reads.none⟩
 | _,_,_,_,.bl b,r,_=>by cases (show _=_ from r);exact ⟨_,Reads.bool b⟩
 | _,_,_,_,.int i,r,_=>by obtain ⟨t,rfl⟩:=r;exact ⟨_,Reads.int i t⟩
 | _,_,_,_,.str x,r,_=>by obtain ⟨t,rfl⟩:=r;exact ⟨_,Reads.str x t⟩
 | 0,_,_,_,.tup _ _,_,hk=>by simp [kqdOk] at hk
 | 0,_,_,_,.lst _ _,_,hk=>by simp [kqdOk] at hk
 | n+1,_,_,_,.tup h q,r,hk=>by
  cases (show _=_ from r)
  obtain ⟨its,rv,⟨o,e,c,m,d⟩,_⟩:=I.tuple h
  obtain ⟨as,z⟩:=Reps.reads I n q rv (by simpa [kqdOk] using hk)
  rw [kqdP]
  exact ⟨as,reads_tuple_at e c d (by simpa using z)⟩
 | n+1,_,_,_,.lst h q,r,hk=>by
  cases (show _=_ from r)
  obtain ⟨its,rv,⟨o,m,e,c,_,d⟩,_⟩:=I.list h
  obtain ⟨as,z⟩:=Reps.reads I n q rv (by simpa [kqdOk] using hk)
  rw [kqdP]
  exact ⟨_,reads_list_at e c d (by simpa using z)⟩
theorem Reps.reads (I:Inv X pins σ H s):∀ (n:Nat) {vs:List V} {ds:List Dat} {us:List Value},Reps X.K H vs ds→Vals vs us→(∀ d∈ds,kqdOk n d=true)→∃ as,ReadsAll s.heap us (kqdPs ds) as
 | _,_,_,_,.nil,r,_=>by cases r;exact ⟨_,ReadsAll.nil⟩
 | n,_,_,_,.cons h q,r,hk=>by
  cases r with
  | cons r1 r2=>
   obtain ⟨as,z⟩:=Rep.reads I n h r1 (hk _ (.head _))
   obtain ⟨bs,y⟩:=Reps.reads I n q r2 fun d hm=>hk d (.tail _ hm)
   rw [kqdPs]
   exact ⟨_,ReadsAll.cons z y⟩
end
end
noncomputable def rEqD (K:PySem.W.Frag) (neg:Bool):R2:=fun x y H Q=>∃ dx dy,Rep K H x dx∧Rep K H y dy∧kqdOk 8 dx=true∧kqdOk 8 dy=true∧(dx=dy→Q (.bl (!neg)) H)∧(dx≠dy→Q (.bl neg) H)
section
variable {X:Cx}
theorem zbu {d:Dat}(h:kqdOk 8 d=true):SeqAt.shaped (kqdP d)=true:=by
 have l:=PySem.W.kqd_lay 8 d h
 unfold SeqAt.shaped
 rw [l.1,yaw]
 exact decide_eq_true (jY l.2 (by decide))
theorem zk6 (hu:X.A.units+64 < cLine):OpR X (compareOp .Eq) (rEqD X.K false):=by
 intro pins s σ H x y v u Q I rx ry ⟨dx,dy,hx,hy,kx,ky,q1,q2⟩
 obtain ⟨as,ra⟩:=Rep.reads I 8 hx rx kx
 obtain ⟨bs,rb⟩:=Rep.reads I 8 hy ry ky
 have e:=PySem.W.kqd_eqv 8 dx dy 8 kx ky
 refine eq_dataH ra rb (zbu kx) (zbu ky) hu ?_
 cases z:yay (kqdP dx) (kqdP dy) with
 | true=>exact ⟨.bl true,H,I,rfl,q1 (e.mp z)⟩
 | false=>exact ⟨.bl false,H,I,rfl,q2 fun w=>by rw [e.mpr w] at z;cases z⟩
theorem zfH (hu:X.A.units+64 < cLine):OpR X (compareOp .NotEq) (rEqD X.K true):=by
 intro pins s σ H x y v u Q I rx ry ⟨dx,dy,hx,hy,kx,ky,q1,q2⟩
 obtain ⟨as,ra⟩:=Rep.reads I 8 hx rx kx
 obtain ⟨bs,rb⟩:=Rep.reads I 8 hy ry ky
 have e:=PySem.W.kqd_eqv 8 dx dy 8 kx ky
 refine ne_dataH ra rb (zbu kx) (zbu ky) hu ?_
 cases z:yay (kqdP dx) (kqdP dy) with
 | true=>exact ⟨.bl false,H,I,rfl,q1 (e.mp z)⟩
 | false=>exact ⟨.bl true,H,I,rfl,q2 fun w=>by rw [e.mpr w] at z;cases z⟩
inductive TyR (K:PySem.W.Frag) (H:Hp):V→Value→Prop where
 | of {x:V} {c:Value} (h:TyOf K H x c):TyR K H x c
 | tup {a:Addr} {xs:List V} (h:SqT K H a xs):TyR K H (.ref a) (.type "tuple")
 | lst {a:Addr} {xs:List V} (h:SqL K H a xs):TyR K H (.ref a) (.type "list")
noncomputable def rIsI (K:PySem.W.Frag):List V→Hp→VK→Prop:=fun xs H Q=>∃ x T t b,xs= [x,.ty T]∧TyR K H x t∧PySem.W.kitOne K t (.type T)=some b∧Q (.bl b) H
theorem zha:zc3 X (.builtin "isinstance") (rIsI X.K):=by
 intro pins s σ H xs us Q I r ⟨x,T,t,b,e,ty,ek,q⟩
 subst e
 obtain ⟨u,w',rfl,rx,rt⟩:=vals2 r
 cases (show w'=Value.type T from rt)
 cases ty with
 | of ty=>exact zlw I rx ty ek fun tk=>⟨.bl b,H,I.tok tk,rfl,q⟩
 | tup h=>
  cases (show u=_ from rx)
  obtain ⟨its,rv,⟨o,e,c,_⟩,_⟩:=I.tuple h
  exact PySem.W.kia_one PySem.W.kitx_tuple I.kIn ⟨o,e,c⟩ ek (fun z=>nomatch z) fun tk=>⟨.bl b,H,I.tok tk,rfl,q⟩
 | lst h=>
  cases (show u=_ from rx)
  obtain ⟨its,rv,⟨o,m,e,c,_⟩,_⟩:=I.list h
  exact PySem.W.kia_one PySem.W.kitx_list I.kIn ⟨o,e,c⟩ ek (fun z=>nomatch z) fun tk=>⟨.bl b,H,I.tok tk,rfl,q⟩
noncomputable def CBits (i j:Int):Prop:=qK i≤2 ^ 20∧qK j≤2 ^ 20
theorem zgj:OpR X (binaryOp .Mult) (rI CBits fun i j=>.int (i * j)):=opI fun i j t u s Q E h q=>mul_int q (IntMulOk.of_bits h.1 h.2)
theorem zhf {i:Int}{k:Nat}(hk:k≤2 ^ 20)(h1: -(2 ^ k) < i)(h2:i < 2 ^ k):qK i≤2 ^ 20:=by
 unfold qK
 split
 ·exact qM _
 ·rename_i h0
  have hn:i.natAbs < 2 ^ k:=by
   have e:((2 ^ k:Nat):Int)=2 ^ k:=by norm_cast
   omega
  have:i.natAbs.log2 < k:=by
   refine (Nat.log2_lt ?_).mpr hn
   intro z
   simp at h0
   omega
  omega
end
end L2
namespace L2
open PySem PySem.Spec PyProof.Rows
section
variable {X:Cx} {K:PySem.W.Frag}
theorem zcU (h:X.K=K:=by rfl):IxR X (rIxL K):=by subst h;exact zaR
theorem zhs (h:X.K=K:=by rfl):zc3 X (.builtin "len") (fun xs H Q=>∃ p ys,xs= [.ref p]∧(SqL K H p ys∨SqT K H p ys)∧Q (.int ys.length) H):=by subst h;exact zaq
theorem zhj (h:X.K=K:=by rfl):zc3 X (.type "list") (fun xs H Q=>∃ p ys,xs= [.ref p]∧(SqL K H p ys∨SqT K H p ys)∧∀ l,H l=none→Q (.ref l) (upd H l (.lst ys))):=by subst h;exact zdL
theorem zdU (h:X.K=K:=by rfl):OpR X (compareOp .In) (rIn K false):=by subst h;exact zf0
theorem zoA (hu:X.A.units+64 < cLine)(h:X.K=K:=by rfl):OpR X (compareOp .NotEq) (rEqD K true):=by subst h;exact zfH hu
theorem zop {es:List Expr}{k:Nat}{t:TGs}{n:Nat}{pos:Pos}(hc:X.calm=true)(h:PGs X es t)(hK:X.K=K:=by rfl)
  (hn:(assignEach es X.env).length=n:=by rfl) (hst:(assignEach es X.env).findIdx? (·.1)=none:=by rfl):PG X (.Tuple es k pos) (gTup K n t):=by subst hK;exact znv hc h hn hst
end
structure Bx (p:Prop):Prop where
 get:p
section
variable {X:Cx} {a b c e l o i f elt tg iter target value:Expr} {es ts rest:List Expr} {st:Stmt} {sts body els:List Stmt} {ta tb tc te td ty tx tv tl to ti:TE} {tA tB':TT} {t tr:TA} {s u tb':TS} {g:TG} {gs:TGs} {wi:TI} {tt:TT}
 {pos apos cpos p pos' spos:Pos} {op op':CmpOp} {bop:Operator} {r r':R2} {lo hi:Option Expr} {tlo thi:TO}
theorem bpv (k:Nat){x:Str}{pos:Pos}(hN:X.N[k]? =some x:=by rfl)(hv:Vis X.env.scope x:=by first | exact Or.inl rfl | exact Or.inr (Or.inl rfl) | exact Or.inr (Or.inr rfl))
  (hd:(x==("__debug__" :Str))=false:=by decide) (hcd:(x==("__classdict__" :Str))=false:=by decide):Bx (PE X (.Name x pos) (tVar k)):=⟨pe_var hN hv hd hcd⟩
theorem zae {k:Int}{j pos}:Bx (PE X (.Constant (.int k) j pos) (tC (.int k))):=⟨pe_int⟩
theorem zbR {k:Bool}{j pos}:Bx (PE X (.Constant (.bool k) j pos) (tC (.bl k))):=⟨pe_bl⟩
theorem zau {x:Str}{j pos}:Bx (PE X (.Constant (.str x) j pos) (tC (.str x))):=⟨pe_str⟩
theorem zm2 {x:Str}{v:V}{w:Value}{pos:Pos}(hg:Gl X x)(hm:X.mg x=some w)(r:RelV v w)(hd:(x==("__debug__" :Str))=false:=by decide):Bx (PE X (.Name x pos) (tC v)):=⟨zoR hg hm r hd⟩
theorem zgY {x:Str}{v:V}{w:Value}{pos:Pos}(hg:Gl X x)(hm:X.mg x=none)(hv:bootBuiltins x=some w)(r:RelV v w)(hn:x≠"__name__" :=by decide)(hd:(x==("__debug__" :Str))=false:=by decide):Bx (PE X (.Name x pos) (tC v)):=⟨znJ hg hm hv r hn hd⟩
theorem zan (ho:OpR X (binaryOp bop) r)(ha:Bx (PE X a ta))(hb:Bx (PE X b tb)):Bx (PE X (.BinOp a bop b pos) (tOp r ta tb)):=⟨pe_op ho ha.1 hb.1⟩
theorem zi5 {uop:UnaryOp}{r:V→Hp→VK→Prop}(ho:UnR X (unaryOp uop) r)(ha:Bx (PE X a ta)):Bx (PE X (.UnaryOp uop a pos) (tUn r ta)):=⟨pe_un ho ha.1⟩
theorem zcs (ho:OpR X (compareOp op) r)(ha:Bx (PE X a ta))(hb:Bx (PE X b tb))(hm:behindInMarks op b=false):Bx (PE X (.Compare a [op] [b] pos) (tOp r ta tb)):=⟨zoO ho ha.1 hb.1 hm⟩
theorem zap (ho:OpR X (compareOp op) r)(ha:Bx (PE X a ta))(hb:Bx (PE X b tb))(hm:behindInMarks op b=false):Bx (PT X (.Compare a [op] [b] pos) (tTest (tOp r ta tb))):=⟨znL ho ha.1 hb.1 hm⟩
theorem zgB (hu:X.A.units+1 < cLine)(hi:Bx (PE X i ty))(ho:Bx (PE X o td)):Bx (PC X .NotIn i o (zlK ty td)):=⟨zl8 hu hi.1 ho.1⟩
theorem zkE (h:Bx (PC X op a b te))(h1:behindInMarks op b=false:=by first | exact zjt _ (by decide) (by decide) | rfl):Bx (PT X (.Compare a [op] [b] pos) (tB te)):=⟨pt_cmp h.1 h1⟩
theorem zc1 (h:Bx (PE X e te))(he:∀ whole,isTrue e X.env whole=(do let v ← whole;standAt e.pos;holding [v] (truthy v)):=by intro _;rfl):Bx (PT X e (tB te)):=⟨pt_val h.1 he⟩
theorem zdt (h:Bx (PW X e tt)):Bx (PT X e tt):=⟨h.1.pt⟩
theorem zhq (ha:Bx (PT X a tA)):Bx (PW X (.BoolOp .And [a] pos) tA):=⟨zoy ha.1⟩
theorem zdi (ha:Bx (PT X a tA)):Bx (PW X (.BoolOp .Or [a] pos) tA):=⟨pw_or1 ha.1⟩
theorem zir (ha:Bx (PT X a tA))(hb:Bx (PW X (.BoolOp .And (b::rest) pos) tB')):Bx (PW X (.BoolOp .And (a::b::rest) pos) (tAnd tA tB')):=⟨pw_and ha.1 hb.1⟩
theorem zdu (ha:Bx (PT X a tA))(hb:Bx (PW X (.BoolOp .Or (b::rest) pos) tB')):Bx (PW X (.BoolOp .Or (a::b::rest) pos) (tOr tA tB')):=⟨pw_or ha.1 hb.1⟩
theorem zdG (ha:Bx (PT X a tA)):Bx (PT X (.UnaryOp .Not a pos) (tNot tA)):=⟨pt_not ha.1⟩
theorem zld {bo}(h:Bx (PE X a te)):Bx (PE X (.BoolOp bo [a] pos) te):=⟨pe_one h.1⟩
theorem zkN (ha:Bx (PE X a ta))(hb:Bx (PE X (.BoolOp .And (b::rest) pos) tb)):Bx (PE X (.BoolOp .And (a::b::rest) pos) (tAndV ta tb)):=⟨pe_and ha.1 hb.1⟩
theorem zhE (hc:Bx (PT X c tA))(ha:Bx (PE X a ta))(hb:Bx (PE X b tb)):Bx (PE X (.IfExp c a b pos) (tIf tA ta tb)):=⟨zmF hc.1 ha.1 hb.1⟩
theorem zac:Bx (PA X [] tNil):=⟨pa_nil⟩
theorem zaa (ha:Bx (PE X e te))(hr:Bx (PA X es t))(hs:starEach (e::es) X.env=(false,eval e X.env)::starEach es X.env:=by rfl):Bx (PA X (e::es) (tCons te t)):=⟨znY ha.1 hr.1 hs⟩
theorem za0 {x1}(h:Bx (PA X es t)):Bx (PE X (.Tuple es x1 pos) (tTup t)):=⟨pe_tup h.1⟩
theorem zav (h:Bx (PA X es t)):Bx (PE X (.List es pos) (tLst t)):=⟨pe_lst h.1⟩
theorem zao (hr:IxR X r)(ha:Bx (PE X a ta))(hb:Bx (PE X b tb))(hs:zlS b):Bx (PE X (.Subscript a b pos) (tOp r ta tb)):=⟨pe_ix hr ha.1 hb.1 hs⟩
theorem zcZ (hu:X.A.units+1 < cLine)(ho:Bx (PE X o td))(hi:Bx (PE X i ty))(hs:NoSl i):Bx (PE X (.Subscript o i pos) (tDGet td ty)):=⟨zoM hu ho.1 hi.1 hs⟩
theorem zeu (hu:X.A.units+1 < cLine)(ho:Bx (PE X o td))(he:Bx (PE X e ty))(hf:Bx (PE X f tx))(m:M2 X o "get" apos e f cpos):Bx (PE X (.Call (.Attribute o "get" apos) [e,f] [] cpos) (znE td ty tx)):=⟨zmm hu ho.1 he.1 hf.1 m⟩
theorem zeP:Bx (PE X (.Dict [] [] pos) znx):=⟨zmz⟩
theorem zm9:Bx (PPs X pos [] [] []):=⟨zom⟩
theorem zeA {ks:List (Option Expr)}{vs:List Expr}{trs:List (TE×TE)}(hk:Bx (PE X a ta))(hv:Bx (PE X b tb))(hr:Bx (PPs X pos ks vs trs)):Bx (PPs X pos (some a::ks) (b::vs) ((ta,tb)::trs)):=⟨zm0 hk.1 hv.1 hr.1⟩
theorem znk {keys:List (Option Expr)}{values:List Expr}{trs:List (TE×TE)}(h:Bx (PPs X pos keys values trs))(hall:keys.all (·.isSome)=true)(hl:keys.length=values.length)(h0:keys≠[])(h15:keys.length≤15):Bx (PE X (.Dict keys values pos) (tDisp trs)):=⟨zoF h.1 hall hl h0 h15⟩
theorem ziW:Bx (PO X none zlN):=⟨zor⟩
theorem zfu (h:Bx (PE X e te)):Bx (PO X (some e) (tPart te)):=⟨zog h.1⟩
theorem zfE {r:V→Option Int→Option Int→Hp→VK→Prop}{p2:Pos}(hr:SlR X r)(he:Bx (PE X e te))(hl:Bx (PO X lo tlo))(hu:Bx (PO X hi thi)):Bx (PE X (.Subscript e (.Slice lo hi none p2) pos) (tSl r te tlo thi)):=⟨znm hr he.1 hl.1 hu.1⟩
theorem zat {r:List V→Hp→VK→Prop}{x:Str}{id:String}(hc:zc3 X (.builtin id) r)(hg:Gl X x)(hm:X.mg x=none)(hv:bootBuiltins x=some (.builtin id))(ha:Bx (PA X (e::es) t))(hn:x≠"__name__" :=by decide)(hdb:(x==("__debug__" :Str))=false:=by decide)
  (he:starEach (e::es) X.env=(false,eval e X.env)::starEach es X.env:=by rfl) (hpl:(backTo pos (starEach es X.env)).any (·.1)=false:=by rfl):Bx (PE X (.Call (.Name x p) (e::es) [] pos) (tCB r t)):=⟨zmv hc hg hm hv ha.1 hn hdb he hpl⟩
theorem zbK {r:List V→Hp→VK→Prop}{x:Str}{T:String}(hc:zc3 X (.type T) r)(hg:Gl X x)(hm:X.mg x=none)(hv:bootBuiltins x=some (.type T))(ha:Bx (PA X (e::es) t))(hn:x≠"__name__" :=by decide)(hdb:(x==("__debug__" :Str))=false:=by decide)
  (he:starEach (e::es) X.env=(false,eval e X.env)::starEach es X.env:=by rfl) (hpl:(backTo pos (starEach es X.env)).any (·.1)=false:=by rfl):Bx (PE X (.Call (.Name x p) (e::es) [] pos) (tCB r t)):=⟨zlG hc hg hm hv ha.1 hn hdb he hpl⟩
theorem zam {CX:CXT}{k:Nat}{fa:Addr}{fd:FuncData}{ps:List Str}{sp:Sp}{dvs:List V}{ds:List Value}{E:XK}{x:Str}(F:FnOk X.prog X.w X.K X.mg X.base CX k fa fd ps sp)(hr:Room k X.A)(hg:Gl X x)(hm:X.mg x=some (.ref fa))(hk:PySem.W.keepIn X.K (.ref fa)=true)
  (hb:zgp X.K fd ps ds) (hd:Vals dvs ds) (hx:zjd CX X E) (ha:Bx (PA X (e::es) t)) (hdb:(x==("__debug__" :Str))=false:=by decide)
  (he:starEach (e::es) X.env=(false,eval e X.env)::starEach es X.env:=by rfl) (hpl:(backTo pos (starEach es X.env)).any (·.1)=false:=by rfl):Bx (PE X (.Call (.Name x p) (e::es) [] pos) (tCall sp dvs E t)):=⟨znP F hr hg hm hk hb hd hx ha.1 hdb he hpl⟩
theorem zds {name:Str}{T id:String}{r:V→List V→Hp→VK→Prop}(pa:PlainAttrs T)(slot:Slot T name id)(hty:typeOf (.builtin id)=pure (.type "method_descriptor"))(hm:MtR X id r)(ho:Bx (PE X o to))(ha:Bx (PA X (e::es) t))
  (h1:attributeBase o name X.env (eval o X.env)=eval o X.env:=by rfl)
  (h2:((backTo cpos (starEach (e::es) X.env)).all (fun x=>!x.1) && (backToKw cpos (keywordEach [] X.env)).all (fun x=>x.1.isSome) && decide ((e::es).length+([]:List Keyword).length+(if ([]:List Keyword).isEmpty then 0 else 1) < 30))=true:=by rfl)
  (h3:(apos.endLine==cpos.line)=true:=by rfl) (h4:starEach (e::es) X.env=(false,eval e X.env)::starEach es X.env:=by rfl) (h5:(backTo cpos (starEach es X.env)).any (·.1)=false:=by rfl):
  Bx (PE X (.Call (.Attribute o name apos) (e::es) [] cpos) (tBM X.K T r to t)):=⟨pe_bm pa slot hty hm ho.1 ha.1 h1 h2 h3 h4 h5⟩
theorem zkp {name:Str}{T id:String}{r:V→List V→Hp→VK→Prop}(pa:PlainAttrs T)(slot:Slot T name id)(hty:typeOf (.builtin id)=pure (.type "method_descriptor"))(hm:MtR X id r)(ho:Bx (PE X o to))
  (hbase:attributeBase o name X.env (eval o X.env)=eval o X.env:=by rfl) (hline:(apos.endLine==cpos.line)=true:=by rfl):Bx (PE X (.Call (.Attribute o name apos) [] [] cpos) (tBM0 X.K T r to)):=⟨pe_bm0 pa slot hty hm ho.1 hbase hline⟩
theorem zax:Bx (PSs X [] tNext):=⟨zn0⟩
theorem zad (h1:Bx (PS X st s))(h2:Bx (PSs X sts u)):Bx (PSs X (st::sts) (tSeq s u)):=⟨znd h1.1 h2.1⟩
theorem zag (h1:Bx (PS X st s)):Bx (PSs X [st] s):=⟨znU h1.1⟩
theorem zf5:Bx (PS X st zny):=⟨zmo⟩
theorem zbm (he:Bx (PE X e te))(hs:swapsWith e none pos.line X.env=pure false:=by rfl):Bx (PS X (.Expr e pos) (tDrop te)):=⟨zob he.1 hs⟩
theorem zar (he:Bx (PE X e te)):Bx (PS X (.Return (some e) pos) (tRet te)):=⟨ps_ret he.1⟩
theorem zaP (hc:Bx (PT X c tA))(ha:Bx (PSs X body s))(hb:Bx (PSs X els u)):Bx (PS X (.If c body els pos) (tIfS tA s u)):=⟨ps_if hc.1 ha.1 hb.1⟩
theorem zaj {k:Nat}{x:Str}(hN:X.N.Nodup)(hi:X.N[k]? =some x)(hx:Loc X.env.scope x)(hf:X.fn x=true∨X.env.scope.names.lookup x=some .local:=by first | exact .inl rfl | exact .inr rfl | assumption):Bx (PG X (.Name x pos) (zeW k)):=⟨zof hN hi hx hf⟩
theorem zbI:Bx (PGs X [] gNil):=⟨znX⟩
theorem zaD (h1:Bx (PG X e g))(h2:Bx (PGs X es gs))(hs:(assignEach (e::es) X.env).map (·.2)=assign e X.env::(assignEach es X.env).map (·.2):=by rfl):Bx (PGs X (e::es) (zik g gs)):=⟨zmZ h1.1 h2.1 hs⟩
theorem zdz {k n:Nat}(hc:X.calm=true)(h:Bx (PGs X es gs))(hn:(assignEach es X.env).length=n:=by rfl)(hst:(assignEach es X.env).findIdx? (·.1)=none:=by rfl):Bx (PG X (.Tuple es k pos) (gTup X.K n gs)):=⟨znv hc h.1 hn hst⟩
theorem zfs {K:PySem.W.Frag}{k n:Nat}(hc:X.calm=true)(h:Bx (PGs X es gs))(hK:X.K=K:=by rfl)(hn:(assignEach es X.env).length=n:=by rfl)(hst:(assignEach es X.env).findIdx? (·.1)=none:=by rfl):Bx (PG X (.Tuple es k pos) (gTup K n gs)):=⟨zop hc h.1 hK hn hst⟩
theorem zoT {tset:TSet}(ho:Bx (PE X o to))(hi:Bx (PE X i ti))(hs:PSet X tset)
  (ha:∀ v,assign (.Subscript o i pos) X.env v=(do
   let ov ← holding [v] (eval o X.env)
   let iv ← holding [v,ov] (eval i X.env)
   standAt pos
   holding [v,ov,iv] (setItem ov iv v)
   release [v,ov,iv] []):=by intro _;rfl):Bx (PG X (.Subscript o i pos) (gSub to ti tset)):=⟨pg_sub ho.1 hi.1 hs ha⟩
theorem zlW (he:Bx (PE X e te))(hg:Bx (PG X tg g))(hs:swapsWithSole [tg] e pos.line X.env=pure false:=by rfl)(hw:swappedStores [tg] e X.env=pure none:=by rfl)
  (h1:(assignEach [tg] X.env).map (·.2)= [assign tg X.env]:=by rfl):Bx (PS X (.Assign [tg] e pos) (tAsg te g)):=⟨ps_asg he.1 hg.1 hs hw h1⟩
theorem zal {k:Nat}{x:Str}(hN:X.N.Nodup)(hi:X.N[k]? =some x)(hx:Loc X.env.scope x)(he:Bx (PE X e te))(hs:swapsWith e (some (.Name x pos')) pos.line X.env=pure false:=by rfl)(hf:X.fn x=true∨X.env.scope.names.lookup x=some .local:=by first | exact .inl rfl | exact .inr rfl | assumption):
  Bx (PS X (.Assign [.Name x pos'] e pos) (tAsg te (zeW k))):=⟨ps_set hN hi hx he.1 hs hf⟩
theorem zhh (hu:X.A.units+1 < cLine)(ho:Bx (PE X o td))(hi:Bx (PE X i ty))(hv:Bx (PE X value tv))(hs:swapsWith value (some (.Subscript o i pos')) pos.line X.env=pure false:=by rfl):Bx (PS X (.Assign [.Subscript o i pos'] value pos) (sDPut td ty tv)):=⟨zoQ hu ho.1 hi.1 hv.1 hs⟩
theorem zaQ (hp:PassesOwn (model X.prog X.w) X.A X.env X.xe)(hc:X.calm=true)(hi:Bx (PI X tg iter wi))(hg:Bx (PG X tg g))(hb:Bx (PSs X body tb'))(hs:∀ x,foldedSetIterable iter X.env x=pure x:=by intro _;rfl):Bx (PS X (.For tg iter body [] pos) (tFor wi g tb')):=⟨ps_for hp hc hi.1 hg.1 hb.1 hs⟩
theorem zaH (hl:Bx (PE X l tl)):Bx (PI X tg l (iList X.K tl)):=⟨zoe hl.1⟩
theorem zin (hl:Bx (PE X l tl)):Bx (PI X tg l (iTup X.K tl)):=⟨pi_tup hl.1⟩
theorem zaZ (hg:Gl X "range")(hm:X.mg "range" =none)(ha:Bx (PA X [a] t))(hs:starEach [a] X.env= [(false,eval a X.env)]:=by rfl):Bx (PI X tg (.Call (.Name "range" p) [a] [] pos) (iRng1 t)):=⟨zkl hg hm ha.1 hs⟩
theorem zj1 (hg:Gl X "range")(hm:X.mg "range" =none)(ha:Bx (PA X [a,b] t))(hs:starEach [a,b] X.env= [(false,eval a X.env),(false,eval b X.env)]:=by rfl)(hs2:starEach [b] X.env= [(false,eval b X.env)]:=by rfl):Bx (PI X tg (.Call (.Name "range" p) [a,b] [] pos) (iRng2 t)):=⟨zlk hg hm ha.1 hs hs2⟩
theorem zeo {elts:List Expr}{k:Nat}{tp:Pos}(hg:Gl X "enumerate")(hm:X.mg "enumerate" =none)(ha:Bx (PA X [a] t))(hs:starEach [a] X.env= [(false,eval a X.env)]:=by rfl):Bx (PI X (.Tuple elts k tp) (.Call (.Name "enumerate" p) [a] [] pos) (iEnum X.K t)):=⟨zoK hg hm ha.1 hs⟩
theorem zaN:Bx (PTs X [] tYes):=⟨zoj⟩
theorem zc0 (h:Bx (PT X c tA)):Bx (PTs X [c] tA):=⟨znM h.1⟩
theorem zaM {ifs:List Expr}{scope:Scope}{N:List Str}{n:Nat}{cap:List Nat}(hc:X.calm=true)(B:Blk X scope N n cap)(hi:Bx (PI X tg iter wi))(hk:ziA n g)
  (hg:∀ cl fp s H,Bx (PG (zbp X N scope cl fp s H) tg g)) (ht:∀ cl fp s H,Bx (PTs (zbp X N scope cl fp s H) ifs tt)) (he:∀ cl fp s H,Bx (PE (zbp X N scope cl fp s H) elt te))
  (hs:∀ x,foldedSetIterable iter X.env x=pure x:=by intro _;rfl):Bx (PE X (.ListComp elt [⟨tg,iter,ifs,0⟩] scope pos) (zmw n cap wi g tt te)):=
 ⟨zoz hc B hi.1 hk (fun cl fp s H=>(hg cl fp s H).1) (fun cl fp s H=>(ht cl fp s H).1) (fun cl fp s H=>(he cl fp s H).1) hs⟩
theorem zdn {ifs:List Expr}{scope:Scope}{N:List Str}{n:Nat}{cap:List Nat}{k:Nat}{x:Str}(hc:X.calm=true)(B:Blk X scope N n cap)(hN:X.N.Nodup)(hi:X.N[k]? =some x)(hx:X.env.scope.names.lookup x=some .local)(hit:Bx (PI X tg iter wi))(hk:ziA n g)
  (hg:∀ cl fp s H,Bx (PG (zbp X N scope cl fp s H) tg g)) (ht:∀ cl fp s H,Bx (PTs (zbp X N scope cl fp s H) ifs tt)) (he:∀ cl fp s H,Bx (PE (zbp X N scope cl fp s H) elt te))
  (hsw:swapsWith (.ListComp elt [⟨tg,iter,ifs,0⟩] scope pos) (some (.Name x pos')) spos.line X.env=pure true) (hs:∀ x,foldedSetIterable iter X.env x=pure x:=by intro _;rfl):
  Bx (PS X (.Assign [.Name x pos'] (.ListComp elt [⟨tg,iter,ifs,0⟩] scope pos) spos) (tAsg (zmw n cap wi g tt te) (zeW k))):=
 ⟨znQ hc B hN hi hx hit.1 hk (fun cl fp s H=>(hg cl fp s H).1) (fun cl fp s H=>(ht cl fp s H).1) (fun cl fp s H=>(he cl fp s H).1) hsw hs⟩
end
section
variable {P:Program} {w:World} {K:PySem.W.Frag} {mg:Str→Option Value} {base:Heap}
theorem Fun.okB {x qual:Str}{st:Stmt}{f:Addr}{fd:FuncData}{N ps:List Str}{k:Nat}{sp:Sp}(F:Fun K x qual st f fd)(S:zaw N ps (zak st))(len:∀ vs H Q E,sp vs H Q E→vs.length=ps.length)
  (hbody:∀ (cdv:Value) (A:Around) (outer:List Env) (s:Shared) (H:Hp) (vs:List V) (Q:VK) (E:XK),Room k (A.deeper (envOfC qual (zak st) s.heap.objs.size f cdv))→sp vs H Q E→
   ∃ t,Bx (PSs (cxOf CX0 P w K mg base N qual (zak st) f cdv A outer s H E).nox (zbs st) t)∧t {nx:=fun _ H'=>Q .non H',rt:=Q} (start N vs) H):FnOk P w K mg base CX0 (k+1) f fd ps sp:=
 F.ok S len fun cdv A outer s H vs Q E hr h=>let ⟨t,a,b⟩:=hbody cdv A outer s H vs Q E hr h;⟨t,a.1,b⟩
end
section
variable {X:Cx}
theorem zkf {its:List Value}{ns:List Int}(h:IntsAre its ns):∃ xs:Array (Int×Tok),its.toArray=intItems xs∧xs.toList.map (·.1)=ns:=by
 obtain ⟨xs,e⟩:=h.allInts.items
 refine ⟨xs,e,?_⟩
 rw [← nums_intItems,← e]
 exact h.numsOf
theorem zmd (hc:X.calm=true):zc3 X (.builtin "sum") (fun xs H Q=>∃ (p:Addr) (ns:List Int),xs= [.ref p]∧SqL X.K H p (ns.map V.int)∧Q (.int ns.sum) H):=by
 intro pins s σ H xs us Q I r ⟨p,ns,e,hq,q⟩
 subst e
 obtain ⟨u,rfl,rx⟩:=zgs r
 cases rx
 obtain ⟨its,rv,pl,hz⟩:=I.list hq
 obtain ⟨zs,e,en⟩:=zkf (L2.zjG rv)
 refine sum_intListG (I.ok.hd hc) (by rw [← e];exact pl.isList) fun h' tk t' hk=>?_
 rw [preSum_eq,xD (by simp),en]
 exact ⟨.int ns.sum,H,I.kept (t':=tk) hk,⟨t',rfl⟩,q⟩
theorem zjn {bs:List Bool}:∀ {us:List Value} {j:Nat} {v:Value},Vals (bs.map V.bl) us→us[j]? =some v→∃ b,bs[j]? =some b∧v= .bool b:=by
 intro us j v r h
 have hl:=r.length
 have hj:j < us.length:=(yE.mp h).1
 have hb:j < bs.length:=by rw [yB] at hl;omega
 obtain ⟨u,hu,ru⟩:=r.get (i:=j) (x:=.bl bs[j]) (by simp [hb])
 rw [h] at hu
 cases hu
 exact ⟨bs[j],by simp [hb],ru⟩
theorem zkA (bs:List Bool):(qI bs.length).all (fun j=>(bs[j]?).getD true)=bs.all id:=by
 rw [xG,yZ,yZ]
 constructor
 ·intro h b hb
  obtain ⟨j,hj,e⟩:=ybB.mp hb
  have:=h j (qN.mpr hj)
  rw [yF hj] at this
  simpa [e] using this
 ·intro h j hj
  have hj:=qN.mp hj
  rw [yF hj]
  exact h _ (xU hj)
theorem zic (hc:X.calm=true):zc3 X (.builtin "all") (fun xs H Q=>∃ (p:Addr) (bs:List Bool),xs= [.ref p]∧SqL X.K H p (bs.map V.bl)∧Q (.bl (bs.all id)) H):=by
 intro pins s σ H xs us Q I r ⟨p,bs,e,hq,q⟩
 subst e
 obtain ⟨u,rfl,rx⟩:=zgs r
 cases rx
 obtain ⟨its,rv,pl,hz⟩:=I.list hq
 have hl:its.toArray.size=bs.length:=by
  have:=rv.length
  simpa using this.symm
 have hlt:p < s.heap.objs.size:=by
  obtain ⟨o,ho,_⟩:=pl.isList
  exact yS ho
 refine call_all_walk (wpAny_pyIter_list pl.isList ?_)
 refine ⟨_,_,_,_,_,_,fun j=>(bs[j]?).getD true,rfl,yaz (A:=X.A.in1) (I.ok.hd hc) _ p (qA hlt) its.toArray,⟨⟨_,yO _ rfl,rfl,rfl⟩,pl.isList.at fun o e=>yD _ e⟩,?_,fun h' tk hk=>?_⟩
 ·intro j v s' Q' E' hv hQ
  obtain ⟨b,hb,rfl⟩:=zjn rv (show its[j]? =some v by simpa using hv)
  dsimp only at hQ
  rw [hb] at hQ
  exact wpAny_truthy_bool hQ
 ·rw [hl,zkA]
  refine ⟨.bl _,H,I.kept (t':=tk) fun b o e=>hk b o ?_ (yD _ e),rfl,q⟩
  intro z
  have:b=s.heap.objs.size:=by simpa using z
  exact qA (yS e) this
end
open PySem.W (Dat kqdP kqdPs kqdOk)
theorem zaf {H:Hp}{p:Addr}(h:H p=none)(o:HO):Same H (upd H p o):=fun b u q=>by rw [zah (zai q h)];exact q
theorem Same.upd {H H':Hp}(s:Same H H'){p:Addr}(h:H' p=none)(o:HO):Same H (upd H' p o):=s.trans (zaf h o)
theorem Same.write {H H':Hp}(s:Same H H'){p:Addr}(h:H p=none)(o:HO):Same H (L2.upd H' p o):=fun b u q=>by rw [zah (zai q h)];exact s b u q
noncomputable def zdw (p:Addr) (H H':Hp):Prop:=∀ b o,b≠p→H b=some o→H' b=some o
theorem zdw.refl (p:Addr)(H:Hp):zdw p H H:=fun _ _ _ h=>h
theorem Same.b {H H':Hp}(s:Same H H')(p:Addr):zdw p H H':=fun b o _ h=>s b o h
theorem zdw.trans {p:Addr}{H H1 H2:Hp}(a:zdw p H H1)(b:zdw p H1 H2):zdw p H H2:=fun c o n h=>b c o n (a c o n h)
theorem zdw.write {p:Addr}{H H1:Hp}(a:zdw p H H1)(o:HO):zdw p H (L2.upd H1 p o):=fun c u n h=>by rw [zah n];exact a c u n h
theorem zdw.same {p:Addr}{G H H1:Hp}(s:Same G H)(g:G p=none)(a:zdw p H H1):Same G H1:=fun b o q=>a b o (zai q g) (s b o q)
structure Bld (K:PySem.W.Frag) (H0:Hp) (p:Addr) (xs:List V) (ds:List Dat) (H:Hp):Prop where
 ex:∃ G,Same H0 G∧Same G H∧G p=none∧Reps K G xs ds
 at_:H p=some (.lst xs)
section
variable {K:PySem.W.Frag} {H0 H:Hp} {p T:Addr} {xs vs:List V} {ds es:List Dat}
theorem Bld.start (h:H0 p=none):Bld K H0 p [] [] (upd H0 p (.lst [])):=⟨⟨H0,Same.refl _,zaf h _,h,.nil⟩,zab⟩
theorem Bld.same (b:Bld K H0 p xs ds H):Same H0 H:=by
 obtain ⟨G,a,c,_⟩:=b.ex
 exact a.trans c
theorem Bld.out (b:Bld K H0 p xs ds H):H0 p=none:=by
 obtain ⟨G,a,_,c,_⟩:=b.ex
 exact a.free c
theorem Bld.reps (b:Bld K H0 p xs ds H):Reps K H xs ds:=by
 obtain ⟨G,_,a,_,r⟩:=b.ex
 exact r.mono a
theorem Bld.len (b:Bld K H0 p xs ds H):xs.length=ds.length:=b.reps.length
theorem Bld.sq (b:Bld K H0 p xs ds H):SqL K H p xs:=.of b.at_
theorem Bld.rep (b:Bld K H0 p xs ds H):Rep K H (.ref p) (.list ds):=.lst b.sq b.reps
theorem Bld.new (b:Bld K H0 p xs ds H)(h:H T=none)(o:HO):Bld K H0 p xs ds (upd H T o):=by
 obtain ⟨G,a,c,n,r⟩:=b.ex
 exact ⟨⟨G,a,c.upd h o,n,r⟩,by rw [zah (zai b.at_ h)];exact b.at_⟩
theorem Bld.grow {H':Hp}(b:Bld K H0 p xs ds H)(s:Same H H'):Bld K H0 p xs ds H':=by
 obtain ⟨G,a,c,n,r⟩:=b.ex
 exact ⟨⟨G,a,c.trans s,n,r⟩,s _ _ b.at_⟩
theorem Bld.other {q:Addr}{o:HO}(b:Bld K H0 p xs ds H)(hq:q≠p)(hG:∀ G,Same H0 G→Same G H→G p=none→Reps K G xs ds→∃ G',Same H0 G'∧Same G' H∧G' p=none∧G' q=none∧Reps K G' xs ds):Bld K H0 p xs ds (upd H q o):=by
 obtain ⟨G,a,c,n,r⟩:=b.ex
 obtain ⟨G',a',c',n',nq,r'⟩:=hG G a c n r
 exact ⟨⟨G',a',c'.write nq o,n',r'⟩,by rw [zah (qR hq)];exact b.at_⟩
theorem Bld.push {v:V}{d:Dat}(b:Bld K H0 p xs ds H)(r:Rep K H0 v d):Bld K H0 p (xs++ [v]) (ds++ [d]) (upd H p (.lst (xs++ [v]))):=by
 obtain ⟨G,a,c,n,rs⟩:=b.ex
 exact ⟨⟨G,a,c.write n _,n,rs.snoc (r.mono a)⟩,zab⟩
theorem Bld.pushT (b:Bld K H0 p xs ds H)(h:H T=none)(r:Reps K H0 vs es):Bld K H0 p (xs++ [.ref T]) (ds++ [.tuple es]) (upd (upd H T (.tup vs)) p (.lst (xs++ [.ref T]))):=by
 obtain ⟨G,a,c,n,rs⟩:=b.ex
 have hT:G T=none:=c.free h
 have pT:p≠T:=zai b.at_ h
 have s1:Same G (upd G T (.tup vs)):=zaf hT _
 refine ⟨⟨upd G T (.tup vs),a.trans s1,fun x u q=>?_,by rw [zah pT];exact n,(rs.mono s1).snoc (.tup (.of zab) ((r.mono a).mono s1))⟩,zab⟩
 by_cases e:x=T
 ·subst e
  rw [zab] at q
  rw [zah (qR pT),zab]
  exact q
 ·rw [zah e] at q
  rw [zah (zai q n),zah e]
  exact c x u q
end
theorem big {n:Nat}(h:n≤100000):n < yK:=ybR h (by decide)
theorem bigE {n:Nat}(h:n≤100000):n≤yK:=wP (big h)
end L2
namespace L2
open PySem PySem.Spec PyProof.Rows
open PySem.W (Dat kqdP kqdPs kqdOk)
noncomputable def rInD (K:PySem.W.Frag) (neg:Bool):R2:=fun x y H Q=>∃ d ds,Rep K H x d∧Rep K H y (.list ds)∧kqdOk 8 d=true∧(∀ e∈ds,kqdOk 8 e=true)∧(d∈ds→Q (.bl (!neg)) H)∧(d∉ds→Q (.bl neg) H)
section
variable {X:Cx}
open Classical in
theorem zkI {pins:List (Addr×Obj)}{σ :St}{H:Hp}{s:Shared}{x y:V}{v u:Value}{d:Dat}{ds:List Dat}(I:Inv X pins σ H s)(hu:X.A.units+64 < cLine)(rx:RelV x v)(ry:RelV y u)
  (hx:Rep X.K H x d) (hy:Rep X.K H y (.list ds)) (kd:kqdOk 8 d=true) (ks:∀ e∈ds,kqdOk 8 e=true):
  ∃ (p:Addr) (its:List Value) (e:Value→Bool),u= .ref p∧s.heap.IsList p its.toArray∧(∀ z,z∈its.toArray→jP X.A.in1 s z v (e z))∧(its.toArray.any e=true↔d∈ds):=by
 cases hy with
 | lst hq rq=>
  cases (show _=_ from ry)
  obtain ⟨its,r,pl,hz⟩:=I.list hq
  obtain ⟨as,ra⟩:=Rep.reads I 8 hx rx kd
  have room:∀ di,kqdOk 8 di=true→X.A.in1.units+min (kqdP di).depth (kqdP d).depth < cLine:=fun di k=>by
   have l:=(PySem.W.kqd_lay 8 di k).2
   rw [yb8]
   omega
  have back:∀ {xs:List V} {us:List Value} {i:Nat} {u:Value},Vals xs us→us[i]? =some u→∃ x,xs[i]? =some x∧RelV x u:=fun {xs us i u} r e=>by
   have hi:i < xs.length:=by rw [r.length];exact (yE.mp e).1
   obtain ⟨u',h1,h2⟩:=r.get (yF hi)
   rw [e] at h1
   cases h1
   exact ⟨_,yF hi,h2⟩
  have each:∀ z∈its,∃ di,di∈ds∧∃ bs,Reads s.heap z (kqdP di) bs:=by
   intro z hz
   obtain ⟨i,hi⟩:=vR hz
   obtain ⟨w,hw,rw'⟩:=back r hi
   obtain ⟨di,hdi,rdi⟩:=rq.get hw
   exact ⟨di,yH hdi,Rep.reads I 8 rdi rw' (ks di (yH hdi))⟩
  have same:∀ di,di∈ds→kqdP di=kqdP d→di=d:=fun di hd e=>by
   have z:=(PySem.W.kqd_eqv 8 d d 8 kd kd).mpr rfl
   exact (PySem.W.kqd_eqv 8 di d 8 (ks di hd) kd).mp (by rw [e];exact z)
  refine ⟨_,its,fun z=>decide (∃ bs,Reads s.heap z (kqdP d) bs),rfl,pl.isList,fun z hz=>?_,?_⟩
  ·obtain ⟨di,hd,bs,rb⟩:=each z (by simpa using hz)
   have q:=yb9 _ _ X.A.in1 s z v bs as rb ra (xE (zbu (ks di hd))) (xE (zbu kd)) (room di (ks di hd))
   have e:yay (kqdP di) (kqdP d)=decide (∃ bs,Reads s.heap z (kqdP d) bs):=by
    by_cases h:di=d
    ·subst h
     rw [(PySem.W.kqd_eqv 8 di di 8 kd kd).mpr rfl]
     exact (decide_eq_true ⟨bs,rb⟩).symm
    ·have e1:yay (kqdP di) (kqdP d)=false:=by
      cases c:yay (kqdP di) (kqdP d) with
      | true=>exact absurd ((PySem.W.kqd_eqv 8 di d 8 (ks di hd) kd).mp c) h
      | false=>rfl
     rw [e1]
     refine (decide_eq_false ?_).symm
     rintro ⟨cs,rc⟩
     exact h (same di hd (yaM _ _ z bs cs (xE (zbu (ks di hd))) rb rc))
   show jP X.A.in1 s z v (decide (∃ bs,Reads s.heap z (kqdP d) bs))
   rw [← e]
   exact q
  ·rw [Array.any_eq_true']
   constructor
   ·rintro ⟨z,hz,c⟩
    obtain ⟨cs,rc⟩:=of_decide_eq_true c
    obtain ⟨di,hd,bs,rb⟩:=each z (by simpa using hz)
    have:=same di hd (yaM _ _ z bs cs (xE (zbu (ks di hd))) rb rc)
    exact this ▸ hd
   ·intro hd
    obtain ⟨i,hi⟩:=vR hd
    obtain ⟨w,hw,rw'⟩:=rq.getD hi
    obtain ⟨z,hz,rz⟩:=r.get hw
    exact ⟨z,by simpa using yH hz,decide_eq_true (Rep.reads I 8 rw' rz kd)⟩
theorem op_inD (hu:X.A.units+64 < cLine):OpR X (compareOp .In) (rInD X.K false):=by
 intro pins s σ H x y v u Q I rx ry ⟨d,ds,hx,hy,kd,ks,q1,q2⟩
 obtain ⟨p,its,e,rfl,hl,he,hm⟩:=zkI I hu rx ry hx hy kd ks
 refine ycb e hl he ?_
 by_cases h:d∈ds
 ·rw [hm.mpr h]
  exact ⟨.bl true,H,I,rfl,q1 h⟩
 ·have z:its.toArray.any e=false:=by
   cases c:its.toArray.any e with
   | true=>exact absurd (hm.mp c) h
   | false=>rfl
  rw [z]
  exact ⟨.bl false,H,I,rfl,q2 h⟩
theorem zlp (hu:X.A.units+64 < cLine):OpR X (compareOp .NotIn) (rInD X.K true):=by
 intro pins s σ H x y v u Q I rx ry ⟨d,ds,hx,hy,kd,ks,q1,q2⟩
 obtain ⟨p,its,e,rfl,hl,he,hm⟩:=zkI I hu rx ry hx hy kd ks
 refine ybO e hl he ?_
 by_cases h:d∈ds
 ·rw [hm.mpr h]
  exact ⟨.bl false,H,I,rfl,q1 h⟩
 ·have z:its.toArray.any e=false:=by
   cases c:its.toArray.any e with
   | true=>exact absurd (hm.mp c) h
   | false=>rfl
  rw [z]
  exact ⟨.bl true,H,I,rfl,q2 h⟩
end
section
variable {X:Cx} {K:PySem.W.Frag}
theorem zn4 (hu:X.A.units+64 < cLine)(h:X.K=K:=by rfl):OpR X (compareOp .In) (rInD K false):=by subst h;exact op_inD hu
theorem zj7 (hu:X.A.units+64 < cLine)(h:X.K=K:=by rfl):OpR X (compareOp .NotIn) (rInD K true):=by subst h;exact zlp hu
end
section
variable {g:TG} {tt:TT} {te:TE} {n0:Nat} {cap:List Nat} {σ :St} {Q:VK} {D:Addr} {H1:Hp} {K:PySem.W.Frag}
theorem zfv {a:Addr}{xs:List V}(Pv:Nat→Hp→Prop)(h0:Pv 0 (upd H1 D (.lst [])))(hl:∀ i H,i≤xs.length→Pv i H→SqL K H a xs)
  (hs:∀ i x H T,xs[i]? =some x→Pv i H→H T=none→g (.ref T) (zbt n0 cap σ) (upd H T (.tup [.int i,x])) fun σ2 H2=>tt σ2 H2 fun b H3=>if b=true then te σ2 H3 fun y H4=>∃ xs,H4 D=some (.lst xs)∧xs.length < yK∧Pv (i+1) (upd H4 D (.lst (xs++ [y]))) else Pv (i+1) H3)
  (hd:∀ H,Pv xs.length H→Q (.ref D) H):
  zc2 (Ite K a) D n0 cap σ g tt te Q H1:=by
 refine ⟨fun i m H=>m=xs.length - i∧i≤xs.length∧Pv i H,⟨xs.length,by simp,qM _,h0⟩,?_⟩
 rintro i m H ⟨rfl,hi,p⟩
 have q:=hl i H hi p
 by_cases hlt:i < xs.length
 ·refine .inr ⟨⟨xs,xs[i],q,by simp [hlt]⟩,Pv (i+1),fun H' p'=>⟨xs.length - (i+1),by omega,rfl,hlt,p'⟩,fun x H' y=>?_⟩
  obtain ⟨T,z,hT,e1,e2,y⟩:=y
  subst e1 e2
  exact hs i z H T (y xs q) p hT
 ·have e:i=xs.length:=by omega
  subst e
  exact .inl ⟨⟨xs,q,yL _⟩,hd H p⟩
end
end L2
namespace L2
open PySem PySem.Spec PyProof.Rows
open PySem.W (Dat kqdP kqdPs kqdOk)
structure Off (M:List Addr) (G H:Hp):Prop where
 same:Same G H
 out:∀ m∈M,G m=none
 there:∀ m∈M,∃ o,H m=some o
section
variable {M:List Addr} {G G1 G2 H H':Hp} {T m:Addr} {o u:HO}
theorem Off.ne (f:Off M G H)(h:H T=none):T∉M:=fun z=>by
 obtain ⟨o,e⟩:=f.there T z
 rw [h] at e
 cases e
theorem Off.ne' (f:Off M G H)(h:H T=none)(hm:m∈M):m≠T:=fun z=>f.ne h (z ▸ hm)
theorem Off.new (f:Off M G H)(h:H T=none)(o:HO):Off M G (upd H T o):=⟨f.same.upd h o,f.out,fun m hm=>by
 obtain ⟨u,e⟩:=f.there m hm
 exact ⟨u,zaf h o _ _ e⟩⟩
theorem Off.grow (f:Off M G H)(s:Same H H'):Off M G H':=⟨f.same.trans s,f.out,fun m hm=>by
 obtain ⟨u,e⟩:=f.there m hm
 exact ⟨u,s _ _ e⟩⟩
theorem Off.lay (f:Off M G H)(h:H T=none)(o:HO):Off M (upd G T o) (upd H T o):=⟨fun b v q=>by
  by_cases e:b=T
  ·subst e
   rw [zab] at q ⊢
   exact q
  ·rw [zah e] at q ⊢
   exact f.same b v q,
 fun m hm=>by rw [zah (f.ne' h hm)];exact f.out m hm,(f.new h o).there⟩
theorem Off.write (f:Off M G H)(hm:m∈M)(o:HO):Off M G (upd H m o):=⟨f.same.write (f.out m hm) o,f.out,fun k hk=>by
 by_cases e:k=m
 ·subst e
  exact ⟨o,zab⟩
 ·obtain ⟨u,e'⟩:=f.there k hk
  exact ⟨u,by rw [zah e];exact e'⟩⟩
theorem Off.sb (f:Off M G H)(hm:m∈M)(s:zdw m H H')(e:H' m=some o):Off M G H':=⟨s.same f.same (f.out m hm),f.out,fun k hk=>by
 by_cases ek:k=m
 ·subst ek
  exact ⟨o,e⟩
 ·obtain ⟨u,e'⟩:=f.there k hk
  exact ⟨u,s k u ek e'⟩⟩
theorem Off.opn (f:Off M G H)(h:H T=none)(o:HO):Off (T::M) G (upd H T o):=⟨f.same.upd h o,fun m hm=>by
  rcases yY.mp hm with rfl | hm
  ·exact f.same.free h
  ·exact f.out m hm,
 fun m hm=>by
  rcases yY.mp hm with rfl | hm
  ·exact ⟨o,zab⟩
  ·exact (f.new h o).there m hm⟩
theorem Off.drop (f:Off (m::M) G H):Off M G H:=⟨f.same,fun k hk=>f.out k (.tail _ hk),fun k hk=>f.there k (.tail _ hk)⟩
theorem Off.less {N:List Addr}(f:Off M G H)(h:∀ k∈N,k∈M):Off N G H:=⟨f.same,fun k hk=>f.out k (h k hk),fun k hk=>f.there k (h k hk)⟩
theorem Off.close (f:Off (m::M) G H)(e:H m=some o)(hn:m∉M):Off M (upd G m o) H:=⟨fun b v q=>by
  by_cases eb:b=m
  ·subst eb
   rw [zab] at q
   rw [e]
   exact q
  ·rw [zah eb] at q
   exact f.same b v q,
 fun k hk=>by
  have:k≠m:=fun z=>hn (z ▸ hk)
  rw [zah this]
  exact f.out k (.tail _ hk),fun k hk=>f.there k (.tail _ hk)⟩
theorem Off.cadd (f:Off (m::M) G H)(o:HO):Same G (upd G m o):=zaf (f.out m (.head _)) o
theorem Off.take {a:Addr}(f:Off M G H)(e:H a=some o)(hn:a∉M):Off M (upd G a o) H∧Same G (upd G a o):=by
 refine ⟨⟨fun b v q=>?_,fun k hk=>?_,f.there⟩,fun b v q=>?_⟩
 ·by_cases eb:b=a
  ·subst eb
   rw [zab] at q
   rw [e]
   exact q
  ·rw [zah eb] at q
   exact f.same b v q
 ·have:k≠a:=fun z=>hn (z ▸ hk)
  rw [zah this]
  exact f.out k hk
 ·by_cases eb:b=a
  ·subst eb
   have:=f.same _ _ q
   rw [e] at this
   rw [zab]
   exact this
  ·rw [zah eb]
   exact q
theorem Off.join (f:Off M G1 H)(g:Off M G2 H):∃ G,Off M G H∧Same G1 G∧Same G2 G:=by
 refine ⟨fun b=>match G1 b with | some o=>some o | none=>G2 b,⟨fun b v q=>?_,fun m hm=>?_,f.there⟩,fun b v q=>?_,fun b v q=>?_⟩
 ·cases e:G1 b with
  | some o=>simp only [e] at q;rw [← q];exact f.same b o e
  | none=>simp only [e] at q;exact g.same b v q
 ·simp only [f.out m hm]
  exact g.out m hm
 ·simp only [q]
 ·cases e:G1 b with
  | some o=>
   have:=f.same b o e
   rw [g.same b v q] at this
   simp only [e]
   exact this.symm
  | none=>simp only [e];exact q
theorem Off.start {p:Addr}(h:H p=none)(o:HO):Off [p] H (upd H p o):=⟨zaf h o,fun m hm=>by rw [yG.mp hm];exact h,fun m hm=>by rw [yG.mp hm];exact ⟨o,zab⟩⟩
theorem zdw.new {p:Addr}(a:zdw p H H')(h:H' T=none)(o:HO):zdw p H (L2.upd H' T o):=a.trans ((zaf h o).b p)
theorem zdw.free {p:Addr}(a:zdw p H H')(h:H' T=none)(hp:T≠p):H T=none:=by
 cases e:H T with
 | none=>rfl
 | some u=>rw [a T u hp e] at h;cases h
end
theorem Reps.erase {K:PySem.W.Frag}{H:Hp}:∀ {vs:List V} {ds:List Dat} (i:Nat),Reps K H vs ds→Reps K H (vs.eraseIdx i) (ds.eraseIdx i)
 | _,_,_,.nil=>.nil
 | _,_,0,.cons _ r=>r
 | _,_,i+1,.cons h r=>.cons h (Reps.erase i r)
end L2
namespace L2
open PySem PySem.Spec PyProof.Rows
noncomputable def zfg (kvs more:List (List Key×V)):List (List Key×V):=more.foldl (fun acc kv=>putK acc kv.1 kv.2) kvs
noncomputable def storeAll (acc xs:List (List Key×Addr×Value)):List (List Key×Addr×Value):=xs.foldl (fun acc x=>storedH acc x.1 x.2.1 x.2.2) acc
noncomputable abbrev zeV (H:Hp):List V→List (List Key×V)→Prop:=Paired fun x kv=>∃ p kt,x=V.ref p∧H p=some (.tup [.ref kt,kv.2])∧RdT H kt (kv.1.map kV)
theorem zl0:typeLookup (.type "list") "keys" =pure none:=am_miss_of_fast (by kernel_rfl)
theorem zd8:entryFor table "dict.update.loop" =some Builtin.«dict.update.loop» :=entryFor_of_fast (by kernel_rfl)
theorem zcd:plainId "dict.update.loop" =true:=by decide+kernel
theorem zg5 (xs:List (List Key×Addr×Value)){i:Nat}{x:List Key×Addr×Value}(h:xs[i]? =some x):storeAll [] (xs.take (i+1))=storedH (storeAll [] (xs.take i)) x.1 x.2.1 x.2.2:=by
 unfold storeAll
 rw [yR,h,yaf]
 rfl
theorem zj9 (xs:List (List Key×Addr×Value))(k:List Key)(b:Addr)(v:Value):(storedH xs k b v).length≤xs.length+1:=by
 unfold storedH
 split
 ·rw [yB];omega
 ·rw [yI,qC];omega
theorem zfC:∀ (xs acc:List (List Key×Addr×Value)),(storeAll acc xs).length≤acc.length+xs.length
 | [],acc=>by show acc.length≤acc.length+0;omega
 | x::r,acc=>by
  have h1:=zfC r (storedH acc x.1 x.2.1 x.2.2)
  have h2:=zj9 acc x.1 x.2.1 x.2.2
  show (storeAll (storedH acc x.1 x.2.1 x.2.2) r).length≤_
  rw [jE];omega
section
variable {prog:Program} {w:World} {A:Around} {E:Value→Shared→Prop} {s:Shared}
theorem zeI {a:Addr}{o:Obj}{xs:Array Value}{k:Nat}{Q:Option Value→Shared→Prop}
  (hx:s.heap.get? a=some o) (hc:o.cls= .type "list") (hdat:o.data= .seq xs k) (hd:o.dict=none) (hA:A.handled=none)
  (h:∀ h' tk,(∀ b ob,s.heap.get? b=some ob→h'.get? b=some ob)→Q none {s with heap:=h',toks:=tk}):
  wpAny (model prog w) A (getAttr? (.ref a) "keys") Q E s:=by
 obtain ⟨c,dct,dat,sl⟩:=o
 simp only at hc hdat hd
 subst hc hdat hd
 obtain ⟨hp,g,d,tk,os⟩:=s
 have hT:∀ tk',(⟨hp,g,d,tk',os⟩:Shared).TypeIs (.ref a) "list" :=fun _=>⟨_,hx,rfl⟩
 have f1:=sub_AttributeError
 have f3:=F.slot_list_getattribute.lookup
 have f4:=F.slot_list_getattribute.bind (.ref a)
 have f5:=am_list_getattr_none
 unfold getAttr? getAttrBy? getAttrBy
 repeat (any_goals (first | assumption | exact hT _ | ((with_reducible show wpAny _ _ (call (Value.builtin "list.__getattribute__") _ _) _ _ _);refine call_meets F.slot_list_getattribute (hT _) am_entry_list_getattribute (F.args_list_getattribute_2 _ _) (meets_getattribute_miss_list a xs k sl "keys" _ zl0 (by decide+kernel) (by decide+kernel)) ⟨hx,hA,fun h' tk' e hx'=>?_⟩) | wp_step))
 obtain ⟨t',u',he⟩:=hx'.there
 show wpAny _ _ (getattributeRaised _ _ _ _ _ _ _) _ _ _
 unfold getattributeRaised
 repeat (any_goals (first | assumption | wp_step))
 exact h _ _ hx'.keeps
end
section
variable {prog:Program} {w:World} {A:Around} {R:Result→Shared→Prop}
theorem ziY {h h':Heap}{k:List Key}{a:Addr}(hk:(tupleKind (zaG prog w)).is h k a)(keep:∀ o,h.get? a=some o→h'.get? a=some o):(tupleKind (zaG prog w)).is h' k a:=by
 obtain ⟨o,it,n,e,r⟩:=hk
 exact ⟨o,it,n,keep _ e,r⟩
theorem ziZ {h:Heap}{I L:Addr}{i:Nat}(hit:h.IsListIter I L i):∃ oi,h.get? I=some oi∧oi.cls= .type "list_iterator" :=by
 obtain ⟨o,e,c,_⟩:=hit
 exact ⟨o,e,c⟩
theorem zgC {h h':Heap}{I d:Addr}{acc:List (List Key×Addr×Value)}(hm:h.DictOfH (tupleKind (zaG prog w)) d acc)(hI:∃ oi,h.get? I=some oi∧oi.cls= .type "list_iterator")
  (hk:∀ b o,b≠I→h.get? b=some o→h'.get? b=some o):h'.DictOfH (tupleKind (zaG prog w)) d acc:=by
 obtain ⟨o,es,ep,h1,h2,h3,h4,his,h5⟩:=hm
 obtain ⟨oi,e1,e2⟩:=hI
 refine ⟨o,es,ep,hk _ _ ?_ h1,h2,h3,h4,fun x hx=>?_,h5⟩
 ·intro z
  subst z
  rw [h1] at e1
  cases e1
  rw [h2.1] at e2
  exact absurd (Value.type.inj e2) (by decide)
 ·have q:=his x hx
  refine ziY q fun ob ho=>hk _ _ ?_ ho
  intro z
  obtain ⟨o',it,n,e,c,_⟩:=q
  rw [z,e1] at e
  cases e
  rw [e2] at c
  exact absurd (Value.type.inj c) (by decide)
theorem zfk {d I L:Addr}{items:Array Value}{h0:Heap}{xs:List (List Key×Addr×Value)}
  (hA:A.in1.handled=none) (hu:(tupleKind (zaG prog w)).room A.in1) (hLI:L≠I) (hdI:d≠I) (hdL:d≠L)
  (hd0:h0.get? d=none) (hI0:h0.get? I=none)
  (good:∀ (i:Nat) (x:List Key×Addr×Value),xs[i]? =some x→∃ (p:Addr) (o:Obj) (n:Nat),items[i]? =some (Value.ref p)∧h0.get? p=some o∧o.cls= .type "tuple"∧o.data= .seq #[.ref x.2.1,x.2.2] n∧(tupleKind (zaG prog w)).is h0 x.1 x.2.1)
  (hn:items.size=xs.length) (hz:xs.length < yK):
  ∀ (k i:Nat) (s:Shared) (t:Tok),xs.length - i=k→i≤xs.length→s.heap.IsListIter I L i→s.heap.IsList L items→s.heap.DictOfH (tupleKind (zaG prog w)) d (storeAll [] (xs.take i))→
   (∀ b o,h0.get? b=some o→s.heap.get? b=some o)→
   (∀ h' tk,h'.DictOfH (tupleKind (zaG prog w)) d (storeAll [] xs)→(∀ b o,h0.get? b=some o→h'.get? b=some o)→R (.ok (.ret .none)) {s with heap:=h',toks:=tk})→
   codeAny (model prog w) A (.builtin "dict.update.loop" ⟨[.ref d,.ref I,.int i t,.none],[]⟩) R s:=by
 have W:=yaz (prog:=prog) (w:=w) hA I L hLI items
 intro k
 induction k with
 | zero=>
  intro i s t hk hi hit hl hm hkeep hR
  have hin:i=items.size:=by omega
  refine codeAny_builtin zd8 ?_
  rw [jL zcd _]
  show wpAny _ A.in1 (pyNext (.ref I) >>=_) _ _ s
  refine yA (W.done s _ _ (by rw [← hin];exact ⟨hit,hl⟩) fun h' tk hk'=>?_)
  have hk2:∀ b o,b≠I→s.heap.get? b=some o→h'.get? b=some o:=fun b o hb e=>hk' b o (by simpa using hb) e
  have et:xs.take i=xs:=xD (by omega)
  rw [et] at hm
  show wpAny _ _ (Builtin.Dict.addKeywords d [] >>=_) _ _ _
  exact yA (yC (yC (hR h' tk (zgC hm (ziZ hit) hk2) fun b o e=>hk2 b o (fun z=>by rw [z,hI0] at e;cases e) (hkeep b o e))))
 | succ k ih=>
  intro i s t hk hi hit hl hm hkeep hR
  have hlt:i < xs.length:=by omega
  obtain ⟨p,o,n,hp,ho,hc,hdat,hkey⟩:=good i xs[i] (yF hlt)
  refine codeAny_builtin zd8 ?_
  rw [jL zcd _]
  show wpAny _ A.in1 (pyNext (.ref I) >>=_) _ _ s
  refine yA (W.item i s _ _ (by omega) ⟨hit,hl⟩ fun v h' tk hP hst' hk'=>?_)
  rw [hp] at hP
  cases hP
  have hk2:∀ b o,b≠I→s.heap.get? b=some o→h'.get? b=some o:=fun b o hb e=>hk' b o (by simpa using hb) e
  have hkeep':∀ b o,h0.get? b=some o→h'.get? b=some o:=fun b o e=>hk2 b o (fun z=>by rw [z,hI0] at e;cases e) (hkeep b o e)
  have hm':h'.DictOfH (tupleKind (zaG prog w)) d (storeAll [] (xs.take i)):=zgC hm (ziZ hit) hk2
  refine yA (wpAny_holding (yA (wpAny_tryCatch ?_)))
  unfold Builtin.Dict.pairItems
  refine yA (wpAny_typeOf (T:="tuple") ⟨o,hkeep' _ _ ho,hc⟩ ?_)
  rw [if_pos (by decide)]
  refine yA (wpAny_seqItems (hkeep' _ _ ho) hdat (yC ?_))
  show wpAny _ _ (holding [_,_] (dictSet d _ _)) _ _ _
  have l1:=zfC (xs.take i) []
  rw [vD,yU] at l1
  refine wpAny_holding (wpAny_dictSet_heap (hsz:=by omega) hu (ziY hkey fun o e=>hkeep' _ _ e) hm' fun h2 hd2 hs2=>?_)
  have hk3:∀ b o,b≠d→h'.get? b=some o→h2.get? b=some o:=fun b o hb e=>(hs2.2 b hb).trans e
  refine yC ⟨plainId_quiet zcd _,ih (i+1) _ _ (by omega) (by omega) (hst'.1.at fun o e=>hk3 _ _ (qR hdI) e) (hst'.2.at fun o e=>hk3 _ _ (qR hdL) e) ?_ (fun b o e=>hk3 b o (fun z=>by rw [z,hd0] at e;cases e) (hkeep' b o e)) fun h3 tk3 hd3 hk4=>hR h3 tk3 hd3 hk4⟩
  rw [zg5 xs (yF hlt)]
  exact hd2
end
section
variable {prog:Program} {w:World} {A:Around} {E:Value→Shared→Prop} {s:Shared}
theorem zgg {L:Addr}{o:Obj}{items:Array Value}{m:Nat}{xs:List (List Key×Addr×Value)}{Q:Value→Shared→Prop}(hA:A.handled=none)(hu:A.units+64 < cLine)
  (ho:s.heap.get? L=some o) (hc:o.cls= .type "list") (hd:o.dict=none) (hdat:o.data= .seq items m)
  (good:∀ (i:Nat) (x:List Key×Addr×Value),xs[i]? =some x→∃ (p:Addr) (o:Obj) (n:Nat),items[i]? =some (Value.ref p)∧s.heap.get? p=some o∧o.cls= .type "tuple"∧o.data= .seq #[.ref x.2.1,x.2.2] n∧(tupleKind (zaG prog w)).is s.heap x.1 x.2.1)
  (hn:items.size=xs.length) (hz:xs.length < yK)
  (h:∀ h' tk,h'.DictOfH (tupleKind (zaG prog w)) s.heap.objs.size (storeAll [] xs)→(∀ b o,s.heap.get? b=some o→h'.get? b=some o)→Q (.ref s.heap.objs.size) {s with heap:=h',toks:=tk}):
  wpAny (model prog w) A (call (.type "dict") [.ref L]) Q E s:=by
 refine callType_codes (Q₁ :=fun obj s₁ =>obj= .ref s.heap.objs.size∧s₁ = {s with heap:=s.heap.push {cls:=.type "dict",data:=.dict #[]}}) PySem.F.kt_called_dict (PySem.F.kt_typeCall_dict_1 _) PySem.F.entry_dict_init (kt_code_dict_new _ ⟨rfl,rfl⟩) ?_
 rintro obj s₁ ⟨rfl,rfl⟩
 have hd1:(s.heap.push {cls:=.type "dict",data:=.dict #[]}).get? s.heap.objs.size=some {cls:=.type "dict",data:=.dict #[]}:=yO _ rfl
 have hL1:(s.heap.push {cls:=.type "dict",data:=.dict #[]}).get? L=some o:=yD _ ho
 have hlt:L < s.heap.objs.size:=yS ho
 refine ⟨⟨_,hd1,rfl⟩,PySem.F.args_dict_init_2 _ _,?_⟩
 unfold Builtin.«dict.__init__»
 refine yA ?_
 unfold Builtin.Dict.selfAndRest
 refine yA (wpAny_notOrdered_dict ⟨_,hd1,rfl⟩ ?_)
 show wpAny _ _ (pure (s.heap.objs.size,[Value.ref L])) _ _ _
 refine yC ?_
 show wpAny _ _ (ya2 "dict.__init__" s.heap.objs.size (.ref L) [] .none) _ _ _
 unfold ya2
 refine yA (wpAny_typeOf (T:="list") ⟨_,hL1,hc⟩ ?_)
 rw [if_pos (by decide)]
 refine yA (zeI hL1 hc hdat hd hA fun h2 tk2 hk2=>?_)
 rw [if_pos (show (none:Option Value).isNone=true from rfl)]
 refine yA (wpAny_rule ?_)
 have hl2:h2.IsList L items:=⟨o,hk2 _ _ hL1,hc,m,hdat⟩
 refine yA (wpAny_pyIter_list hl2 ?_)
 have hz2:s.heap.objs.size < h2.objs.size:=yS (hk2 _ _ hd1)
 have keep:∀ b ob,s.heap.get? b=some ob→(h2.push {cls:=.type "list_iterator",data:=.fields #[.ref L,.int 0 0]}).get? b=some ob:=fun b ob e=>yD _ (hk2 _ _ (yD _ e))
 refine yC ⟨plainId_quiet zcd _,zfk (A:=A.in1) (h0:=s.heap) (L:=L) hA (show A.units+1+1 < cLine by omega) (qA (Nat.lt_trans hlt hz2)) (qA hz2) (qR (qA hlt)) (yat (yL _)) (yat (wP hz2)) good hn hz
  xs.length 0 _ _ (by omega) (qM _) ⟨_,yO _ rfl,rfl,rfl⟩ (hl2.at fun o e=>yD _ e) ?_ keep fun h' tk hd' hk'=>⟨rfl,h h' tk hd' hk'⟩⟩
 exact ⟨_,#[],0,yD _ (hk2 _ _ hd1),⟨rfl,rfl,rfl⟩,rfl,rfl,(fun x hx=>nomatch hx),xN⟩
end
theorem zew:∀ (more kvs:List (List Key×V)),(zfg kvs more).length≤kvs.length+more.length
 | [],kvs=>by show kvs.length≤kvs.length+0;omega
 | p::r,kvs=>by
  have h1:=zew r (putK kvs p.1 p.2)
  have h2:=zdd kvs p.1 p.2
  show (zfg (putK kvs p.1 p.2) r).length≤_
  rw [jE];omega
theorem KT.merge {H:Hp}:∀ {more:List (List Key×V)} {xs:List (List Key×Addr×Value)} {kvs:List (List Key×V)} {ys:List (List Key×Addr×Value)},KT H more xs→KT H kvs ys→KT H (zfg kvs more) (storeAll ys xs)
 | _,_,_,_,.nil,q=>q
 | _,_,kvs,ys,.cons (a:=p) (b:=x) h t,q=>by
  have e:KT H (putK kvs p.1 p.2) (storedH ys x.1 x.2.1 x.2.2):=by
   have:=q.put p.1 h.2.1 h.2.2
   rw [← h.1];exact this
  have z:=KT.merge (kvs:=putK kvs p.1 p.2) (ys:=storedH ys x.1 x.2.1 x.2.2) t e
  exact z
section
variable {X:Cx}
theorem zkg (hc:X.calm=true)(hu:X.A.units+64 < cLine):zc3 X (.type "dict") (fun xs H Q=>∃ (L:Addr) (vs:List V) (kvs:List (List Key×V)),xs= [.ref L]∧H L=some (.lst vs)∧zeV H vs kvs∧kvs.length < yK∧∀ d,H d=none→Q (.ref d) (upd H d (.dT (zfg [] kvs)))):=by
 intro pins s σ H xs us Q I r ⟨L,vs,kvs,e,hL,hp,hz,q⟩
 subst e
 obtain ⟨u,rfl,rx⟩:=zgs r
 cases rx
 obtain ⟨z,its,n,rv,hl,eL⟩:=I.lstM hL
 obtain ⟨ws,kt,gd⟩:∃ ws:List (List Key×Addr×Value),KT H kvs ws∧∀ (i:Nat) (x:List Key×Addr×Value),ws[i]? =some x→∃ p o n,its[i]? =some (.ref p)∧s.heap.get? p=some o∧o.cls= .type "tuple"∧o.data= .seq #[.ref x.2.1,x.2.2] n∧(tupleKind (zaG X.prog X.w)).is s.heap x.1 x.2.1:=by
  clear q hz hL z eL hl
  induction hp generalizing its with
  | nil=>cases rv;exact ⟨[],.nil,fun i x hx=>by simp at hx⟩
  | @cons x kv vs kvs h t ih=>
   cases rv with
   | @cons _ u _ us ru rus=>
    obtain ⟨ws,k1,g1⟩:=ih us rus
    obtain ⟨p,ktt,rfl,h1,h2⟩:=h
    cases ru
    obtain ⟨_,ts,rt,ot,e1,c1,n1,d1⟩:=(show zbh X.prog X.w H s.heap p (.tup [.ref ktt,kv.2]) from I.hok p _ h1)
    cases rt with
    | @cons _ t1 _ _ r1 r2=>
     cases r2 with
     | @cons _ t2 _ _ r2 r3=>
      cases r3
      cases r1
      refine ⟨(kv.1,ktt,t2)::ws,.cons ⟨rfl,h2,r2⟩ k1,fun i x hx=>?_⟩
      cases i with
      | zero=>
       simp at hx
       subst hx
       exact ⟨p,ot,n1,rfl,e1,c1,d1,zfR I.hok h2⟩
      | succ i=>
       obtain ⟨p',o',n',a1,a2⟩:=g1 i x (by simpa using hx)
       exact ⟨p',o',n',by simpa using a1,a2⟩
 have lw:kvs.length=ws.length:=yX kt
 have lv:vs.length=kvs.length:=yX hp
 refine zgg (xs:=ws) (I.ok.hd hc) hu eL rfl rfl rfl (fun i x hx=>?_) (by rw [yP];omega) (by omega) fun h' tk hd hk=>?_
 ·obtain ⟨p,o,n,a1,a2⟩:=gd i x hx
  exact ⟨p,o,n,by simpa using a1,a2⟩
 ·have hf:=I.fresh
  obtain ⟨o,es,ep,h1,h2,h3,h4,his,h5⟩:=hd
  have lm:=zew kvs []
  rw [vD] at lm
  have hb:=I.big
  refine ⟨.ref s.heap.objs.size,_,I.laid (a:=s.heap.objs.size) (o:=.dT (zfg [] kvs)) (t':=tk) hk (yL _) ⟨by omega,beq_eq_false_iff_ne.mpr (qR (qA hb)),storeAll [] ws,(kt.merge .nil).keeps fun b ys eb=>eb.upd hf,o,es,ep,h1,h2,h3,h4,h5⟩,rfl,q _ hf⟩
end
section
variable {X:Cx} {e k:Expr} {te tk:TE} {pos p2:Pos}
end
section
variable {prog:Program} {w:World} {A:Around} {E:Value→Shared→Prop} {s:Shared}
end
section
variable {X:Cx} {pos:Pos}
theorem zgb:OpR X (compareOp .IsNot) (fun x y H Q=>∃ a b,x= .bl a∧y= .bl b∧Q (.bl (!decide (a=b))) H):=by
 intro pins s σ H x y v u Q I rx ry h
 obtain ⟨a,b,rfl,rfl,q⟩:=h
 cases rx
 cases ry
 refine wpAny_isNot_plain rfl ?_
 refine ⟨.bl _,H,I,?_,q⟩
 cases a <;> cases b <;> rfl
end
section
variable {X:Cx}
end
noncomputable def TabK (K:PySem.W.Frag) (a:Addr) (D:List (Str×KTD.Dat)):Prop:=KTD.tabLook (KTD.datLooks fun b=>K.lookup b) (fun b=>K.lookup b) a D=true
section
variable {prog:Program} {w:World} {A:Around} {E:Value→Shared→Prop} {s:Shared}
end
section
variable {X:Cx}
theorem TabK.at {pins:List (Addr×Obj)}{σ :St}{H:Hp}{s:Shared}{a:Addr}{D:List (Str×KTD.Dat)}(I:Inv X pins σ H s)(h:TabK X.K a D):KTD.TabOf (fun d v=>KTD.datLooks (fun b=>X.K.lookup b) d v=true) s.heap a D:=
 KTD.tab_of_look (fun _ _ z=>z) (fun b o q=>I.kIn b o q) h
theorem TabK.here {pins:List (Addr×Obj)}{σ :St}{H:Hp}{s:Shared}{a:Addr}{D:List (Str×KTD.Dat)}(I:Inv X pins σ H s)(h:TabK X.K a D):KTD.Here s.heap s.heap a D:=
 ⟨PySem.W.kt_text_in I.kIn h,fun _ _ q=>q⟩
end
end L2
namespace My
open PySem L2
open PySem.W (Dat kqdP kqdPs kqdOk)
structure zas where
 ins:Int
 gates:List (Str×List Int)
 outs:List Int
noncomputable def zbU (kind:Str) (n:Nat):Prop:=((kind="and"∨kind="or"∨kind="odd")∧2≤n∧n≤4)∨(kind="not"∧n=1)∨(kind="choose"∧n=3)∨((kind="zero"∨kind="one")∧n=0)
structure WF (most:Nat) (w:zas):Prop where
 i1: 1≤w.ins
 i6:w.ins≤6
 few:w.gates.length≤most
 legs:∀ (k:Nat) g,w.gates[k]? =some g→zbU g.1 g.2.length∧∀ l∈g.2,0≤l∧l < w.ins+k
 o1: 1≤w.outs.length
 o3:w.outs.length≤most+20
 outs:∀ o∈w.outs,0≤o∧o < w.ins+w.gates.length
noncomputable def zf8 (g:Str×List Int):Dat:=.tuple [.str g.1,.tuple (g.2.map .int)]
noncomputable def zbA (w:zas):Dat:=.tuple [.int w.ins,.list (w.gates.map zf8),.list (w.outs.map .int)]
theorem zbU.le {k:Str}{n:Nat}(h:zbU k n):n≤4:=by
 unfold zbU at h
 omega
noncomputable def zmu (i b:Int):Dat:=.tuple [.str "wire",.int i,.int b]
noncomputable def legF (k i b:Int):Dat:=.tuple [.str "leg",.int k,.int i,.int b]
noncomputable def zjh:Nat→List Dat
 | 0=>[]
 | n+1=>zjh n++ [zmu n 0,zmu n 1]
noncomputable def zmP (k:Int):Nat→List Dat
 | 0=>[]
 | n+1=>zmP k n++ [legF k n 0,legF k n 1]
noncomputable def zjf (gs:List (Str×List Int)):Nat→List Dat
 | 0=>[]
 | n+1=>zjf gs n++zmP n ((gs[n]?.map fun g=>g.2.length).getD 0)
noncomputable def zfa (w:zas):List Dat:=zjh (w.ins.toNat+w.gates.length)++zjf w.gates w.gates.length
noncomputable def zlU (i:Int):List Dat:=[.str "wire",.int i]
noncomputable def legP (k i:Int):List Dat:=[.str "leg",.int k,.int i]
noncomputable def zcI:Nat→List (List Dat)
 | 0=>[]
 | n+1=>zcI n++ [zlU n]
noncomputable def ze4 (k:Int):Nat→List (List Dat)
 | 0=>[]
 | n+1=>ze4 k n++ [legP k n]
noncomputable def zcX (gs:List (Str×List Int)):Nat→List (List Dat)
 | 0=>[]
 | n+1=>zcX gs n++ze4 n ((gs[n]?.map fun g=>g.2.length).getD 0)
noncomputable def zd6 (ps:List (List Dat)):List Dat:=ps.flatMap fun p=>[.tuple (p++ [.int 0]),.tuple (p++ [.int 1])]
theorem zbL (a b:List (List Dat)):zd6 (a++b)=zd6 a++zd6 b:=by unfold zd6;rw [vE]
theorem zeH (p:List Dat):zd6 [p]= [.tuple (p++ [.int 0]),.tuple (p++ [.int 1])]:=by unfold zd6;simp
theorem zgd:∀ n,zd6 (zcI n)=zjh n
 | 0=>rfl
 | n+1=>by rw [zcI,zbL,zgd n,zeH,zjh];rfl
theorem zgF (k:Int):∀ n,zd6 (ze4 k n)=zmP k n
 | 0=>rfl
 | n+1=>by rw [ze4,zbL,zgF k n,zeH,zmP];rfl
theorem zfx (gs:List (Str×List Int)):∀ n,zd6 (zcX gs n)=zjf gs n
 | 0=>rfl
 | n+1=>by rw [zcX,zbL,zfx gs n,zgF,zjf]
noncomputable def za8 (w:zas):List (List Dat):=zcI (w.ins.toNat+w.gates.length)++zcX w.gates w.gates.length
theorem zcK (w:zas):zd6 (za8 w)=zfa w:=by unfold za8 zfa;rw [zbL,zgd,zfx]
theorem zcy:∀ n,(zcI n).length=n
 | 0=>rfl
 | n+1=>by rw [zcI,yI,zcy n];simp
theorem zeB (k:Int):∀ n,(ze4 k n).length=n
 | 0=>rfl
 | n+1=>by rw [ze4,yI,zeB k n];simp
theorem zmk {m:Nat}{w:zas}(h:WF m w)(n:Nat):(w.gates[n]?.map fun g=>g.2.length).getD 0≤4:=by
 cases e:w.gates[n]? with
 | none=>simp
 | some g=>simpa using (h.legs n g e).1.le
theorem zda {m:Nat}{w:zas}(h:WF m w):∀ n,(zcX w.gates n).length≤4 * n
 | 0=>qM _
 | n+1=>by
  have:=zda h n
  have:=zmk h n
  rw [zcX,yI,zeB]
  omega
theorem zfM:∀ ps:List (List Dat),(zd6 ps).length=2 * ps.length
 | []=>rfl
 | p::r=>by
  show (zd6 ([p]++r)).length=_
  rw [zbL,zeH,yI,zfM r]
  simp
  omega
theorem zgN:∀ n p,p∈zcI n→∃ i,p=zlU i
 | 0,p,h=>nomatch h
 | n+1,p,h=>by
  rw [zcI] at h
  rcases qG.mp h with h | h
  ·exact zgN n p h
  ·exact ⟨_,yG.mp h⟩
theorem zh6 (k:Int):∀ n p,p∈ze4 k n→∃ i,p=legP k i
 | 0,p,h=>nomatch h
 | n+1,p,h=>by
  rw [ze4] at h
  rcases qG.mp h with h | h
  ·exact zh6 k n p h
  ·exact ⟨_,yG.mp h⟩
theorem zgy (gs:List (Str×List Int)):∀ n p,p∈zcX gs n→∃ k i,p=legP k i
 | 0,p,h=>nomatch h
 | n+1,p,h=>by
  rw [zcX] at h
  rcases qG.mp h with h | h
  ·exact zgy gs n p h
  ·obtain ⟨i,e⟩:=zh6 _ _ p h
   exact ⟨_,i,e⟩
theorem ze2 {w:zas}{p:List Dat}(h:p∈za8 w):(∃ i,p=zlU i)∨∃ k i,p=legP k i:=by
 unfold za8 at h
 rcases qG.mp h with h | h
 ·exact .inl (zgN _ p h)
 ·exact .inr (zgy _ _ p h)
theorem zl9 {w:zas}{i:Nat}(h:(za8 w)[i]? =some []):False:=by
 rcases ze2 (yH h) with ⟨_,e⟩ | ⟨_,_,e⟩ <;> cases e
theorem zkM {w:zas}{i:Nat}{p:List Dat}(h:(za8 w)[i]? =some p):p.length≤3:=by
 rcases ze2 (yH h) with ⟨_,e⟩ | ⟨_,_,e⟩ <;> (rw [e];simp [zlU,legP])
theorem zj0 {w:zas}{d:Dat}(h:d∈zfa w):(∃ i b,d=zmu i b)∨∃ k i b,d=legF k i b:=by
 rw [← zcK] at h
 unfold zd6 at h
 obtain ⟨p,hp,hd⟩:=kJ.mp h
 rcases ze2 hp with ⟨i,e⟩ | ⟨k,i,e⟩
 ·left
  rw [e] at hd
  rcases yY.mp hd with e1 | hd
  ·exact ⟨i,0,e1⟩
  ·exact ⟨i,1,yG.mp hd⟩
 ·right
  rw [e] at hd
  rcases yY.mp hd with e1 | hd
  ·exact ⟨k,i,0,e1⟩
  ·exact ⟨k,i,1,yG.mp hd⟩
theorem zmD {w:zas}{d:Dat}(n:Nat)(h:d∈zfa w):kqdOk (n+1) d=true:=by
 rcases zj0 h with ⟨i,b,e⟩ | ⟨k,i,b,e⟩
 ·rw [e]
  have:ybm "wire" =true:=by decide+kernel
  cases n <;> simp [zmu,kqdOk,this]
 ·rw [e]
  have:ybm "leg" =true:=by decide+kernel
  cases n <;> simp [legF,kqdOk,this]
theorem zih (n:Nat)(ns:List Int):(ns.map Dat.int).all (kqdOk n)=true:=by
 refine yZ.mpr fun d h=>?_
 obtain ⟨i,_,rfl⟩:=qE.mp h
 cases n <;> rfl
theorem zn7 {x:Str}{n:Nat}(h:zbU x n):ybm x=true:=by
 rcases h with ⟨h | h | h,_⟩ | ⟨h,_⟩ | ⟨h,_⟩ | ⟨h | h,_⟩ <;> (rw [h];decide+kernel)
theorem zos {g:Str×List Int}{n:Nat}(h:zbU g.1 n):kqdOk 6 (zf8 g)=true:=by
 show (ybm g.1 && ((g.2.map Dat.int).all (kqdOk 4) && true))=true
 rw [zn7 h,zih]
 rfl
theorem zd5 {m:Nat}{w:zas}(h:WF m w):kqdOk 8 (zbA w)=true:=by
 show (true && ((w.gates.map zf8).all (kqdOk 6) && ((w.outs.map Dat.int).all (kqdOk 6) && true)))=true
 have e:(w.gates.map zf8).all (kqdOk 6)=true:=yZ.mpr fun d hd=>by
  obtain ⟨g,hg,rfl⟩:=qE.mp hd
  obtain ⟨i,hi⟩:=vR hg
  exact zos (h.legs i g hi).1
 rw [e,zih]
 rfl
theorem zbz {K:PySem.W.Frag}{H:Hp}{w:zas}{x:V}(h:Rep K H x (zbA w)):
  ∃ a ga oa gs os,x= .ref a∧SqT K H a [.int w.ins,.ref ga,.ref oa]∧SqL K H ga gs∧SqL K H oa os∧Reps K H gs (w.gates.map zf8)∧Reps K H os (w.outs.map .int):=by
 unfold zbA at h
 cases h with
 | tup ha r=>
  cases r with
  | cons r1 r=>
   cases r with
   | cons r2 r=>
    cases r with
    | cons r3 r=>
     cases r
     cases r1
     cases r2 with
     | lst hg rg=>
      cases r3 with
      | lst ho ro=>exact ⟨_,_,_,_,_,rfl,ha,hg,ho,rg,ro⟩
theorem zhc {K:PySem.W.Frag}{H:Hp}{g:Str×List Int}{x:V}(h:Rep K H x (zf8 g)):
  ∃ a la,x= .ref a∧SqT K H a [.str g.1,.ref la]∧SqT K H la (g.2.map V.int):=by
 unfold zf8 at h
 cases h with
 | tup ha r=>
  cases r with
  | cons r1 r=>
   cases r with
   | cons r2 r=>
    cases r
    cases r1
    cases r2 with
    | tup hl rl=>
     have e:∀ (xs:List V) (ns:List Int),Reps K H xs (ns.map Dat.int)→xs=ns.map V.int:=by
      intro xs ns
      induction ns generalizing xs with
      | nil=>intro z;cases z;rfl
      | cons m r ih=>
       intro z
       cases z with
       | cons z1 z2=>
        cases z1
        rw [ih _ z2]
        rfl
     rw [e _ _ rl] at hl
     exact ⟨_,_,rfl,ha,hl⟩
end My
namespace My
open PySem L2
noncomputable def Bits (ns:List Int):Prop:=∀ n∈ns,n=0∨n=1
noncomputable def zbS (x:Str) (ns:List Int):Int:=
 if x="and" then (if ns.all (· ==1)=true then 1 else 0)
 else if x="or" then (if ns.any (· ==1)=true then 1 else 0)
 else if x="odd" then ns.sum % 2
 else if x="not" then 1 - ns.getD 0 0
 else if x="choose" then (if ns.getD 0 0=1 then ns.getD 1 0 else ns.getD 2 0)
 else if x="one" then 1 else 0
theorem n_oa:("or" :Str)≠"and" :=by decide+kernel
theorem n_da:("odd" :Str)≠"and" :=by decide+kernel
theorem n_do:("odd" :Str)≠"or" :=by decide+kernel
theorem n_na:("not" :Str)≠"and" :=by decide+kernel
theorem n_no:("not" :Str)≠"or" :=by decide+kernel
theorem n_nd:("not" :Str)≠"odd" :=by decide+kernel
theorem n_ca:("choose" :Str)≠"and" :=by decide+kernel
theorem n_co:("choose" :Str)≠"or" :=by decide+kernel
theorem n_cd:("choose" :Str)≠"odd" :=by decide+kernel
theorem n_cn:("choose" :Str)≠"not" :=by decide+kernel
theorem n_za:("zero" :Str)≠"and" :=by decide+kernel
theorem n_zo:("zero" :Str)≠"or" :=by decide+kernel
theorem n_zd:("zero" :Str)≠"odd" :=by decide+kernel
theorem n_zn:("zero" :Str)≠"not" :=by decide+kernel
theorem n_zc:("zero" :Str)≠"choose" :=by decide+kernel
theorem n_z1:("zero" :Str)≠"one" :=by decide+kernel
theorem n_1a:("one" :Str)≠"and" :=by decide+kernel
theorem n_1o:("one" :Str)≠"or" :=by decide+kernel
theorem n_1d:("one" :Str)≠"odd" :=by decide+kernel
theorem n_1n:("one" :Str)≠"not" :=by decide+kernel
theorem n_1c:("one" :Str)≠"choose" :=by decide+kernel
theorem zlX (ns:List Int):zbS "and" ns=if ns.all (· ==1)=true then 1 else 0:=by unfold zbS;rw [if_pos rfl]
theorem zoi (ns:List Int):zbS "or" ns=if ns.any (· ==1)=true then 1 else 0:=by unfold zbS;rw [if_neg n_oa,if_pos rfl]
theorem zjr (ns:List Int):zbS "odd" ns=ns.sum % 2:=by unfold zbS;rw [if_neg n_da,if_neg n_do,if_pos rfl]
theorem zjm (ns:List Int):zbS "not" ns=1 - ns.getD 0 0:=by unfold zbS;rw [if_neg n_na,if_neg n_no,if_neg n_nd,if_pos rfl]
theorem zga (ns:List Int):zbS "choose" ns=if ns.getD 0 0=1 then ns.getD 1 0 else ns.getD 2 0:=by unfold zbS;rw [if_neg n_ca,if_neg n_co,if_neg n_cd,if_neg n_cn,if_pos rfl]
theorem zij (ns:List Int):zbS "zero" ns=0:=by unfold zbS;rw [if_neg n_za,if_neg n_zo,if_neg n_zd,if_neg n_zn,if_neg n_zc,if_neg n_z1]
theorem zlI (ns:List Int):zbS "one" ns=1:=by unfold zbS;rw [if_neg n_1a,if_neg n_1o,if_neg n_1d,if_neg n_1n,if_neg n_1c,if_pos rfl]
theorem zbH {ns:List Int}(b:Bits ns){i:Nat}(h:i < ns.length):ns.getD i 0=0∨ns.getD i 0=1:=by
 rw [yM,yF h]
 exact b _ (xU h)
theorem znp {x:Str}{ns:List Int}(b:Bits ns)(h:zbU x ns.length):zbS x ns=0∨zbS x ns=1:=by
 rcases h with ⟨h | h | h,l1,l2⟩ | ⟨h,l1⟩ | ⟨h,l1⟩ | ⟨h | h,l1⟩
 ·rw [h,zlX];split <;> simp
 ·rw [h,zoi];split <;> simp
 ·rw [h,zjr];omega
 ·rw [h,zjm]
  have:=zbH b (i:=0) (by omega)
  omega
 ·rw [h,zga]
  split
  ·exact zbH b (i:=1) (by omega)
  ·exact zbH b (i:=2) (by omega)
 ·rw [h,zij];simp
 ·rw [h,zlI];simp
noncomputable def zch (gs:List (Str×List Int)) (row:List Int):Nat→List Int
 | 0=>row
 | n+1=>zch gs row n++ [match gs[n]? with
   | some g=>zbS g.1 (g.2.map fun l=>(zch gs row n).getD l.toNat 0)
   | none=>0]
theorem zeT (gs:List (Str×List Int))(row:List Int):∀ n,(zch gs row n).length=row.length+n
 | 0=>rfl
 | n+1=>by rw [zch,yI,zeT gs row n];simp;omega
theorem ifY {x y:Str}{A B:Prop}(h:x=y)(a:A):if (decide (V.str x=V.str y))=true then A else B:=by rw [if_pos (decide_eq_true (by rw [h]))];exact a
theorem ifN {x y:Str}{A B:Prop}(h:x≠y)(b:B):if (decide (V.str x=V.str y))=true then A else B:=by rw [if_neg (by rw [decide_eq_true_eq];intro z;exact h (V.str.inj z))];exact b
theorem zbw {ns:List Int}{i:Int}(h0: 0≤i)(h1:i < ns.length):atI (ns.map V.int) i=some (.int (ns.getD i.toNat 0)):=by
 have e:i=((i.toNat:Nat):Int):=by omega
 have hk:i.toNat < ns.length:=by omega
 have q:atI (ns.map V.int) ((i.toNat:Nat):Int)=some (.int ns[i.toNat]):=zdH (by rw [yJ,yF hk] <;> rfl)
 rw [← e] at q
 rw [q,yM,yF hk]
 rfl
noncomputable def upto (gs:List (Str×List Int)) (row:List Int) (i:Nat):List Int:=(zch gs row (i - row.length)).take i
open PySem.W (Dat kqdP kqdPs kqdOk)
theorem WF.mono {m n:Nat}{w:zas}(h:WF m w)(l:m≤n):WF n w:=⟨h.i1,h.i6,jY h.few l,h.legs,h.o1,jY h.o3 (by omega),h.outs⟩
noncomputable def zaT:Nat→List (List Int)
 | 0=>[[]]
 | n+1=>(zaT n).map (0:: ·)++(zaT n).map (1:: ·)
theorem zaS:∀ n,(zaT n).length=2 ^ n
 | 0=>rfl
 | n+1=>by rw [zaT,yI,yB,yB,zaS n,ybn];omega
theorem zcl:∀ n r,r∈zaT n→r.length=n∧Bits r
 | 0,r,h=>by
  rw [yG.mp h]
  exact ⟨rfl,fun _ z=>nomatch z⟩
 | n+1,r,h=>by
  rcases qG.mp h with h | h
  ·obtain ⟨u,hu,rfl⟩:=qE.mp h
   obtain ⟨a,b⟩:=zcl n u hu
   exact ⟨by rw [jE,a],fun z hz=>by
    rcases yY.mp hz with e | e
    ·exact .inl e
    ·exact b z e⟩
  ·obtain ⟨u,hu,rfl⟩:=qE.mp h
   obtain ⟨a,b⟩:=zcl n u hu
   exact ⟨by rw [jE,a],fun z hz=>by
    rcases yY.mp hz with e | e
    ·exact .inr e
    ·exact b z e⟩
theorem ziT {n:Nat}(h:n≤6):(zaT n).length≤64:=by
 rw [zaS]
 exact xX (n:=2) (by decide) h
noncomputable def rowD (r:List Int):Dat:=.list (r.map .int)
inductive At (H:Hp):List Addr→List (List Int)→Prop
 | nil:At H [] []
 | cons {q:Addr} {r:List Int} {qs:List Addr} {rs:List (List Int)}:H q=some (.lst (r.map V.int))→At H qs rs→At H (q::qs) (r::rs)
section
variable {K:PySem.W.Frag} {H H':Hp} {qs qs':List Addr} {rs rs':List (List Int)}
theorem At.mono (s:Same H H')(h:At H qs rs):At H' qs rs:=by
 induction h with
 | nil=>exact .nil
 | cons e _ ih=>exact .cons (s _ _ e) ih
theorem At.append (h:At H qs rs)(h':At H qs' rs'):At H (qs++qs') (rs++rs'):=by
 induction h with
 | nil=>exact h'
 | cons e _ ih=>exact .cons e ih
theorem At.len (h:At H qs rs):qs.length=rs.length:=by
 induction h with
 | nil=>rfl
 | cons e _ ih=>rw [jE,jE,ih]
theorem At.get (h:At H qs rs):∀ {i:Nat} {q:Addr},qs[i]? =some q→∃ r,rs[i]? =some r∧H q=some (.lst (r.map V.int)):=by
 induction h with
 | nil=>intro i q e;cases e
 | cons e _ ih=>
  intro i q z
  cases i with
  | zero=>cases z;exact ⟨_,rfl,e⟩
  | succ i=>exact ih z
theorem At.here (h:At H qs rs){q:Addr}(m:q∈qs):∃ r∈rs,H q=some (.lst (r.map V.int)):=by
 obtain ⟨i,hi⟩:=vR m
 obtain ⟨r,a,b⟩:=h.get hi
 exact ⟨r,yH a,b⟩
theorem At.reps (h:At H qs rs):Reps K H (qs.map V.ref) (rs.map rowD):=by
 induction h with
 | nil=>exact .nil
 | cons e _ ih=>exact .cons (.lst (.of e) (Reps.ints _)) ih
theorem At.write {p:Addr}{o:HO}(n:p∉qs)(h:At H qs rs):At (upd H p o) qs rs:=by
 induction h with
 | nil=>exact .nil
 | cons e _ ih=>
  refine .cons ?_ (ih fun z=>n (.tail _ z))
  rename_i q0 _ _ _ _
  have hne:q0≠p:=fun z=>n (by rw [z];exact .head _)
  rw [zah hne]
  exact e
theorem At.set {r:List Int}(h:At H qs rs):∀ {i:Nat} {q:Addr},qs.Nodup→qs[i]? =some q→At (upd H q (.lst (r.map V.int))) qs (rs.set i r):=by
 induction h with
 | nil=>intro i q _ e;cases e
 | @cons q' r' qs' rs' e t ih=>
  intro i q nd z
  have nd':=xA.mp nd
  cases i with
  | zero=>
   cases z
   exact .cons zab (t.write nd'.1)
  | succ i=>
   refine .cons ?_ (ih nd'.2 z)
   have hne:q'≠q:=fun y=>nd'.1 (by rw [y];exact yH z)
   rw [zah hne]
   exact e
end
structure Rows (H0:Hp) (R:Addr) (qs:List Addr) (rs:List (List Int)) (H:Hp):Prop where
 same:Same H0 H
 out:H0 R=none
 at_:H R=some (.lst (qs.map V.ref))
 rows:At H qs rs
 nd:qs.Nodup
 new:∀ q∈qs,H0 q=none∧q≠R
section
variable {K:PySem.W.Frag} {H0 H H1 H2:Hp} {R D D1 D2 T q:Addr} {qs qs1 qs2:List Addr} {rs rs1 rs2:List (List Int)}
theorem Rows.start (s:Same H0 H)(h:H D=none):Rows H0 D [] [] (upd H D (.lst [])):=⟨s.upd h _,s.free h,zab,.nil,.nil,fun _ z=>nomatch z⟩
theorem Rows.sq (b:Rows H0 R qs rs H):SqL K H R (qs.map V.ref):=.of b.at_
theorem Rows.rep (b:Rows H0 R qs rs H):Rep K H (.ref R) (.list (rs.map rowD)):=.lst b.sq b.rows.reps
theorem Rows.grow (b:Rows H0 R qs rs H)(s:Same H H1):Rows H0 R qs rs H1:=⟨b.same.trans s,b.out,s _ _ b.at_,b.rows.mono s,b.nd,b.new⟩
theorem Rows.push {o:HO}{r:List Int}{vs:List V}(b:Rows H0 D qs rs H)(hT:H T=none)(hq:upd H T o q=none)(e:vs=r.map V.int):
  Rows H0 D (qs++ [q]) (rs++ [r]) (upd (upd (upd H T o) q (.lst vs)) D (.lst (qs.map V.ref++ [.ref q]))):=by
 subst e
 have s1:Same H (upd (upd H T o) q (.lst (r.map V.int))):=(zaf hT _).upd hq _
 have q0:H q=none:=(zaf hT o).free hq
 have qD:q≠D:=qR (zai b.at_ q0)
 have nq:q∉qs:=fun z=>by
  obtain ⟨r,_,e⟩:=b.rows.here z
  rw [q0] at e
  cases e
 refine ⟨(b.same.trans s1).write b.out _,b.out,by rw [zab,yN];rfl,?_,?_,fun z hz=>?_⟩
 ·refine At.write (fun z=>?_) (At.append (b.rows.mono s1) (.cons zab .nil))
  rcases qG.mp z with z | z
  ·exact (b.new D z).2 rfl
  ·exact qD (yG.mp z).symm
 ·refine jB.mpr ⟨b.nd,xA.mpr ⟨(fun z=>nomatch z),xN⟩,fun x hx y hy e=>?_⟩
  rw [yG.mp hy] at e
  exact nq (e ▸ hx)
 ·rcases qG.mp hz with hz | hz
  ·exact b.new z hz
  ·rw [yG.mp hz]
   exact ⟨b.same.free q0,qD⟩
theorem Rows.cat (a:Rows H0 D1 qs1 rs1 H1)(b:Rows H1 D2 qs2 rs2 H2)(h:H2 R=none):Rows H0 R (qs1++qs2) (rs1++rs2) (upd H2 R (.lst (qs1.map V.ref++qs2.map V.ref))):=by
 have s:=a.same.trans b.same
 have t:At H2 (qs1++qs2) (rs1++rs2):=(a.rows.mono b.same).append b.rows
 refine ⟨s.upd h _,s.free h,by rw [zab,yN],t.mono (zaf h _),?_,fun q hq=>?_⟩
 ·refine jB.mpr ⟨a.nd,b.nd,fun x hx y hy e=>?_⟩
  subst e
  obtain ⟨r,_,e⟩:=a.rows.here hx
  rw [(b.new x hy).1] at e
  cases e
 ·refine ⟨?_,fun e=>?_⟩
  ·rcases qG.mp hq with hq | hq
   ·exact (a.new q hq).1
   ·exact a.same.free (b.new q hq).1
  ·obtain ⟨r,_,z⟩:=t.here hq
   rw [e,h] at z
   cases z
end
theorem zeJ {K:PySem.W.Frag}{H:Hp}:∀ {xs:List V} {ns:List Int},Reps K H xs (ns.map Dat.int)→xs=ns.map V.int
 | _,[],h=>by cases h;rfl
 | _,n::ns,h=>by
  cases h with
  | cons h1 h2=>
   cases h1
   rw [zeJ h2]
   rfl
noncomputable def zel (w:zas) (ws:List Int):List Int:=w.outs.map fun o=>ws.getD o.toNat 0
theorem zhk {r:List Int}{rs:List (List Int)}{j:Nat}(f:List Int→List Int)(h:rs[j]? =some r):(rs.take (j+1)).map f=(rs.take j).map f++ [f r]:=by
 rw [yR,h,yN]
 rfl
end My
namespace My
open PySem L2
open PySem.W (Dat kqdP kqdPs kqdOk)
theorem zaJ (ns:List Int):kqdOk 8 (.list (ns.map Dat.int))=true:=zih 7 ns
end My
namespace My
open PySem L2
open PySem.W (Dat kqdP kqdPs kqdOk)
structure Flt where
 place:List Key
 worth:Int
noncomputable def kD:Key→Dat
 | .inl n=>.int n
 | .inr s=>.str s
noncomputable def fltD (f:Flt):Dat:=.tuple (f.place.map kD++ [.int f.worth])
noncomputable def zbn (i:Int):List Key:=[Sum.inr "wire",Sum.inl i]
noncomputable def legK (k i:Int):List Key:=[Sum.inr "leg",Sum.inl k,Sum.inl i]
noncomputable def zcS:Nat→List (List Key)
 | 0=>[]
 | n+1=>zcS n++ [zbn n]
noncomputable def zg1 (k:Int):Nat→List (List Key)
 | 0=>[]
 | n+1=>zg1 k n++ [legK k n]
noncomputable def zea (gs:List (Str×List Int)):Nat→List (List Key)
 | 0=>[]
 | n+1=>zea gs n++zg1 n ((gs[n]?.map fun g=>g.2.length).getD 0)
noncomputable def zb2 (w:zas):List (List Key):=zcS (w.ins.toNat+w.gates.length)++zea w.gates w.gates.length
theorem zgR:∀ n,(zcS n).map (·.map kD)=zcI n
 | 0=>rfl
 | n+1=>by rw [zcS,yN,zgR n,zcI];rfl
theorem ziH (k:Int):∀ n,(zg1 k n).map (·.map kD)=ze4 k n
 | 0=>rfl
 | n+1=>by rw [zg1,yN,ziH k n,ze4];rfl
theorem zg9 (gs:List (Str×List Int)):∀ n,(zea gs n).map (·.map kD)=zcX gs n
 | 0=>rfl
 | n+1=>by rw [zea,yN,zg9 gs n,zcX,ziH]
theorem zeK (w:zas):(zb2 w).map (·.map kD)=za8 w:=by unfold zb2 za8;rw [yN,zgR,zg9]
theorem zd0:∀ {n:Nat} {p:List Key},p∈zcS n→∃ i:Nat,i < n∧p=zbn i
 | n+1,p,h=>by
  rcases qG.mp h with h | h
  ·obtain ⟨i,a,b⟩:=zd0 h
   exact ⟨i,by omega,b⟩
  ·exact ⟨n,by omega,yG.mp h⟩
theorem zh7:∀ {n i:Nat},i < n→zbn i∈zcS n
 | n+1,i,h=>by
  by_cases e:i=n
  ·subst e
   exact qG.mpr (.inr (yG.mpr rfl))
  ·exact qG.mpr (.inl (zh7 (by omega)))
theorem zev {k:Int}:∀ {n:Nat} {p:List Key},p∈zg1 k n→∃ i:Nat,i < n∧p=legK k i
 | n+1,p,h=>by
  rcases qG.mp h with h | h
  ·obtain ⟨i,a,b⟩:=zev h
   exact ⟨i,by omega,b⟩
  ·exact ⟨n,by omega,yG.mp h⟩
theorem zd3 {gs:List (Str×List Int)}:∀ {n:Nat} {p:List Key},p∈zea gs n→∃ k i:Nat,k < n∧i < ((gs[k]?.map fun g=>g.2.length).getD 0)∧p=legK k i
 | n+1,p,h=>by
  rcases qG.mp h with h | h
  ·obtain ⟨k,i,a,b,c⟩:=zd3 h
   exact ⟨k,i,by omega,b,c⟩
  ·obtain ⟨i,a,b⟩:=zev h
   exact ⟨n,i,by omega,a,b⟩
theorem zlz {i j:Int}(h:zbn i=zbn j):i=j:=by
 unfold zbn at h
 injection h with _ h
 injection h with h
 exact yaY h
theorem zfr {k l i j:Int}(h:legK k i=legK l j):k=l∧i=j:=by
 unfold legK at h
 injection h with _ h
 injection h with h1 h
 injection h with h
 exact ⟨yaY h1,yaY h⟩
theorem zgS {i k j:Int}(h:zbn i=legK k j):False:=by
 have:=congrArg wI h
 exact absurd this (by show ¬(2:Nat)=3;decide)
theorem zgK {α :Type}{xs:List α}{x: α}(h:xs.Nodup)(n:x∉xs):(xs++ [x]).Nodup:=
 jB.mpr ⟨h,xA.mpr ⟨(fun z=>nomatch z),xN⟩,fun a ha b hb e=>n (by rw [← yG.mp hb,← e];exact ha)⟩
theorem zhV:∀ n,(zcS n).Nodup
 | 0=>xN
 | n+1=>zgK (zhV n) fun h=>by
  obtain ⟨i,a,b⟩:=zd0 h
  have:=zlz b
  omega
theorem zi9 (k:Int):∀ n,(zg1 k n).Nodup
 | 0=>xN
 | n+1=>zgK (zi9 k n) fun h=>by
  obtain ⟨i,a,b⟩:=zev h
  have:=(zfr b).2
  omega
theorem zhA (gs:List (Str×List Int)):∀ n,(zea gs n).Nodup
 | 0=>xN
 | n+1=>jB.mpr ⟨zhA gs n,zi9 _ _,fun a ha b hb e=>by
  obtain ⟨k,i,h1,_,h2⟩:=zd3 ha
  obtain ⟨j,_,h3⟩:=zev hb
  have:=(zfr (h2.symm.trans (e.trans h3))).1
  omega⟩
theorem zj5 (w:zas):(zb2 w).Nodup:=jB.mpr ⟨zhV _,zhA _ _,fun a ha b hb e=>by
 obtain ⟨i,_,h1⟩:=zd0 ha
 obtain ⟨k,j,_,_,h2⟩:=zd3 hb
 exact zgS (h1.symm.trans (e.trans h2))⟩
noncomputable def zeC (w:zas) (f:Flt):Prop:=f.place∈zb2 w∧(f.worth=0∨f.worth=1)
theorem zmt {w:zas}{f:Flt}(h:zeC w f):fltD f∈zfa w:=by
 rw [← zcK,← zeK]
 unfold zd6
 refine kJ.mpr ⟨f.place.map kD,qE.mpr ⟨_,h.1,rfl⟩,?_⟩
 unfold fltD
 rcases h.2 with e | e
 ·rw [e];exact .head _
 ·rw [e];exact .tail _ (.head _)
theorem zkQ {w:zas}{i:Nat}{b:Int}(hi:i < w.ins.toNat+w.gates.length)(hb:b=0∨b=1):zeC w ⟨zbn i,b⟩:=⟨qG.mpr (.inl (zh7 hi)),hb⟩
noncomputable def zek (fs:List Flt):Prop:=(fs.map (·.place)).Nodup
noncomputable def tabV (fs:List Flt):List (List Key×V):=fs.map fun f=>(f.place,V.int f.worth)
noncomputable def look (fs:List Flt) (p:List Key):Option Int:=(fs.find? fun f=>decide (f.place=p)).map (·.worth)
noncomputable def pick (fs:List Flt) (p:List Key) (v:Int):Int:=(look fs p).getD v
theorem ziO (p:List Key):∀ fs:List Flt,valV (tabV fs) p=(look fs p).map V.int
 | []=>rfl
 | f::fs=>by
  show valV ((f.place,V.int f.worth)::tabV fs) p=_
  unfold look
  by_cases e:f.place=p
  ·rw [zcO e,yaa (by simpa using e)]
   rfl
  ·rw [zb8 e,yab (by simpa using e),ziO p fs]
   rfl
theorem zg8 (fs:List Flt)(p:List Key)(v:Int):(valV (tabV fs) p).getD (.int v)= .int (pick fs p v):=by
 rw [ziO]
 unfold pick
 cases look fs p <;> rfl
theorem zko {fs:List Flt}{p:List Key}(h:p∉fs.map (·.place)):look fs p=none:=by
 unfold look
 rw [yaN.mpr]
 ·rfl
 ·intro f hf z
  exact h (qE.mpr ⟨f,hf,of_decide_eq_true z⟩)
theorem znb {fs:List Flt}{p:List Key}{b:Int}(h:look fs p=some b):⟨p,b⟩∈fs:=by
 unfold look at h
 obtain ⟨f,hf,rfl⟩:=wZ.mp h
 have e0:=ycd hf
 have e:f.place=p:=by simpa using e0
 rw [← e]
 exact yaP hf
theorem zgV {fs:List Flt}{p:List Key}{v:Int}(hb:∀ f∈fs,f.worth=0∨f.worth=1)(hv:v=0∨v=1):pick fs p v=0∨pick fs p v=1:=by
 unfold pick
 cases e:look fs p with
 | none=>exact hv
 | some b=>exact hb _ (znb e)
noncomputable def zb0 (fs:List Flt) (k:Int) (ns:List Int):List Int:=ns.mapIdx fun i v=>pick fs (legK k i) v
noncomputable def rowS (fs:List Flt) (ns:List Int):List Int:=ns.mapIdx fun i v=>pick fs (zbn i) v
noncomputable def zaV (fs:List Flt) (gs:List (Str×List Int)) (row:List Int):Nat→List Int
 | 0=>rowS fs row
 | n+1=>zaV fs gs row n++ [pick fs (zbn ((row.length+n:Nat):Int)) (match gs[n]? with
   | some g=>zbS g.1 (zb0 fs n (g.2.map fun l=>(zaV fs gs row n).getD l.toNat 0))
   | none=>0)]
theorem zgT (fs:List Flt)(ns:List Int):(rowS fs ns).length=ns.length:=by unfold rowS;rw [ybS]
theorem zdK (fs:List Flt)(k:Int)(ns:List Int):(zb0 fs k ns).length=ns.length:=by unfold zb0;rw [ybS]
theorem zkS (fs:List Flt)(ns:List Int)(v:Int):rowS fs (ns++ [v])=rowS fs ns++ [pick fs (zbn ns.length) v]:=by unfold rowS;rw [ybT]
theorem zki (fs:List Flt)(k:Int)(ns:List Int)(v:Int):zb0 fs k (ns++ [v])=zb0 fs k ns++ [pick fs (legK k ns.length) v]:=by unfold zb0;rw [ybT]
theorem zbN (fs:List Flt)(gs:List (Str×List Int))(row:List Int):∀ n,(zaV fs gs row n).length=row.length+n
 | 0=>zgT fs row
 | n+1=>by rw [zaV,yI,zbN fs gs row n];simp;omega
theorem zkC {fs:List Flt}(hb:∀ f∈fs,f.worth=0∨f.worth=1){ns:List Int}(b:Bits ns):Bits (rowS fs ns):=by
 intro z hz
 unfold rowS at hz
 obtain ⟨i,h,e⟩:=ybo.mp hz
 rw [← e]
 exact zgV hb (b _ (xU h))
theorem ze3 {fs:List Flt}(hb:∀ f∈fs,f.worth=0∨f.worth=1){k:Int}{ns:List Int}(b:Bits ns):Bits (zb0 fs k ns):=by
 intro z hz
 unfold zb0 at hz
 obtain ⟨i,h,e⟩:=ybo.mp hz
 rw [← e]
 exact zgV hb (b _ (xU h))
theorem zdk {fs:List Flt}(hb:∀ f∈fs,f.worth=0∨f.worth=1){m:Nat}{w:zas}{row:List Int}(wf:WF m w)(hl:(row.length:Int)=w.ins)(b:Bits row):∀ n,n≤w.gates.length→Bits (zaV fs w.gates row n)
 | 0,_=>zkC hb b
 | n+1,h=>by
  have ih:=zdk hb wf hl b n (by omega)
  obtain ⟨g,hg⟩:∃ g,w.gates[n]? =some g:=⟨_,yF (by omega)⟩
  rw [zaV,hg]
  intro z hz
  rcases qG.mp hz with hz | hz
  ·exact ih z hz
  ·rw [yG.mp hz]
   obtain ⟨l1,l2⟩:=wf.legs n g hg
   refine zgV hb (znp (ze3 hb fun y hy=>?_) (by rw [zdK,yB];exact l1))
   obtain ⟨l,hl',rfl⟩:=qE.mp hy
   have:=l2 l hl'
   exact zbH ih (by rw [zbN];omega)
theorem zi8 (p:List Key)(v:Int):pick [] p v=v:=rfl
theorem zmI (ns:List Int):rowS [] ns=ns:=by
 unfold rowS
 refine vA fun i=>?_
 rw [xK]
 cases ns[i]? <;> rfl
theorem zh4 (k:Int)(ns:List Int):zb0 [] k ns=ns:=by
 unfold zb0
 refine vA fun i=>?_
 rw [xK]
 cases ns[i]? <;> rfl
theorem ze9 (gs:List (Str×List Int))(row:List Int):∀ n,zaV [] gs row n=zch gs row n
 | 0=>zmI row
 | n+1=>by
  rw [zaV,zch,ze9 gs row n,zi8]
  cases gs[n]? with
  | none=>rfl
  | some g=>simp only [zh4]
theorem zdM {K:PySem.W.Frag}{H:Hp}{b:Int}:∀ {ks:List Key} {vs:List V},Reps K H vs (ks.map kD++ [.int b])→vs=ks.map kV++ [.int b]
 | [],_,h=>by
  cases h with
  | cons h1 h2=>cases h1;cases h2;rfl
 | .inl n::ks,_,h=>by
  cases h with
  | cons h1 h2=>cases h1;rw [zdM h2];rfl
 | .inr n::ks,_,h=>by
  cases h with
  | cons h1 h2=>cases h1;rw [zdM h2];rfl
theorem zf6 {K:PySem.W.Frag}{H:Hp}{b:Int}:∀ (ks:List Key),Reps K H (ks.map kV++ [.int b]) (ks.map kD++ [.int b])
 | []=>.cons (.int _) .nil
 | .inl n::ks=>.cons (.int _) (zf6 ks)
 | .inr n::ks=>.cons (.str _) (zf6 ks)
theorem flt_at {K:PySem.W.Frag}{H:Hp}{f:Flt}{x:V}(h:Rep K H x (fltD f)):∃ a,x= .ref a∧SqT K H a (f.place.map kV++ [.int f.worth]):=by
 unfold fltD at h
 cases h with
 | tup ha r=>exact ⟨_,rfl,by rw [← zdM r];exact ha⟩
theorem ziL {K:PySem.W.Frag}{H:Hp}{f:Flt}{a:Addr}(h:SqT K H a (f.place.map kV++ [.int f.worth])):Rep K H (.ref a) (fltD f):=.tup h (zf6 _)
theorem zmK (xs:List V)(v:V):cutV (xs++ [v]) none (some (-1))=xs:=by
 have e1:HT.sIx (xs++ [v]).length 0 none=0:=rfl
 have e2:HT.sIx (xs++ [v]).length (xs++ [v]).length (some (-1))=xs.length:=by
  simp only [HT.sIx,yI,qC]
  rw [if_pos (by decide)]
  omega
 unfold cutV
 rw [e1,e2]
 simp
theorem zmi (xs:List V)(v:V):¬(HT.sIx (xs++ [v]).length 0 none=0∧HT.sIx (xs++ [v]).length (xs++ [v]).length (some (-1))=(xs++ [v]).length):=by
 rintro ⟨_,z⟩
 simp only [HT.sIx,yI,qC] at z
 rw [if_pos (by decide)] at z
 omega
theorem znF (xs:List V)(v:V):atI (xs++ [v]) (-1)=some v:=by
 unfold atI ixN
 have e:((-1:Int)+((xs++ [v]).length:Nat)).toNat=xs.length:=by rw [yI,qC];omega
 rw [if_neg (by decide),if_pos (by rw [yI,qC];omega),e]
 simp
end My
namespace My
open PySem L2
open PySem.W (Dat kqdP kqdPs kqdOk)
theorem zjC (n:Nat):(zcS n).length=n:=by
 have:=congrArg wI (zgR n)
 rw [yB,zcy] at this
 exact this
structure zgM (K:PySem.W.Frag) (w:zas) (most:Nat) (G:Hp) (v:V) (fs:List Flt):Prop where
 rep:Rep K G v (.list (fs.map fltD))
 good:∀ f∈fs,zeC w f
 apart:zek fs
 few:fs.length≤most
theorem zgM.mono {K:PySem.W.Frag}{w:zas}{most:Nat}{G G':Hp}{v:V}{fs:List Flt}(h:zgM K w most G v fs)(s:Same G G'):zgM K w most G' v fs:=⟨h.rep.mono s,h.good,h.apart,h.few⟩
theorem zmR {w:zas}{f:Flt}(n:Nat)(h:zeC w f):kqdOk (n+1) (fltD f)=true:=zmD n (zmt h)
theorem zng {w:zas}{fs:List Flt}(h:∀ f∈fs,zeC w f)(n:Nat):kqdOk (n+2) (.list (fs.map fltD))=true:=by
 show (fs.map fltD).all (kqdOk (n+1))=true
 refine yZ.mpr fun d hd=>?_
 obtain ⟨f,hf,rfl⟩:=qE.mp hd
 exact zmR n (h f hf)
theorem zjB {H H':Hp}(s:Same H H'){xs:List V}{kvs:List (List Key×V)}(h:zeV H xs kvs):zeV H' xs kvs:=Paired.mapP h fun _ _ ⟨p,kt,e,h1,h2⟩=>⟨p,kt,e,s _ _ h1,h2.same s⟩
theorem ziv {H:Hp}{D:Addr}{l:List V}{o:HO}(hD:H D=some (.lst l)){xs:List V}{kvs:List (List Key×V)}(h:zeV H xs kvs):zeV (upd H D o) xs kvs:=Paired.mapP h fun _ _ ⟨p,kt,e,h1,h2⟩=>
 ⟨p,kt,e,by rw [zah (zeZ h1 hD (fun z=>nomatch z))];exact h1,h2.write hD⟩
theorem zhM:∀ (fs gs:List Flt),zek (gs++fs)→zfg (tabV gs) (tabV fs)=tabV (gs++fs)
 | [],gs,_=>by rw [jH];rfl
 | f::fs,gs,h=>by
  have nl:look gs f.place=none:=zko fun z=>by
   unfold zek at h
   rw [yN] at h
   exact (jB.mp h).2.2 _ z _ (qE.mpr ⟨f,.head _,rfl⟩) rfl
  have nv:valV (tabV gs) f.place=none:=by rw [ziO,nl];rfl
  show zfg (putK (tabV gs) f.place (V.int f.worth)) (tabV fs)=_
  rw [zfo _ nv]
  have e:tabV gs++ [(f.place,V.int f.worth)]=tabV (gs++ [f]):=by unfold tabV;rw [yN];rfl
  rw [e,zhM fs (gs++ [f]) (by rw [xL];exact h),xL]
  rfl
end My
namespace L2
end L2
namespace My
open PySem L2
open PySem.W (Dat kqdP kqdPs kqdOk)
theorem zdy (fs:List Flt)(ws:List (Str×List Int))(row:List Int){i n:Nat}(h:i < row.length+n):∀ m,n≤m→(zaV fs ws row m)[i]? =(zaV fs ws row n)[i]?
 | 0,hm=>by
  have:n=0:=by omega
  subst this
  rfl
 | m+1,hm=>by
  by_cases e:n=m+1
  ·subst e
   rfl
  ·rw [zaV,jG (by rw [zbN];omega),zdy fs ws row h m (by omega)]
theorem ziu {A B:List Flt}{ws:List (Str×List Int)}{row:List Int}{g:Nat}{v:Int}(h:∀ q,(∀ p:Int,q≠legK g p)→look A q=look B q)(ha:look A (zbn ((row.length+g:Nat):Int))=some v):∀ n,zaV A ws row n=zaV B ws row n:=by
 have hw:∀ i:Int,look A (zbn i)=look B (zbn i):=fun i=>h _ fun p z=>zgS z
 have hpw:∀ (i x:Int),pick A (zbn i) x=pick B (zbn i) x:=fun i x=>by unfold pick;rw [hw]
 intro n
 induction n with
 | zero=>
  show rowS A row=rowS B row
  unfold rowS
  simp only [hpw]
 | succ n ih=>
  rw [zaV,zaV,ih]
  by_cases e:n=g
  ·subst e
   have hb:=(hw ((row.length+n:Nat):Int)).symm.trans ha
   unfold pick
   rw [ha,hb]
   rfl
  ·have hl:∀ ns,zb0 A n ns=zb0 B n ns:=fun ns=>by
    unfold zb0
    have:∀ (i:Nat) (x:Int),pick A (legK n i) x=pick B (legK n i) x:=fun i x=>by
     unfold pick
     rw [h _ fun p z=>e (by have:=(zfr z).1;omega)]
    simp only [this]
   rw [hpw]
   cases ws[n]? with
   | none=>rfl
   | some g'=>simp only [hl]
end My
namespace My
open PySem L2
open PySem.W (Dat kqdP kqdPs kqdOk)
theorem zek.app {a b:List Flt}(ha:zek a)(hb:zek b)(h:∀ f∈a,∀ g∈b,f.place≠g.place):zek (a++b):=by
 unfold zek at ha hb ⊢
 rw [yN]
 refine jB.mpr ⟨ha,hb,fun x hx y hy e=>?_⟩
 obtain ⟨f,hf,rfl⟩:=qE.mp hx
 obtain ⟨g,hg,rfl⟩:=qE.mp hy
 exact h f hf g hg e
noncomputable def Meet (w:zas) (A B:List Flt):Prop:=A=B∨∃ (g:Nat) (v:Int),(∀ q,(∀ p:Int,q≠legK g p)→look A q=look B q)∧look A (zbn ((w.ins.toNat+g:Nat):Int))=some v
theorem Meet.wires {w:zas}{A B:List Flt}(h:Meet w A B){row:List Int}(hl:(row.length:Int)=w.ins)(n:Nat):zaV A w.gates row n=zaV B w.gates row n:=by
 rcases h with rfl | ⟨g,v,h1,h2⟩
 ·rfl
 ·have e:w.ins.toNat=row.length:=by omega
  rw [e] at h2
  exact ziu h1 h2 n
end My
namespace My
open PySem L2
open PySem.W (Dat kqdP kqdPs kqdOk)
noncomputable abbrev Gts:=List (Str×List Int)
noncomputable def wvAt (gl:Gts) (row:List Int) (i:Int):Int:=(zch gl row gl.length).getD i.toNat 0
noncomputable def zhN (ins:Int) (gl:Gts):Prop:=∀ (k:Nat) g,gl[k]? =some g→zbU g.1 g.2.length∧∀ l∈g.2,0≤l∧l < ins+k
theorem zhN.snoc {ins:Int}{gl:Gts}{x:Str}{ls:List Int}(h:zhN ins gl)(hk:zbU x ls.length)(hl:∀ l∈ls,0≤l∧l < ins+gl.length):zhN ins (gl++ [(x,ls)]):=fun k g e=>by
 by_cases hk':k < gl.length
 ·rw [jG hk'] at e
  exact h k g e
 ·have:k < (gl++ [(x,ls)]).length:=(yE.mp e).1
  have ek:k=gl.length:=by
   rw [yI,qC] at this
   omega
  subst ek
  rw [jJ (yL _),ybp] at e
  cases e
  exact ⟨hk,hl⟩
theorem zgA (gl ext:Gts)(row:List Int):∀ n,n≤gl.length→zch (gl++ext) row n=zch gl row n
 | 0,_=>rfl
 | n+1,h=>by
  rw [zch,zch,zgA gl ext row n (by omega),jG (by omega)]
theorem zgf (gl:Gts)(row:List Int){i n:Nat}(h:i < row.length+n){m:Nat}(hm:n≤m):(zch gl row m)[i]? =(zch gl row n)[i]? :=by
 rw [← ze9,← ze9]
 exact zdy [] gl row h m hm
noncomputable def AtG (ins:Int) (gl:Gts) (w:Int) (x:Str) (ls:List Int):Prop:=∃ k:Nat,w=ins+k∧gl[k]? =some (x,ls)
theorem AtG.last (ins:Int)(gl:Gts)(x:Str)(ls:List Int):AtG ins (gl++ [(x,ls)]) (ins+gl.length) x ls:=⟨gl.length,rfl,by simp⟩
theorem AtG.ext {ins:Int}{gl ext:Gts}{w:Int}{x:Str}{ls:List Int}(h:AtG ins gl w x ls):AtG ins (gl++ext) w x ls:=by
 obtain ⟨k,e,g⟩:=h
 exact ⟨k,e,by rw [jG (yE.mp g).1];exact g⟩
section
variable {ins:Int} {gl:Gts} {row:List Int} {w:Int} {x:Str} {ls:List Int}
theorem AtG.val (good:zhN ins gl)(hl:(row.length:Int)=ins)(h:AtG ins gl w x ls):wvAt gl row w=zbS x (ls.map (wvAt gl row)):=by
 obtain ⟨k,rfl,g⟩:=h
 have hk:=(yE.mp g).1
 have e1:(ins+(k:Int)).toNat=row.length+k:=by omega
 unfold wvAt
 rw [e1,yM,zgf gl row (n:=k+1) (by omega) (by omega),zch,jJ (by rw [zeT];omega)]
 have e2:row.length+k - (zch gl row k).length=0:=by rw [zeT];omega
 rw [e2,g]
 show zbS x (ls.map fun l=>(zch gl row k).getD l.toNat 0)=_
 congr 1
 refine xM fun l hm=>?_
 have b:=(good k (x,ls) g).2 l hm
 rw [yM,yM,zgf gl row (n:=k) (m:=gl.length) (by omega) (by omega)]
theorem AtG.lt (h:AtG ins gl w x ls):w < ins+gl.length:=by
 obtain ⟨k,rfl,g⟩:=h
 have:=(yE.mp g).1
 omega
end
theorem zn5 (v:Int):zbS "not" [v]=1 - v:=by rw [zjm];rfl
noncomputable def zlZ (n0:Int) (n:Nat):List Int:=(qI n).map fun (t:Nat)=>n0+(t:Int)
theorem zkH (n0:Int)(n:Nat):(zlZ n0 n).length=n:=by unfold zlZ;simp
theorem zlY {n0:Int}{n t:Nat}(h:t < n):(zlZ n0 n)[t]? =some (n0+(t:Int)):=by
 unfold zlZ
 rw [yJ,List.getElem?_range h]
 rfl
noncomputable def zhT (ins:Int) (gl:Gts) (n0:Int) (ss:List Int):Prop:=∀ (t:Nat) (s:Int),ss[t]? =some s→AtG ins gl (n0+t) "not" [s]
theorem zhT.ext {ins n0:Int}{gl ext:Gts}{ss:List Int}(h:zhT ins gl n0 ss):zhT ins (gl++ext) n0 ss:=fun t s e=>(h t s e).ext
theorem zhT.vals {ins n0:Int}{gl:Gts}{ss row:List Int}(h:zhT ins gl n0 ss)(good:zhN ins gl)(hl:(row.length:Int)=ins):(zlZ n0 ss.length).map (wvAt gl row)=(ss.map (wvAt gl row)).map fun v=>1 - v:=by
 refine vA fun t=>?_
 by_cases ht:t < ss.length
 ·rw [yJ,zlY ht,yJ,yJ,yF ht]
  show some (wvAt gl row (n0+t))=some (1 - wvAt gl row ss[t])
  rw [(h t _ (yF ht)).val good hl]
  show some (zbS "not" [wvAt gl row ss[t]])=_
  rw [zn5]
 ·rw [vL (by rw [yB,zkH];omega),vL (by rw [yB,yB];omega)]
section
variable {ins n0:Int} {gl:Gts} {ss:List Int} {one other b l r:Int}
noncomputable def znZ (ins:Int) (gl:Gts) (ss:List Int) (j:Nat) (st:Int):Prop:=0≤st∧st < ins+gl.length∧∀ row:List Int,(row.length:Int)=ins→Bits row→wvAt gl row st=((ss.take j).map (wvAt gl row)).sum % 2
end
theorem zgX {ins:Int}{gl ext:Gts}{row:List Int}{w:Int}(hl:(row.length:Int)=ins)(h0: 0≤w)(h1:w < ins+gl.length):wvAt (gl++ext) row w=wvAt gl row w:=by
 unfold wvAt
 rw [yM,yM,zgf (gl++ext) row (n:=gl.length) (by omega) (by rw [yI];omega),zgA gl ext row gl.length (yL _)]
theorem znZ.step {ins:Int}{gl:Gts}{ss:List Int}{j:Nat}{st s:Int}(good:zhN ins gl)(i0: 0≤ins)(hs:∀ s∈ss,0≤s∧s < ins+gl.length)(h:znZ ins gl ss j st)(e:ss[j]? =some s):znZ ins (gl++ [(("odd" :Str),[st,s])]) ss (j+1) (ins+gl.length):=by
 have bs:=hs s (yH e)
 obtain ⟨h0,h1,h2⟩:=h
 have good':zhN ins (gl++ [(("odd" :Str),[st,s])]):=good.snoc (.inl ⟨.inr (.inr rfl),(by show 2≤2;decide),(by show 2≤4;decide)⟩) fun l hl=>by
  rcases yY.mp hl with rfl | hl
  ·exact ⟨h0,h1⟩
  ·rw [yG.mp hl];exact bs
 refine ⟨by omega,by rw [yI,qC];omega,fun row hl br=>?_⟩
 rw [(AtG.last ins gl "odd" [st,s]).val good' hl]
 simp only [qJ,yaL]
 rw [zjr,zgX hl h0 h1,zgX hl bs.1 bs.2,h2 row hl br,yR,e,yN,List.sum_append]
 have e2:(ss.take j).map (wvAt (gl++ [(("odd" :Str),[st,s])]) row)=(ss.take j).map (wvAt gl row):=xM fun z hz=>by
  have:=hs z (List.mem_of_mem_take hz)
  exact zgX hl this.1 this.2
 rw [e2]
 show ([((ss.take j).map (wvAt gl row)).sum % 2,wvAt gl row s].sum) % 2=(((ss.take j).map (wvAt gl row)).sum+ [wvAt (gl++ [(("odd" :Str),[st,s])]) row s].sum) % 2
 rw [zgX hl bs.1 bs.2]
 simp only [List.sum_cons,List.sum_nil]
 omega
structure GL (K:PySem.W.Frag) (M:List Addr) (m:Addr) (ins:Int) (gl:Gts) (G H:Hp):Prop where
 off:Off (m::M) G H
 at_:∃ gs,H m=some (.lst gs)∧Reps K G gs (gl.map zf8)
 good:zhN ins gl
section
variable {K:PySem.W.Frag} {M:List Addr} {m D T:Addr} {ins:Int} {gl:Gts} {G H:Hp} {o:HO}
theorem GL.new (g:GL K M m ins gl G H)(h:H T=none)(o:HO):GL K M m ins gl G (upd H T o):=by
 obtain ⟨gs,e,r⟩:=g.at_
 exact ⟨g.off.new h o,⟨gs,zaf h o _ _ e,r⟩,g.good⟩
theorem GL.opn (g:GL K M m ins gl G H)(h:H D=none)(o:HO):GL K (D::M) m ins gl G (upd H D o):=by
 obtain ⟨gs,e,r⟩:=g.at_
 refine ⟨(g.off.opn h o).less fun k hk=>?_,⟨gs,zaf h o _ _ e,r⟩,g.good⟩
 rcases yY.mp hk with rfl | hk
 ·exact .tail _ (.head _)
 ·rcases yY.mp hk with rfl | hk
  ·exact .head _
  ·exact .tail _ (.tail _ hk)
theorem GL.write (g:GL K M m ins gl G H)(h:D∈M)(hm:D≠m)(o:HO):GL K M m ins gl G (upd H D o):=by
 obtain ⟨gs,e,r⟩:=g.at_
 exact ⟨g.off.write (.tail _ h) o,⟨gs,by rw [zah (qR hm)];exact e,r⟩,g.good⟩
theorem GL.close (g:GL K [D] m ins gl G H)(e:H D=some o)(hm:D≠m):GL K [] m ins gl (upd G D o) H∧Same G (upd G D o):=by
 obtain ⟨gs,em,r⟩:=g.at_
 have of1:Off [D,m] G H:=g.off.less fun k hk=>by
  rcases yY.mp hk with rfl | hk
  ·exact .tail _ (.head _)
  ·rw [yG.mp hk];exact .head _
 have k:=of1.cadd o
 exact ⟨⟨of1.close e fun z=>hm (yG.mp z),⟨gs,em,r.mono k⟩,g.good⟩,k⟩
end
end My
namespace My
open PySem L2
open PySem.W (Dat kqdP kqdPs kqdOk)
theorem look1 (p q:List Key)(b:Int):look [⟨p,b⟩] q=if p=q then some b else none:=by
 unfold look
 by_cases e:p=q
 ·rw [if_pos e,yaa (by simpa using e)]
  rfl
 ·rw [if_neg e,yab (by simpa using e)]
  rfl
theorem zn8 {p q:List Key}(b x:Int)(h:p≠q):pick [⟨p,b⟩] q x=x:=by
 unfold pick
 rw [look1,if_neg h]
 rfl
theorem zk2 {p:List Key}{b:Int}{k:Int}(h:∀ i:Int,p≠legK k i)(ns:List Int):zb0 [⟨p,b⟩] k ns=ns:=by
 unfold zb0
 refine vA fun i=>?_
 rw [xK]
 cases ns[i]? with
 | none=>rfl
 | some x=>
  show some (pick _ _ _)=some x
  rw [zn8 b x (h i)]
noncomputable def sh (W l:Int):Int:=l+(if W≤l then 1 else 0)
noncomputable def turned (W:Int) (g p n:Nat) (ls:List Int):List Int:=if n=g then (ls.map (sh W)).set p W else ls.map (sh W)
noncomputable def allF (w:zas):List Flt:=(zb2 w).flatMap fun p=>[⟨p,0⟩,⟨p,1⟩]
theorem allF_D (w:zas):(allF w).map fltD=zfa w:=by
 rw [← zcK,← zeK]
 unfold allF zd6
 rw [List.map_flatMap,List.flatMap_map]
 rfl
theorem zaW {w:zas}{f:Flt}(h:f∈allF w):zeC w f:=by
 unfold allF at h
 obtain ⟨p,hp,hf⟩:=kJ.mp h
 rcases yY.mp hf with rfl | hf
 ·exact ⟨hp,.inl rfl⟩
 ·rw [yG.mp hf]
  exact ⟨hp,.inr rfl⟩
theorem zka {w:zas}{f:Flt}(h:zeC w f):(∃ i:Nat,i < w.ins.toNat+w.gates.length∧f.place=zbn i)∨∃ g p:Nat,∃ gt,w.gates[g]? =some gt∧p < gt.2.length∧f.place=legK g p:=by
 rcases qG.mp h.1 with h | h
 ·obtain ⟨i,hi,e⟩:=zd0 h
  exact .inl ⟨i,hi,e⟩
 ·obtain ⟨k,i,hk,hi,e⟩:=zd3 h
  rw [yF hk] at hi
  exact .inr ⟨k,i,_,yF hk,hi,e⟩
end My
namespace L2
theorem Reps.take {K:PySem.W.Frag}{H:Hp}:∀ {vs:List V} {ds:List PySem.W.Dat} (n:Nat),Reps K H vs ds→Reps K H (vs.take n) (ds.take n)
 | _,_,0,_=>.nil
 | _,_,_+1,.nil=>.nil
 | _,_,n+1,.cons h r=>.cons h (Reps.take n r)
theorem Reps.drop {K:PySem.W.Frag}{H:Hp}:∀ {vs:List V} {ds:List PySem.W.Dat} (n:Nat),Reps K H vs ds→Reps K H (vs.drop n) (ds.drop n)
 | _,_,0,r=>r
 | _,_,_+1,.nil=>.nil
 | _,_,n+1,.cons _ r=>Reps.drop n r
end L2
namespace L2
open PySem PySem.Spec PyProof.Rows
structure Air (C:Value) (h0:Heap) (x:Addr) (H':Hp) (h:Heap):Prop where
 newx:h0.get? x=none
 hx:H' x=none
 tr:∃ T a0 oe vs oT ts,h.get? x=some oe∧(oe.cls=C∧vs[0]? =some a0)∧oe.data= .fields vs∧vs[1]? =some (.ref T)∧h0.get? T=none∧H' T=none∧T≠x∧h.get? T=some oT∧oT.data= .fields ts∧ts[3]? =some .none
noncomputable def CXC (P:Program) (w:World) (C:Value):CXT:=fun outer H s E e s'=>∃ x H',e= .ref x∧s'.os=s.os∧AllBare s'.gens∧Un (frs outer) [] H H' s.heap s'.heap∧HOk P w H' s'.heap∧Air C s.heap x H' s'.heap∧E e (some x) H'
theorem zbh.there {P:Program}{w:World}{H:Hp}{h:Heap}{a:Addr}{o:HO}(x:zbh P w H h a o):∃ ob,h.get? a=some ob:=by
 cases o with
 | lst xs=>obtain ⟨_,_,_,_,e⟩:=x;exact ⟨_,e⟩
 | tup xs=>obtain ⟨_,_,_,ob,e,_⟩:=x;exact ⟨_,e⟩
 | dK kvs=>obtain ⟨_,_,_,_,o,_,_,e,_⟩:=x;exact ⟨_,e⟩
 | dT kvs=>obtain ⟨_,_,_,_,o,_,_,e,_⟩:=x;exact ⟨_,e⟩
 | set S n=>obtain ⟨o,_,_,_,e,_⟩:=x;exact ⟨_,e⟩
 | ins C dx fs=>obtain ⟨_,_,_,e,_⟩:=x;exact ⟨_,e⟩
 | own y=>obtain ⟨_,e⟩:=x;exact ⟨_,e⟩
 | xd fs=>obtain ⟨_,⟨_,_,_,e,_⟩,_⟩:=x;exact ⟨_,e⟩
 | rng lo hi=>obtain ⟨_,_,_,e⟩:=x;exact ⟨_,e⟩
 | frz ob u=>obtain ⟨e,_⟩:=x;exact ⟨_,e⟩
 | tbl ps=>exact ⟨_,x⟩
 | met f y=>exact ⟨_,x⟩
 | ext φ =>obtain ⟨_,⟨_,e⟩,_⟩:=x;exact ⟨_,e⟩
theorem Un.left {fs:List Addr}{H H':Hp}{h h' h'':Heap}{x T:Addr}(u:Un fs [] H H' h h')(nx:h.get? x=none)(nT:h.get? T=none)(k:∀ b o,b∉fs→b≠x→b≠T→h'.get? b=some o→h''.get? b=some o)
  (ks:∀ b o,b∈fs→h'.get? b=some o→∃ sl,h''.get? b=some {o with slots:=sl}):Un fs [] H H' h h'':=by
 have nn:∀ {b o},h.get? b=some o→b≠x∧b≠T:=fun {b o} e=>⟨(fun z=>by rw [z,nx] at e;cases e),(fun z=>by rw [z,nT] at e;cases e)⟩
 refine ⟨fun b o e n hb hx=>k b o hb (nn e).1 (nn e).2 (u.keep b o e n hb hx),fun b o e n hb hx=>?_,u.free,fun b o e hx=>?_,u.tups,u.frzs,u.tbls⟩
 ·obtain ⟨sl,q⟩:=u.slot b o e n hb hx
  obtain ⟨sl',q'⟩:=ks b _ hb q
  exact ⟨sl',q'⟩
 ·obtain ⟨o',q⟩:=u.there b o e hx
  by_cases hb:b∈fs
  ·obtain ⟨sl,q'⟩:=ks b o' hb q
   exact ⟨_,q'⟩
  ·exact ⟨o',k b o' hb (nn e).1 (nn e).2 q⟩
theorem HOk.left {P:Program}{w:World}{fs:List Addr}{H':Hp}{h' h'':Heap}{x T:Addr}(ok:HOk P w H' h')(nf:∀ b∈fs,H' b=none)(nx:H' x=none)(nT:H' T=none)(k:∀ b o,b∉fs→b≠x→b≠T→h'.get? b=some o→h''.get? b=some o):HOk P w H' h'':=fun a o e=>by
 have key:∀ b u,H' b=some u→∀ q,h'.get? b=some q→h''.get? b=some q:=fun b u e q eq=>k b q (fun z=>by rw [nf b z] at e;cases e) (fun z=>by rw [z,nx] at e;cases e) (fun z=>by rw [z,nT] at e;cases e) eq
 refine (ok a o e).stay (fun b u hb q=>?_) (fun _ q=>q) fun _ _ q=>q
 rcases hb with rfl | hb
 ·exact key _ _ e u q
 ·exact key _ _ hb u q
section
variable {P:Program} {w:World} {C:Value} {M:Model} {A:Around} {env:Env} {outer:List Env} {L:Addr} {H:Hp} {s s':Shared} {E:XK} {e:Value} {base:Heap} {E1:Value→Shared→Prop}
end
theorem CXC.up {X:Cx}{pins:List (Addr×Obj)}{σ :St}{H:Hp}{s s':Shared}{C:Value}{E:XK}{e:Value}(I:Inv X pins σ H s)(hx:X.ex= [])(cx:CXC X.prog X.w C X.stack H s E e s'):CXC X.prog X.w C X.outer X.H₀ X.s₀ E e s':=by
 obtain ⟨x,H',rfl,hos,hb,un,ok,⟨newx,hx',T,a0,oe,vs,oT,ts,ex,ec,ed,e1,nT,hT,Tx,eT,edT,e3⟩,q⟩:=cx
 have J:=I.call' hos un ok hb (fun b z=>absurd z (by simp))
 have nn:∀ {b:Addr},s.heap.get? b=none→X.s₀.heap.get? b=none:=fun {b} z=>by
  cases y:X.s₀.heap.get? b with
  | none=>rfl
  | some o=>
   obtain ⟨o',y'⟩:=I.base.there b o y (by rw [hx];simp)
   rw [z] at y'
   cases y'
 have jb:=J.base
 rw [hx] at jb
 exact ⟨x,H',rfl,J.os,J.bare,jb,J.hok,⟨nn newx,hx',T,a0,oe,vs,oT,ts,ex,ec,ed,e1,nn nT,hT,Tx,eT,edT,e3⟩,q⟩
section
variable {P:Program} {w:World} {M:Model} {A:Around} {env:Env} {outer:List Env} {L C x:Addr} {H:Hp} {s:Shared} {E:XK} {base h':Heap} {E1:Value→Shared→Prop} {us:List Value}
end
section
variable {X:Cx} {C:Addr} {E:XK} {B nid iid:String} {bB:List Value} {x:Str} {np cpos pos:Pos} {e:Expr} {es:List Expr} {t:TA}
end
section
variable {P:Program} {w:World} {K:PySem.W.Frag} {mg:Str→Option Value} {base:Heap} {N:List Str} {qual:Str} {scope:Scope} {f C:Addr} {cd:Value} {A:Around} {outer:List Env} {s:Shared} {H:Hp} {E:XK}
end
section
variable {X:Cx}
theorem PS.nox {st:Stmt}{t:TS}(h:PS X.nox st t):PS X st t:=fun pins s σ H D I hw=>
 wpAny_mono (h pins s σ H D (I.wish _) hw) (fun _ _ q=>q.unwish) fun _ _ z=>z.elim
theorem PA.nox {es:List Expr}{t:TA}(h:PA X.nox es t):PA X es t:=fun pos pins s σ H Q I hw=>
 wpAny_mono (h pos pins s σ H Q (I.wish _) hw) (fun _ _ ⟨v,H',I',r,q⟩=>⟨v,H',I'.unwish,r,q⟩) fun _ _ z=>z.elim
end
section
variable {P:Program} {w:World} {K:PySem.W.Frag} {mg:Str→Option Value} {base:Heap}
variable {N:List Str} {qual:Str} {scope:Scope} {f C:Addr} {cd:Value} {A:Around} {outer:List Env} {s:Shared} {H:Hp} {E:XK}
end
section
variable {M:Model} {A:Around} {E:Value→Shared→Prop}
variable {nm q nm2 q2:Str} {C N S N2:Addr} {bs bm bs2 bm2:List Value} {hdct hd2:Bool} {sn sn2:List Str} {sub sub2:List Value} {ab ab2:Bool} {col col2:Option Bool} {dd dd2:Option Addr} {k0 k1 k2 k3 k5 l0 l1 l2 l3 l5:Option Value} {newId newId2:String}
end
section
variable {X:Cx} {pins:List (Addr×Obj)} {σ :St} {H:Hp} {s:Shared}
end
section
variable {X:Cx} {pins:List (Addr×Obj)} {σ :St} {H1:Hp} {s1 s':Shared} {C S:Addr} {nid nid2:String} {bB bB2:List Value} {sx n:Str} {np hpos:Pos} {b₀ :Stmt} {suite:List Stmt} {j:Nat} {ts:TS} {D:Ends} {E':XK} {e:Value}
noncomputable def D1 (D:Ends) (j:Nat):Ends:={nx:=fun σ' H'=>D.nx (σ'.set j none) H',rt:=fun _ _=>False}
end
section
variable {X:Cx} {C S f:Addr} {k:Nat} {fd:FuncData} {ps:List Str} {sp:Sp} {dvs:List V} {ds:List Value} {nid nid2:String} {bB bB2:List Value} {fx sx n:Str} {p np hpos cpos epos pos:Pos} {b₀ :Stmt} {suite:List Stmt} {j:Nat} {t:TA} {ts:TS} {e:Expr} {es:List Expr}
end
section
variable {prog:Program} {w:World} {A:Around} {E:Value→Shared→Prop} {h:Heap} {g:Array GenState} {d:Drawn} {t:Nat} {os:OsState} {a:Addr} {o:Obj} {K:PySem.W.Frag}
 {nm q:Str} {C N:Addr} {bs bm bmB:List Value} {hdct:Bool} {sn:List Str} {sub:List Value} {ab:Bool} {col:Option Bool} {dd:Option Addr} {k0 k1 k2 k3 k5:Option Value} {B newId:String}
end
section
variable {X:Cx} {C:Addr} {B nid:String} {bB:List Value}
end
noncomputable def CDivB:Int→Int→Prop:=fun _ j=>0 < j∧j < 1000000000000000000000
section
variable {X:Cx}
theorem zji:OpR X (binaryOp .FloorDiv) (rI CDivB fun i j=>.int (i / j)):=opI fun i j _ _ _ _ _ hc q=>by
 have h1:(0:Int) < j:=hc.1
 have h2:j < 1000000000000000000000:=hc.2
 refine floordiv_int (by omega) (by rw [kZ i (by omega)];exact q) (.inl (PyProof.noPylong_of_log2 ?_))
 refine qB ((Nat.log2_lt (by omega)).mpr (?_:j.natAbs < 2 ^ 70)) (by decide)
 have:(2:Nat) ^ 70=1180591620717411303424:=by decide+kernel
 omega
end
end L2
namespace My
open PySem L2
open PySem.W (Dat kqdP kqdPs kqdOk)
end My
namespace My
open PySem L2
open PySem.W (Dat kqdP kqdPs kqdOk)
theorem zen (q:List Key)(p:List Key)(v:Int):look [⟨p,v⟩] q=if p=q then some v else none:=by
 unfold look
 by_cases e:p=q
 ·rw [if_pos e,yaa (by simpa using e)]
  rfl
 ·rw [if_neg e,yab (by simpa using e)]
  rfl
theorem zna {g p:Nat}{v:Int}(ns:List Int)(hp:p < ns.length):zb0 [⟨legK g p,v⟩] g ns=ns.set p v:=by
 unfold zb0
 refine vA fun i=>?_
 rw [xK]
 by_cases e:p=i
 ·subst e
  rw [wY hp,yF hp]
  simp only [yce]
  unfold pick
  rw [zen,if_pos rfl]
  rfl
 ·rw [vQ e]
  cases ns[i]? with
  | none=>rfl
  | some x=>
   simp only [yce]
   unfold pick
   rw [zen,if_neg fun z=>e (by have:=(zfr z).2;omega)]
   rfl
theorem zl6 (g p:Nat)(v:Int)(i:Int)(x:Int):pick [⟨legK g p,v⟩] (zbn i) x=x:=by
 unfold pick
 rw [zen,if_neg fun z=>zgS z.symm]
 rfl
theorem zfG (i:Int)(v x:Int):pick [⟨zbn i,v⟩] (zbn i) x=v:=by
 unfold pick
 rw [zen,if_pos rfl]
 rfl
end My
namespace L2
open PySem PySem.Spec PyProof.Rows
section
open PySem.SeqAt
open PySem.AutoSeq1 (wpAny_loadPart')
open PySem.MeetsSeq PySem.MeetsSeq2 PySem.MeetsSeq3
end
section
variable {X:Cx}
end
end L2
namespace My
open PySem L2
open PySem.W (Dat kqdP kqdPs kqdOk)
end My
namespace L2
open PySem PySem.Spec PyProof.Rows
section
open PySem.Sem (wp)
end
section
variable {X:Cx}
end
structure FunD (K:PySem.W.Frag) (x qual:Str) (st:Stmt) (f:Addr) (fd:FuncData) (T:Addr):Prop where
 ex:∃ (oc:Value) (od:Option Addr) (kV doc pm:Value) (an:Option Addr) (cdv ct:Value) (osl:Array (Option Value)),
  fd=PySem.W.fnOf x qual (zbV st) (zbs st) (zak st) (.ref T) kV doc pm an cdv ct∧K.lookup f=some ⟨oc,od,.func fd,osl⟩∧PySem.W.codeIn K cdv qual=true
 kp:PySem.W.keepIn K (.ref f)=true
section
variable {P:Program} {w:World} {K:PySem.W.Frag} {mg:Str→Option Value} {base:Heap}
theorem FunD.okB {x qual:Str}{st:Stmt}{f T:Addr}{fd:FuncData}{N ps:List Str}{k:Nat}{sp:Sp}(F:FunD K x qual st f fd T)(S:zaw N ps (zak st))(len:∀ vs H Q E,sp vs H Q E→vs.length=ps.length)
  (hbody:∀ (cdv:Value) (A:Around) (outer:List Env) (s:Shared) (H:Hp) (vs:List V) (Q:VK) (E:XK),Room k (A.deeper (envOfC qual (zak st) s.heap.objs.size f cdv))→sp vs H Q E→
   ∃ t,Bx (PSs (cxOf CX0 P w K mg base N qual (zak st) f cdv A outer s H E).nox (zbs st) t)∧t {nx:=fun _ H2=>Q .non H2,rt:=Q} (start N vs) H):FnOk P w K mg base CX0 (k+1) f fd ps sp:=by
 obtain ⟨oc,od,kV,doc,pm,an,cdv,ct,osl,rfl,lk,hcd⟩:=F.ex
 refine znG lk hcd S len fun A outer s H vs Q E hr hsp=>?_
 obtain ⟨t,h,q⟩:=hbody cdv A outer s H vs Q E hr hsp
 exact ⟨t,h.1.nox,q⟩
theorem FunD.binds {x qual:Str}{st:Stmt}{f T:Addr}{fd:FuncData}{ps:List Str}{ds:List Value}(F:FunD K x qual st f fd T)
  (h:∀ (kV doc pm:Value) (an:Option Addr) (cdv ct:Value) (s:Shared) (us:List Value),K.In s.heap→(us++ds).length=ps.length→
   BindsTo s (PySem.W.fnOf x qual (zbV st) (zbs st) (zak st) (.ref T) kV doc pm an cdv ct) ⟨us,[]⟩ (ps.zip (us++ds))):zgp K fd ps ds:=by
 obtain ⟨oc,od,kV,doc,pm,an,cdv,ct,osl,rfl,lk,hcd⟩:=F.ex
 exact h kV doc pm an cdv ct
theorem ziK {x qual:Str}{st:Stmt}{f T:Addr}{oc:Value}{od an:Option Addr}{osl:Array (Option Value)}{kV doc pm cdv ct:Value}(l:K.lookup f=some ⟨oc,od,.func (PySem.W.fnOf x qual (zbV st) (zbs st) (zak st) (.ref T) kV doc pm an cdv ct),osl⟩)
  (c:PySem.W.codeIn K cdv qual=true) (k:PySem.W.keepIn K (.ref f)=true):FunD K x qual st f (PySem.W.fnOf x qual (zbV st) (zbs st) (zak st) (.ref T) kV doc pm an cdv ct) T:=⟨⟨oc,od,kV,doc,pm,an,cdv,ct,osl,rfl,l,c⟩,k⟩
end
end L2
namespace My
open PySem L2
noncomputable def zey (o:Int) (x:Str) (ns:List Int):Int:=
 if x="not" then qO o (ns.getD 0 0)
 else if x="choose" then qY (qT (ns.getD 0 0) (ns.getD 1 0)) (qT (qO o (ns.getD 0 0)) (ns.getD 2 0))
 else ns.foldl (fun a b=>if x="and" then qT a b else if x="or" then qY a b else qO a b) (if x="and"∨x="one" then o else 0)
theorem zmf {a b:Int}(ha:a=0∨a=1)(hb:b=0∨b=1):qT a b=if a=1∧b=1 then 1 else 0:=by
 rcases ha with rfl | rfl <;> rcases hb with rfl | rfl <;> decide
theorem znH {a b:Int}(ha:a=0∨a=1)(hb:b=0∨b=1):qY a b=if a=1∨b=1 then 1 else 0:=by
 rcases ha with rfl | rfl <;> rcases hb with rfl | rfl <;> decide
theorem zmG {a b:Int}(ha:a=0∨a=1)(hb:b=0∨b=1):qO a b=(a+b) % 2:=by
 rcases ha with rfl | rfl <;> rcases hb with rfl | rfl <;> decide
theorem zjg:∀ (ns:List Int) {a:Int},(a=0∨a=1)→Bits ns→ns.foldl qT a=if a=1∧ns.all (· ==1)=true then 1 else 0
 | [],a,ha,_=>by rcases ha with rfl | rfl <;> decide
 | n::ns,a,ha,b=>by
  have hn:=b n (.head _)
  have e:=zmf ha hn
  rw [kQ,zjg ns (by rw [e];split <;> simp) fun z hz=>b z (.tail _ hz),e]
  rcases ha with rfl | rfl <;> rcases hn with rfl | rfl <;> simp
theorem zlB:∀ (ns:List Int) {a:Int},(a=0∨a=1)→Bits ns→ns.foldl qY a=if a=1∨ns.any (· ==1)=true then 1 else 0
 | [],a,ha,_=>by rcases ha with rfl | rfl <;> decide
 | n::ns,a,ha,b=>by
  have hn:=b n (.head _)
  have e:=znH ha hn
  rw [kQ,zlB ns (by rw [e];split <;> simp) fun z hz=>b z (.tail _ hz),e]
  rcases ha with rfl | rfl <;> rcases hn with rfl | rfl <;> simp
theorem ziR:∀ (ns:List Int) {a:Int},(a=0∨a=1)→Bits ns→ns.foldl qO a=(a+ns.sum) % 2
 | [],a,ha,_=>by rcases ha with rfl | rfl <;> decide
 | n::ns,a,ha,b=>by
  have hn:=b n (.head _)
  have e:=zmG ha hn
  rw [kQ,ziR ns (by rw [e];omega) fun z hz=>b z (.tail _ hz),e,List.sum_cons]
  omega
theorem n_an:("and" :Str)≠"not" :=by decide+kernel
theorem n_ac:("and" :Str)≠"choose" :=by decide+kernel
theorem n_on:("or" :Str)≠"not" :=by decide+kernel
theorem n_oc:("or" :Str)≠"choose" :=by decide+kernel
theorem n_o1:("or" :Str)≠"one" :=by decide+kernel
theorem n_dn:("odd" :Str)≠"not" :=by decide+kernel
theorem n_dc:("odd" :Str)≠"choose" :=by decide+kernel
theorem n_d1:("odd" :Str)≠"one" :=by decide+kernel
theorem zkq {x:Str}{ns:List Int}(b:Bits ns)(h:zbU x ns.length):zey 1 x ns=zbS x ns:=by
 rcases h with ⟨h | h | h,l1,l2⟩ | ⟨h,l1⟩ | ⟨h,l1⟩ | ⟨h | h,l1⟩ <;> subst h <;> unfold zey
 ·rw [zlX,if_neg n_an,if_neg n_ac,if_pos (.inl rfl)]
  simp only [if_pos]
  rw [zjg ns (.inr rfl) b]
  simp
 ·rw [zoi,if_neg n_on,if_neg n_oc,if_neg (fun z=>z.elim n_oa n_o1)]
  simp only [if_neg n_oa,if_pos]
  rw [zlB ns (.inl rfl) b]
  simp
 ·rw [zjr,if_neg n_dn,if_neg n_dc,if_neg (fun z=>z.elim n_da n_d1)]
  simp only [if_neg n_da,if_neg n_do]
  rw [ziR ns (.inl rfl) b,vY]
 ·rw [zjm,if_pos rfl]
  rcases zbH b (i:=0) (by omega) with e | e <;> rw [e] <;> decide
 ·rw [zga,if_neg n_cn,if_pos rfl]
  rcases zbH b (i:=0) (by omega) with e | e <;> rcases zbH b (i:=1) (by omega) with f | f <;> rcases zbH b (i:=2) (by omega) with g | g <;> rw [e,f,g] <;> decide
 ·obtain rfl:ns= []:=jQ.mp l1
  rw [zij,if_neg n_zn,if_neg n_zc,if_neg (fun z=>z.elim n_za n_z1)]
  rfl
 ·obtain rfl:ns= []:=jQ.mp l1
  rw [zlI,if_neg n_1n,if_neg n_1c,if_pos (.inr rfl)]
  rfl
theorem gi_not (o:Int)(ns:List Int):zey o "not" ns=qO o (ns.getD 0 0):=by unfold zey;rw [if_pos rfl]
theorem zlx (o:Int)(ns:List Int):zey o "choose" ns=qY (qT (ns.getD 0 0) (ns.getD 1 0)) (qT (qO o (ns.getD 0 0)) (ns.getD 2 0)):=by unfold zey;rw [if_neg n_cn,if_pos rfl]
theorem znK {x:Str}(hn:x≠"not")(hc:x≠"choose")(o:Int)(ns:List Int):zey o x ns=ns.foldl (fun a b=>if x="and" then qT a b else if x="or" then qY a b else qO a b) (if x="and"∨x="one" then o else 0):=by unfold zey;rw [if_neg hn,if_neg hc]
theorem zno {n:Nat}(h:zbU "not" n):n=1:=by
 rcases h with ⟨h | h | h,l1,l2⟩ | ⟨h,l1⟩ | ⟨h,l1⟩ | ⟨h | h,l1⟩ <;> first | exact l1 | exact absurd h (by decide+kernel)
theorem zil {n:Nat}(h:zbU "choose" n):n=3:=by
 rcases h with ⟨h | h | h,l1,l2⟩ | ⟨h,l1⟩ | ⟨h,l1⟩ | ⟨h | h,l1⟩ <;> first | exact l1 | exact absurd h (by decide+kernel)
theorem in_two (x a b:Str):inV (.str x) [.str a,.str b]=decide (x=a∨x=b):=by
 show ((eqV (.str a) (.str x)) || ((eqV (.str b) (.str x)) || false))=_
 have e:∀ y z:Str,eqV (.str y) (.str z)=decide (z=y):=fun y z=>by
  show (y==z)=_
  rw [xG,beq_iff_eq,decide_eq_true_eq]
  exact eq_comm
 rw [e,e,Bool.or_false]
 by_cases q:x=a <;> by_cases q2:x=b <;> simp [q,q2]
noncomputable def zck (o:Int) (fs:List Flt) (gs:List (Str×List Int)) (row:List Int):Nat→List Int
 | 0=>rowS fs row
 | n+1=>zck o fs gs row n++ [pick fs (zbn ((row.length+n:Nat):Int)) (match gs[n]? with
   | some g=>zey o g.1 (zb0 fs n (g.2.map fun l=>(zck o fs gs row n).getD l.toNat 0))
   | none=>0)]
theorem ze5 (o:Int)(fs:List Flt)(gs:List (Str×List Int))(row:List Int):∀ n,(zck o fs gs row n).length=row.length+n
 | 0=>zgT fs row
 | n+1=>by rw [zck,yI,ze5 o fs gs row n];simp;omega
end My
namespace L2
open PySem PySem.Spec PyProof.Rows
noncomputable def zcV:List Str→List Value→Bool
 | [],[]=>true
 | x::xs,.str y _::vs=>x==y && zcV xs vs
 | _,_=>false
noncomputable def TupK (K:PySem.W.Frag) (a:Addr) (xs:List Str):Prop:=(match K.lookup a with
 | some o=>(o.cls== .type "tuple" && o.dict.isNone) && (match o.data with
  | .seq vs _=>zcV xs vs.toList
  | _=>false)
 | none=>false)=true
theorem zfK:∀ {xs:List Str} {vs:List Value},zcV xs vs=true→Vals (xs.map V.str) vs
 | [],[],_=>.nil
 | x::xs,v::vs,h=>by
  cases v with
  | str y t=>
   have h':(x==y && zcV xs vs)=true:=h
   rw [yW] at h'
   have e:x=y:=eq_of_beq h'.1
   subst e
   exact .cons ⟨t,rfl⟩ (zfK h'.2)
  | _=>simp [zcV] at h
 | [],_::_,h=>by simp [zcV] at h
 | _::_,[],h=>by simp [zcV] at h
theorem TupK.sq {K:PySem.W.Frag}{H:Hp}{a:Addr}{xs:List Str}(h:TupK K a xs)(hz:xs.length≤1000):SqT K H a (xs.map V.str):=by
 unfold TupK at h
 cases e:K.lookup a with
 | none=>rw [e] at h;cases h
 | some o=>
  rw [e] at h
  simp only [yW] at h
  obtain ⟨⟨h1,_⟩,h2⟩:=h
  cases ed:o.data with
  | seq vs n=>
   rw [ed] at h2
   have rv:=zfK h2
   have lv:=rv.length
   rw [yB] at lv
   have lz:vs.size=xs.length:=by rw [lv,kA]
   have line:(1000:Nat)≤yK:=by decide
   exact .inr ⟨o,vs,n,e,beq_iff_eq.mp h1,ed,by omega,rv⟩
  | _=>rw [ed] at h2;cases h2
theorem TupK.plain {K:PySem.W.Frag}{a:Addr}{xs:List Str}(h:TupK K a xs):∃ o,K.lookup a=some o∧o.cls= .type "tuple"∧o.dict=none:=by
 unfold TupK at h
 cases e:K.lookup a with
 | none=>rw [e] at h;cases h
 | some o=>
  rw [e] at h
  simp only [yW] at h
  exact ⟨o,rfl,beq_iff_eq.mp h.1.1,Option.isNone_iff_eq_none.mp h.1.2⟩
section
variable {X:Cx} {o e:Expr} {apos cpos:Pos} {td ty:TE}
end
section
variable {X:Cx} {e:Expr} {te:TE} {p p' pos pos':Pos}
end
open PySem.W (Dat kqdP kqdPs kqdOk)
section
variable {X:Cx}
end
section
variable {X:Cx} {K:PySem.W.Frag}
end
end L2
namespace My
open PySem L2
theorem ziI (a b:Nat):qT (a:Int) (b:Int)=((a &&& b:Nat):Int):=by
 unfold qT
 rw [decide_eq_true (wR a),decide_eq_true (wR b)]
 rfl
theorem znr (a b:Nat):qY (a:Int) (b:Int)=((a ||| b:Nat):Int):=by
 have h:∀ n:Nat,decide (0≤jW (n:Int))=false:=fun n=>decide_eq_false (by unfold jW;omega)
 have t:∀ n:Nat,(jW (jW (n:Int))).toNat=n:=fun n=>by unfold jW;omega
 have e:qT (jW (a:Int)) (jW (b:Int))=jW ((a ||| b:Nat):Int):=by
  unfold qT
  rw [h a,h b]
  show jW (((jW (jW (a:Int))).toNat ||| (jW (jW (b:Int))).toNat:Nat):Int)=_
  rw [t a,t b]
 unfold qY
 rw [e]
 unfold jW
 omega
theorem zjD:∀ a b:Nat,a ||| b=(a ^^^ b)+(a &&& b):=by
 intro a
 induction a using Nat.strongRecOn with
 | ind a ih=>
  intro b
  by_cases ha:a=0
  ·subst ha
   simp
  ·have h:=ih (a / 2) (by omega) (b / 2)
   have e1:=Nat.or_div_two (a:=a) (b:=b)
   have e2:=Nat.xor_div_two (a:=a) (b:=b)
   have e3:=Nat.and_div_two (a:=a) (b:=b)
   have m1:(a ||| b) % 2=(a ^^^ b) % 2+(a &&& b) % 2:=by
    have t:∀ n:Nat,n % 2=if n.testBit 0 then 1 else 0:=fun n=>by
     rw [Nat.testBit_zero]
     by_cases hn:n % 2=1
     ·simp [hn]
     ·have:n % 2=0:=by omega
      simp [this]
    rw [t (a ||| b),t (a ^^^ b),t (a &&& b),Nat.testBit_or,ycf,ycg]
    cases a.testBit 0 <;> cases b.testBit 0 <;> rfl
   omega
theorem zn6 (a b:Nat):qO (a:Int) (b:Int)=((a ^^^ b:Nat):Int):=by
 unfold qO
 rw [znr,ziI]
 have:=zjD a b
 omega
noncomputable def bitI (j:Nat) (x:Int):Int:=if x.toNat.testBit j then 1 else 0
noncomputable def za3 (R:Nat) (x:Int):Prop:=0≤x∧x.toNat < 2 ^ R
theorem zft (j:Nat)(x:Int):bitI j x=0∨bitI j x=1:=by unfold bitI;split <;> simp
theorem zbo {R:Nat}{x:Int}(h:za3 R x):∃ n:Nat,x=(n:Int)∧n < 2 ^ R:=⟨x.toNat,by have:=h.1;omega,h.2⟩
theorem zdj {R n:Nat}(h:n < 2 ^ R):za3 R (n:Int):=⟨by omega,by rw [jM];exact h⟩
theorem za9 (j n:Nat):bitI j (n:Int)=if n.testBit j then 1 else 0:=by unfold bitI;rw [jM]
theorem zfT {R:Nat}{x y:Int}(hx:za3 R x)(hy:za3 R y):za3 R (qT x y)∧∀ j,bitI j (qT x y)=qT (bitI j x) (bitI j y):=by
 obtain ⟨a,rfl,ha⟩:=zbo hx
 obtain ⟨b,rfl,hb⟩:=zbo hy
 rw [ziI]
 refine ⟨zdj (Nat.and_lt_two_pow _ hb),fun j=>?_⟩
 rw [za9,za9,za9,ycg]
 cases a.testBit j <;> cases b.testBit j <;> decide
theorem zg6 {R:Nat}{x y:Int}(hx:za3 R x)(hy:za3 R y):za3 R (qY x y)∧∀ j,bitI j (qY x y)=qY (bitI j x) (bitI j y):=by
 obtain ⟨a,rfl,ha⟩:=zbo hx
 obtain ⟨b,rfl,hb⟩:=zbo hy
 rw [znr]
 refine ⟨zdj (Nat.or_lt_two_pow ha hb),fun j=>?_⟩
 rw [za9,za9,za9,Nat.testBit_or]
 cases a.testBit j <;> cases b.testBit j <;> decide
theorem zem {R:Nat}{x y:Int}(hx:za3 R x)(hy:za3 R y):za3 R (qO x y)∧∀ j,bitI j (qO x y)=qO (bitI j x) (bitI j y):=by
 obtain ⟨a,rfl,ha⟩:=zbo hx
 obtain ⟨b,rfl,hb⟩:=zbo hy
 rw [zn6]
 refine ⟨zdj (Nat.xor_lt_two_pow ha hb),fun j=>?_⟩
 rw [za9,za9,za9,ycf]
 cases a.testBit j <;> cases b.testBit j <;> decide
noncomputable def zaX (R:Nat):Int:=((2 ^ R - 1:Nat):Int)
theorem zcz (R:Nat):za3 R (zaX R):=zdj (by have:=wT R;omega)
theorem zfm {R j:Nat}(h:j < R):bitI j (zaX R)=1:=by
 unfold zaX
 rw [za9,yaB]
 simp [h]
theorem zfn (j:Nat):bitI j 0=0:=by
 show bitI j ((0:Nat):Int)=0
 rw [za9,yca]
 rfl
theorem zc7 (R:Nat):za3 R 0:=zdj (n:=0) (wT R)
theorem ze1 {R:Nat}{ns:List Int}(h:∀ n∈ns,za3 R n)(i:Nat):za3 R (ns.getD i 0):=by
 rw [yM]
 cases e:ns[i]? with
 | none=>exact zc7 R
 | some n=>exact h n (yH e)
theorem zdb (j:Nat)(ns:List Int)(i:Nat):bitI j (ns.getD i 0)=(ns.map (bitI j)).getD i 0:=by
 rw [yM,yM,yJ]
 cases ns[i]? with
 | none=>exact zfn j
 | some n=>rfl
theorem zgJ {R:Nat}{f:Int→Int→Int}(hf:∀ x y,za3 R x→za3 R y→za3 R (f x y)∧∀ j,bitI j (f x y)=f (bitI j x) (bitI j y)):∀ (ns:List Int) {a:Int},za3 R a→(∀ n∈ns,za3 R n)→za3 R (ns.foldl f a)∧∀ j,bitI j (ns.foldl f a)=(ns.map (bitI j)).foldl f (bitI j a)
 | [],a,ha,_=>⟨ha,fun _=>rfl⟩
 | n::ns,a,ha,h=>by
  obtain ⟨h1,h2⟩:=hf a n ha (h n (.head _))
  obtain ⟨h3,h4⟩:=zgJ hf ns h1 fun z hz=>h z (.tail _ hz)
  refine ⟨h3,fun j=>?_⟩
  rw [kQ,h4 j,qJ,kQ,h2 j]
theorem zjA {R:Nat}(x:Str){ns:List Int}(h:∀ n∈ns,za3 R n):za3 R (zey (zaX R) x ns)∧∀ j,j < R→bitI j (zey (zaX R) x ns)=zey 1 x (ns.map (bitI j)):=by
 have hg:=ze1 h
 unfold zey
 by_cases hn:x="not"
 ·rw [if_pos hn]
  obtain ⟨h1,h2⟩:=zem (zcz R) (hg 0)
  refine ⟨h1,fun j hj=>?_⟩
  rw [if_pos hn,h2 j,zfm hj,zdb]
 rw [if_neg hn]
 by_cases hc:x="choose"
 ·rw [if_pos hc]
  obtain ⟨a1,a2⟩:=zfT (hg 0) (hg 1)
  obtain ⟨b1,b2⟩:=zem (zcz R) (hg 0)
  obtain ⟨c1,c2⟩:=zfT b1 (hg 2)
  obtain ⟨d1,d2⟩:=zg6 a1 c1
  refine ⟨d1,fun j hj=>?_⟩
  rw [if_neg hn,if_pos hc,d2 j,a2 j,c2 j,b2 j,zfm hj,zdb,zdb,zdb]
 rw [if_neg hc]
 have ha:za3 R (if x="and"∨x="one" then zaX R else 0):=by
  split
  ·exact zcz R
  ·exact zc7 R
 have hf:∀ a b,za3 R a→za3 R b→za3 R ((fun a b=>if x="and" then qT a b else if x="or" then qY a b else qO a b) a b)∧∀ j,bitI j ((fun a b=>if x="and" then qT a b else if x="or" then qY a b else qO a b) a b)=(fun a b=>if x="and" then qT a b else if x="or" then qY a b else qO a b) (bitI j a) (bitI j b):=by
  intro a b h1 h2
  by_cases e1:x="and"
  ·simp only [if_pos e1]
   exact zfT h1 h2
  ·by_cases e2:x="or"
   ·simp only [if_neg e1,if_pos e2]
    exact zg6 h1 h2
   ·simp only [if_neg e1,if_neg e2]
    exact zem h1 h2
 obtain ⟨h1,h2⟩:=zgJ hf ns ha h
 refine ⟨h1,fun j hj=>?_⟩
 rw [if_neg hn,if_neg hc,h2 j]
 congr 1
 split
 ·exact zfm hj
 ·exact zfn j
noncomputable def zcn (R:Nat) (fs:List Flt):List Flt:=fs.map fun f=>⟨f.place,f.worth * zaX R⟩
theorem zlC (R:Nat)(fs:List Flt)(p:List Key):look (zcn R fs) p=(look fs p).map (· * zaX R):=by
 unfold look zcn
 induction fs with
 | nil=>rfl
 | cons f fs ih=>
  rw [qJ,vC,vC]
  by_cases h:f.place=p
  ·simp [h]
  ·simpa [h] using ih
theorem zni {R:Nat}{v:Int}(h:v=0∨v=1):za3 R (v * zaX R)∧∀ j,j < R→bitI j (v * zaX R)=v:=by
 rcases h with rfl | rfl
 ·rw [Int.zero_mul]
  exact ⟨zc7 R,fun j _=>zfn j⟩
 ·rw [Int.one_mul]
  exact ⟨zcz R,fun j hj=>zfm hj⟩
theorem zfO {R:Nat}{fs:List Flt}(fb:∀ f∈fs,f.worth=0∨f.worth=1)(p:List Key){v:Int}(h:za3 R v):za3 R (pick (zcn R fs) p v)∧∀ j,j < R→bitI j (pick (zcn R fs) p v)=pick fs p (bitI j v):=by
 unfold pick
 rw [zlC]
 cases e:look fs p with
 | none=>exact ⟨h,fun _ _=>rfl⟩
 | some b=>
  have hb:b=0∨b=1:=by
   unfold look at e
   obtain ⟨f,hf,rfl⟩:=wZ.mp e
   exact fb f (yaP hf)
  exact zni hb
theorem zjb {R:Nat}{fs:List Flt}(fb:∀ f∈fs,f.worth=0∨f.worth=1)(key:Nat→List Key){ns:List Int}(h:∀ n∈ns,za3 R n):(∀ n∈ns.mapIdx (fun i v=>pick (zcn R fs) (key i) v),za3 R n)∧∀ j,j < R→(ns.mapIdx (fun i v=>pick (zcn R fs) (key i) v)).map (bitI j)=(ns.map (bitI j)).mapIdx (fun i v=>pick fs (key i) v):=by
 constructor
 ·intro n hn
  obtain ⟨i,hi,e⟩:=ybo.mp hn
  rw [← e]
  exact (zfO fb _ (h _ (xU hi))).1
 ·intro j hj
  refine vA fun i=>?_
  rw [yJ,xK,xK,yJ]
  cases e:ns[i]? with
  | none=>rfl
  | some v=>exact congrArg some ((zfO fb _ (h v (yH e))).2 j hj)
theorem zgz {R:Nat}{fs:List Flt}(fb:∀ f∈fs,f.worth=0∨f.worth=1){m:Nat}{w:zas}{cols:List Int}(wf:WF m w)(hl:(cols.length:Int)=w.ins)(h:∀ n∈cols,za3 R n):
  ∀ n,n≤w.gates.length→(∀ v∈zck (zaX R) (zcn R fs) w.gates cols n,za3 R v)∧∀ j,j < R→(zck (zaX R) (zcn R fs) w.gates cols n).map (bitI j)=zaV fs w.gates (cols.map (bitI j)) n
 | 0,_=>zjb fb (fun i=>zbn i) h
 | n+1,hn=>by
  obtain ⟨h1,h2⟩:=zgz fb wf hl h n (by omega)
  obtain ⟨g,hg⟩:∃ g,w.gates[n]? =some g:=⟨_,yF (by omega)⟩
  obtain ⟨lk,lb⟩:=wf.legs n g hg
  have hr:∀ v∈g.2.map (fun l=>(zck (zaX R) (zcn R fs) w.gates cols n).getD l.toNat 0),za3 R v:=fun v hv=>by
   obtain ⟨l,_,rfl⟩:=qE.mp hv
   exact ze1 h1 _
  obtain ⟨l1,l2⟩:=zjb fb (fun i=>legK (n:Int) (i:Int)) hr
  obtain ⟨g1,g2⟩:=zjA g.1 l1
  obtain ⟨p1,p2⟩:=zfO fb (zbn ((cols.length+n:Nat):Int)) g1
  rw [zck,hg]
  refine ⟨fun v hv=>?_,fun j hj=>?_⟩
  ·rcases qG.mp hv with hv | hv
   ·exact h1 v hv
   ·rw [yG.mp hv]
    exact p1
  ·have bw:Bits (cols.map (bitI j)):=fun z hz=>by obtain ⟨v,_,rfl⟩:=qE.mp hz;exact zft j v
   have hl':((cols.map (bitI j)).length:Int)=w.ins:=by rw [yB];exact hl
   have bS:=zdk fb wf hl' bw n (by omega)
   rw [yN,h2 j hj,zaV,hg]
   congr 1
   refine congrArg (fun z=>[z]) ((p2 j hj).trans ?_)
   rw [g2 j hj,l2 j hj,yB]
   have e1:(g.2.map (fun l=>(zck (zaX R) (zcn R fs) w.gates cols n).getD l.toNat 0)).map (bitI j)=g.2.map fun l=>(zaV fs w.gates (cols.map (bitI j)) n).getD l.toNat 0:=by
    rw [kR]
    refine xM fun l _=>?_
    show bitI j (List.getD _ _ 0)=_
    rw [zdb,h2 j hj]
   rw [e1]
   refine congrArg (pick fs _) (zkq ?_ ?_)
   ·exact ze3 (k:=(n:Int)) fb fun z hz=>by
     obtain ⟨l,hl2,rfl⟩:=qE.mp hz
     exact zbH bS (by rw [zbN,yB];have:=lb l hl2;omega)
   ·show zbU g.1 (zb0 fs n _).length
    rw [zdK,yB]
    exact lk
noncomputable def zdl:Nat→List Int
 | 0=>[]
 | n+1=>zaX (2 ^ n) * (zaX (2 ^ n)+1)::(zdl n).map fun v=>v+v * (zaX (2 ^ n)+1)
theorem zer (R:Nat):zaX R+1=((2 ^ R:Nat):Int):=by
 unfold zaX
 have:=wT R
 omega
theorem zlQ (n:Nat):zaX (2 ^ n)+zaX (2 ^ n) * (zaX (2 ^ n)+1)=zaX (2 ^ (n+1)):=by
 have h:=wT (2 ^ n)
 have e: 2 ^ (2 ^ (n+1))=2 ^ 2 ^ n * 2 ^ 2 ^ n:=by rw [← Nat.pow_add];congr 1;rw [ybn];omega
 rw [zer]
 unfold zaX
 rw [e]
 generalize 2 ^ 2 ^ n=q at h
 obtain ⟨p,rfl⟩:∃ p,q=p+1:=⟨q - 1,by omega⟩
 have e2:(p+1) * (p+1) - 1=p+p * (p+1):=by
  rw [Nat.add_mul,Nat.one_mul]
  omega
 rw [e2,Nat.add_sub_cancel]
 push_cast
 rfl
theorem zfP {R a b:Nat}(hb:b < 2 ^ R)(j:Nat):(2 ^ R * a+b).testBit j=if j < R then b.testBit j else a.testBit (j - R):=Nat.testBit_two_pow_mul_add a hb j
theorem zhS {R a b:Nat}(ha:a < 2 ^ R)(hb:b < 2 ^ R): 2 ^ R * a+b < 2 ^ (R+R):=by
 rw [Nat.pow_add]
 have: 2 ^ R * a+2 ^ R≤2 ^ R * 2 ^ R:=by
  rw [← Nat.mul_succ]
  exact Nat.mul_le_mul_left _ ha
 omega
theorem zeO:∀ n,(∀ v∈zdl n,za3 (2 ^ n) v)∧(zdl n).length=n∧∀ j,j < 2 ^ n→(zaT n)[j]? =some ((zdl n).map (bitI j))
 | 0=>⟨(fun _ z=>nomatch z),rfl,fun j hj=>by
  have:j=0:=by simpa using hj
  subst this
  rfl⟩
 | n+1=>by
  obtain ⟨h1,h2,h3⟩:=zeO n
  have hR: 2 ^ (n+1)=2 ^ n+2 ^ n:=by rw [ybn];omega
  have pos:=wT (2 ^ n)
  have eh:zaX (2 ^ n) * (zaX (2 ^ n)+1)=((2 ^ 2 ^ n * (2 ^ 2 ^ n - 1)+0:Nat):Int):=by
   rw [zer]
   unfold zaX
   rw [Nat.add_zero,yb2]
   push_cast
   rfl
  have ev:∀ v:Nat,(v:Int)+(v:Int) * (zaX (2 ^ n)+1)=((2 ^ 2 ^ n * v+v:Nat):Int):=fun v=>by
   rw [zer,yb2]
   push_cast
   omega
  refine ⟨fun v hv=>?_,by show ((zdl n).map _).length+1=n+1;rw [yB,h2],fun j hj=>?_⟩
  ·rw [hR]
   rcases yY.mp (show v∈_::_ from hv) with rfl | hv
   ·rw [eh]
    exact zdj (zhS (by omega) pos)
   ·obtain ⟨u,hu,rfl⟩:=qE.mp hv
    obtain ⟨k,rfl,hk⟩:=zbo (h1 u hu)
    rw [ev k]
    exact zdj (zhS hk hk)
  ·rw [hR] at hj
   have bits:∀ i,bitI j (zaX (2 ^ n) * (zaX (2 ^ n)+1))=(if j < 2 ^ n then 0 else 1)∧∀ u∈zdl n,(i=if j < 2 ^ n then j else j - 2 ^ n)→bitI j (u+u * (zaX (2 ^ n)+1))=bitI i u:=fun i=>by
    constructor
    ·rw [eh,za9,zfP pos]
     by_cases h:j < 2 ^ n
     ·rw [if_pos h,if_pos h,yca]
      rfl
     ·rw [if_neg h,if_neg h,yaB,decide_eq_true (by omega)]
      rfl
    ·intro u hu hi
     obtain ⟨k,rfl,hk⟩:=zbo (h1 u hu)
     rw [ev k,za9,zfP hk,za9,hi]
     by_cases h:j < 2 ^ n
     ·rw [if_pos h,if_pos h]
     ·rw [if_neg h,if_neg h]
   show ((zaT n).map (0:: ·)++(zaT n).map (1:: ·))[j]? =some ((_::(zdl n).map _).map (bitI j))
   have ln:=zaS n
   rw [qJ,kR]
   by_cases h:j < 2 ^ n
   ·rw [jG (by rw [yB,ln];exact h),yJ,h3 j h,(bits j).1,if_pos h]
    refine congrArg some (congrArg (List.cons 0) (xM fun u hu=>?_))
    exact ((bits j).2 u hu (by rw [if_pos h])).symm
   ·rw [jJ (by rw [yB,ln];omega),yB,ln,yJ,h3 (j - 2 ^ n) (by omega),(bits j).1,if_neg h]
    refine congrArg some (congrArg (List.cons 1) (xM fun u hu=>?_))
    exact ((bits (j - 2 ^ n)).2 u hu (by rw [if_neg h])).symm
noncomputable def zcH (xs ys:List Int):Int:=(xs.zip ys).foldl (fun u p=>qY u (qO p.1 p.2)) 0
theorem zei {R:Nat}:∀ (xs ys:List Int) {a:Int},xs.length=ys.length→(∀ v∈xs,za3 R v)→(∀ v∈ys,za3 R v)→za3 R a→
  za3 R ((xs.zip ys).foldl (fun u p=>qY u (qO p.1 p.2)) a)∧∀ j,bitI j ((xs.zip ys).foldl (fun u p=>qY u (qO p.1 p.2)) a)=1↔bitI j a=1∨xs.map (bitI j)≠ys.map (bitI j)
 | [],[],a,_,_,_,ha=>⟨ha,fun j=>by show bitI j a=1↔_;simp⟩
 | x::xs,y::ys,a,hl,hx,hy,ha=>by
  obtain ⟨x1,x2⟩:=zem (hx x (.head _)) (hy y (.head _))
  obtain ⟨o1,o2⟩:=zg6 ha x1
  obtain ⟨h1,h2⟩:=zei xs ys (a:=qY a (qO x y)) (ybq hl) (fun v hv=>hx v (.tail _ hv)) (fun v hv=>hy v (.tail _ hv)) o1
  refine ⟨h1,fun j=>?_⟩
  rw [List.zip_cons_cons,kQ]
  refine (h2 j).trans ?_
  rw [o2 j,x2 j,qJ,qJ]
  have ba:=zft j a
  have bx:=zft j x
  have by':=zft j y
  generalize bitI j a=p at *
  generalize bitI j x=q at *
  generalize bitI j y=r at *
  have hc:((q::xs.map (bitI j))≠(r::ys.map (bitI j)))↔(q≠r∨xs.map (bitI j)≠ys.map (bitI j)):=by
   constructor
   ·intro z
    by_cases e:q=r
    ·exact .inr fun z2=>z (by rw [e,z2])
    ·exact .inl e
   ·rintro (z | z) e
    ·injection e with e1 _
     exact z e1
    ·injection e with _ e2
     exact z e2
  rw [hc]
  have key:(qY p (qO q r)=1)↔(p=1∨q≠r):=by
   rcases ba with rfl | rfl <;> rcases bx with rfl | rfl <;> rcases by' with rfl | rfl <;> decide
  rw [key,or_assoc]
end My
namespace L2
open PySem PySem.Spec PyProof.Rows
noncomputable def Itz (a b:Addr):It:=
 ⟨fun i H => ∃ xs ys x y, H a = some (.lst xs) ∧ H b = some (.lst ys) ∧ xs[i]? = some x ∧ ys[i]? = some y,
  fun i H v H'=>∃ T x y,H T=none∧v= .ref T∧H'=upd H T (.tup [x,y])∧∀ xs ys,H a=some (.lst xs)→H b=some (.lst ys)→xs[i]? =some x∧ys[i]? =some y,
  fun i H=>∃ xs ys,H a=some (.lst xs)∧H b=some (.lst ys)∧(xs.length≤i∨ys.length≤i)⟩
theorem far {n:Nat}(i j:Nat)(h:i≠j):(n+i:Nat)≠n+j:=by omega
theorem Inv.turnedC {X:Cx}{pins:List (Addr×Obj)}{σ :St}{H:Hp}{s:Shared}{h':Heap}{t':Nat}{ch:List Addr}(I:Inv X pins σ H s)
  (hch:∀ b∈ch,FpOk X pins H b) (k:∀ b u,b∉ch→s.heap.get? b=some u→h'.get? b=some u):Inv X pins σ H {s with heap:=h',toks:=t'}:=by
 have nch:∀ c u,H c=some u→c∉ch:=fun c u e z=>by rw [(hch c z).1] at e;cases e
 refine I.step (g':=s.gens) (d':=s.drawn) (ch:=ch) (fun b hb=>⟨(hch b hb).2.2.2.1,(hch b hb).2.1,(hch b hb).2.2.2.2.1,(hch b hb).2.2.2.2.2⟩)
  (fun b u _ _ hc e _=>k b u hc e) (fun b u _ _ hc e _=>⟨u.slots,k b u hc e⟩) (fun _ _ _ _ q=>q) (fun b u hc e=>⟨u,k b u hc e⟩)
  (fun _ _ q=>q) (fun _ _ _ q=>q) (fun b ps q=>⟨#[],by rw [q];simp⟩) (fun m hm=>?_) (fun b u e=>?_) I.bare
 ·exact hm.at' fun ob e=>k _ ob (fun z=>(hch _ z).2.1 rfl) e
 ·refine (I.hok b u e).stay (fun c v hc q=>k c v ?_ q) (fun c q=>q) fun c xs q=>q
  rcases hc with rfl | hc
  ·exact nch _ _ e
  ·exact nch _ _ hc
theorem zi4 {n:Nat}{l1 l2:Addr}(a1:l1≠n+4)(a2:l1≠n+3)(a3:l1≠n)(a4:l1≠n+1)(b1:l2≠n+4)(b2:l2≠n+3)(b3:l2≠n)(b4:l2≠n+1):ZipApart (n+4) (n+2) (n+3) n (n+1) l1 l2:=
 ⟨far 2 4 (by decide),far 3 4 (by decide),far 0 4 (by decide),far 1 4 (by decide),far 2 3 (by decide),far 2 0 (by decide),far 2 1 (by decide),far 3 0 (by decide),far 3 1 (by decide),far 0 1 (by decide),a1,a2,a3,a4,b1,b2,b3,b4⟩
theorem zmB {P:Program}{w:World}{K:PySem.W.Frag}{elts:List Expr}{k:Nat}{tp:Pos}(a b:Addr)(n:Nat):
  Turn P w K (.Tuple elts k tp) (Itz a b) [n+4,n+2,n+3,n,n+1] (n+4)
   (fun i h=>IsZip h (n+4) (n+2) (n+3) .none∧IsPair h (n+2) (.ref n) (.ref (n+1))∧(∃ u v,IsPair h (n+3) u v)∧h.IsListIter n a i∧h.IsListIter (n+1) b i) where
 mem:=by simp
 obj:=fun i h st c hc=>by
  obtain ⟨hz,hI,⟨u,v,hO⟩,⟨o1,e1,_,d1⟩,⟨o2,e2,_,d2⟩⟩:=st
  simp only [yY,jU,or_false] at hc
  rcases hc with rfl | rfl | rfl | rfl | rfl
  ·exact ⟨_,hz,fun v z=>nomatch z⟩
  ·exact ⟨_,hI,fun v z=>nomatch z⟩
  ·exact ⟨_,hO,fun v z=>nomatch z⟩
  ·exact ⟨o1,e1,fun v z=>by rw [d1] at z;cases z⟩
  ·exact ⟨o2,e2,fun v z=>by rw [d2] at z;cases z⟩
 keep:=fun i h h' st kp=>by
  obtain ⟨hz,hI,⟨u,v,hO⟩,h1,h2⟩:=st
  exact ⟨kp _ (by simp) _ hz,kp _ (by simp) _ hI,⟨u,v,kp _ (by simp) _ hO⟩,h1.at fun o q=>kp _ (by simp) o q,h2.at fun o q=>kp _ (by simp) o q⟩
 item:=by
  intro X hP hw hK hc i pins s σ H E I hf st hg
  subst hP hw hK
  obtain ⟨hz,hI,⟨u,v,hO⟩,h1,h2⟩:=st
  obtain ⟨xs,ys,x,y,ha,hb,hx,hy⟩:=hg
  obtain ⟨its,rv,p1,_⟩:=I.list (.of ha)
  obtain ⟨its2,rv2,p2,_⟩:=I.list (.of hb)
  obtain ⟨u1,hu1,ru1⟩:=rv.get hx
  obtain ⟨u2,hu2,ru2⟩:=rv2.get hy
  have no:∀ {l:Addr} {o:HO},H l=some o→∀ c∈[n+4,n+2,n+3,n,n+1],l≠c:=fun e c hc z=>by
   rw [z,(hf c hc).1] at e
   cases e
  have D:ZipApart (n+4) (n+2) (n+3) n (n+1) a b:=zi4 (no ha (n+4) (by simp)) (no ha (n+3) (by simp)) (no ha n (by simp)) (no ha (n+1) (by simp)) (no hb (n+4) (by simp)) (no hb (n+3) (by simp)) (no hb n (by simp)) (no hb (n+1) (by simp))
  refine wpAny_pyNext_zip_item D hz hI hO h1 h2 p1.isList p2.isList (x:=u1) (y:=u2) (by simpa using hu1) (by simpa using hu2) fun h' z1 z2 z3 z4 z5 z6 hk=>?_
  have new:∀ {c:Addr} {o:Obj},s.heap.get? c=some o→c≠s.heap.objs.size:=fun e=>qA (yS e)
  have I1:Inv X pins σ (upd H s.heap.objs.size (.tup [x,y])) {s with heap:=h'}:=
   I.laidC (t':=s.toks) (ch:=[n+4,n+2,n+3,n,n+1]) hf (fun c o hc q=>hk c o (fun z=>hc (by simp [z])) (fun z=>hc (by simp [z])) (fun z=>hc (by simp [z])) (fun z=>hc (by simp [z])) q) (yL _)
    ⟨(by show 2≤yK;decide),[u1,u2],.cons ru1 (.cons ru2 .nil),_,z5,rfl,_,rfl⟩
  refine ⟨_,rfl,wpAny_letOwnedTupleGo_zip z1 fun h2' w1 sb=>?_⟩
  have fz:=hf (n+4) (by simp)
  have I2:Inv X pins σ (upd H s.heap.objs.size (.tup [x,y])) {s with heap:=h2'}:=
   I1.turned (t':=s.toks) (fun c o hc q=>(sb.2 c hc).trans q) (by rw [zah (new hz)];exact fz.1) fz.2.1 fz.2.2.2.1 fz.2.2.2.2.1 fz.2.2.2.2.2
  refine ⟨.ref s.heap.objs.size,_,I2,rfl,⟨_,x,y,I.hok.fresh (yL _),rfl,rfl,fun xs' ys' hxs hys=>?_⟩,⟨w1,?_,⟨u1,u2,?_⟩,?_,?_⟩,fun c hc=>?_⟩
  ·rw [ha] at hxs
   rw [hb] at hys
   cases hxs
   cases hys
   exact ⟨hx,hy⟩
  ·exact sb.extBut _ _ (far 2 4 (by decide)) (hk _ _ (far 2 4 (by decide)) (far 2 3 (by decide)) (far 2 0 (by decide)) (far 2 1 (by decide)) hI)
  ·exact sb.extBut _ _ (far 3 4 (by decide)) z2
  ·exact z3.extBut sb.extBut (far 0 4 (by decide))
  ·exact z4.extBut sb.extBut (far 1 4 (by decide))
  ·have hn:c≠s.heap.objs.size:=by
    simp only [yY,jU,or_false] at hc
    rcases hc with rfl | rfl | rfl | rfl | rfl
    ·exact new hz
    ·exact new hI
    ·exact new hO
    ·obtain ⟨o,e,_⟩:=h1;exact new e
    ·obtain ⟨o,e,_⟩:=h2;exact new e
   rw [zah hn]
   exact (hf c hc).1
 done:=by
  intro X hP hw hK hc i pins s σ H E I hf st hg
  subst hP hw hK
  obtain ⟨hz,hI,⟨u,v,hO⟩,h1,h2⟩:=st
  obtain ⟨xs,ys,ha,hb,hx⟩:=hg
  obtain ⟨its,rv,p1,_⟩:=I.list (.of ha)
  obtain ⟨its2,rv2,p2,_⟩:=I.list (.of hb)
  have no:∀ {l:Addr} {o:HO},H l=some o→∀ c∈[n+4,n+2,n+3,n,n+1],l≠c:=fun e c hc z=>by
   rw [z,(hf c hc).1] at e
   cases e
  have D:ZipApart (n+4) (n+2) (n+3) n (n+1) a b:=zi4 (no ha (n+4) (by simp)) (no ha (n+3) (by simp)) (no ha n (by simp)) (no ha (n+1) (by simp)) (no hb (n+4) (by simp)) (no hb (n+3) (by simp)) (no hb n (by simp)) (no hb (n+1) (by simp))
  have l1:=rv.length
  have l2:=rv2.length
  refine wpAny_pyNext_zip_end (I.ok.hd hc) D hz hI hO h1 h2 p1.isList p2.isList (hx.elim (fun q=>.inl (by simp;omega)) fun q=>.inr (by simp;omega)) fun h' hk=>⟨rfl,?_⟩
  exact I.turnedC (t':=s.toks) (ch:=[n+4,n+2,n+3,n,n+1]) hf fun c o hc q=>hk c o (fun z=>hc (by simp [z])) (fun z=>hc (by simp [z])) (fun z=>hc (by simp [z])) (fun z=>hc (by simp [z])) q
 self:=fun _ _ _ _ _ st h=>wpAny_pyIter_zip st.1 h
noncomputable def iZip (ta:TA):TI:=fun σ H R=>ta σ H fun vs H1=>∃ a b xs ys,vs= [.ref a,.ref b]∧H1 a=some (.lst xs)∧H1 b=some (.lst ys)∧R (Itz a b) H1
theorem pi_zip {X:Cx}{e1 e2:Expr}{ta:TA}{p pos tp:Pos}{elts:List Expr}{k:Nat}(hg:Gl X "zip")(hm:X.mg "zip" =none)(ha:PA X [e1,e2] ta)
  (hs:starEach [e1,e2] X.env= [(false,eval e1 X.env),(false,eval e2 X.env)]:=by rfl) (hs2:starEach [e2] X.env= [(false,eval e2 X.env)]:=by rfl):PI X (.Tuple elts k tp) (.Call (.Name "zip" p) [e1,e2] [] pos) (iZip ta):=by
 intro pins s σ H R I h
 refine Call_ (zec I hg hm boot_zip (jZ (thn (ha pos pins s σ H _ I h) fun us s1 ⟨vs,H1,I1,r1,q1⟩=>?_) (by rw [hs,hs2]) (by rw [hs2];rfl)))
 obtain ⟨a,b,xs,ys,e,ha',hb',q⟩:=q1
 subst e
 cases r1 with
 | cons r rr=>
  cases rr with
  | cons r' rr=>
   cases rr
   cases r
   cases r'
   obtain ⟨its,rv,p1,_⟩:=I1.list (.of ha')
   obtain ⟨its2,rv2,p2,_⟩:=I1.list (.of hb')
   refine call_zip_2 p1.isList p2.isList fun h' z1 z2 z3 z4 z5 z6 hk=>wpAny_pyIter_zip z1 ?_
   refine ⟨s1.heap.objs.size+4,[s1.heap.objs.size+4,s1.heap.objs.size+2,s1.heap.objs.size+3,s1.heap.objs.size,s1.heap.objs.size+1],_,_,H1,rfl,I1.kept (t':=s1.toks) hk,zmB a b s1.heap.objs.size,⟨z1,z2,⟨_,_,z3⟩,z4,z5⟩,fun c hc=>?_,q⟩
   have le:s1.heap.objs.size≤c:=by
    simp only [yY,jU,or_false] at hc
    rcases hc with rfl | rfl | rfl | rfl | rfl
    ·exact xT _ _
    ·exact xT _ _
    ·exact xT _ _
    ·exact yL _
    ·exact xT _ _
   exact I1.fpOk le (I1.hok.fresh le)
theorem ziD {a b:Addr}{xs ys:List V}{g:TG}{tb:TS}{D:Ends}{σ :St}{H:Hp}(hlen:xs.length=ys.length)(Pv:Nat→St→Hp→Prop)(h0:Pv 0 σ H)
  (hl:∀ i σ H,i≤xs.length→Pv i σ H→H a=some (.lst xs)∧H b=some (.lst ys))
  (hs:∀ i x y σ H T,xs[i]? =some x→ys[i]? =some y→Pv i σ H→H T=none→g (.ref T) σ (upd H T (.tup [x,y])) fun σ2 H2=>tb {D with nx:=Pv (i+1),ct:=Pv (i+1),bk:=D.nx} σ2 H2)
  (hd:∀ σ H,Pv xs.length σ H→D.nx σ H):
  ∃ W:Nat→Nat→St→Hp→Prop,(∃ m,W 0 m σ H)∧∀ i m σ H,W i m σ H→
   ((Itz a b).stop i H ∧ D.nx σ H) ∨ ((Itz a b).go i H ∧ ∃ N : St → Hp → Prop, (∀ σ' H', N σ' H' → ∃ m', m' < m ∧ W (i + 1) m' σ' H') ∧
     ∀ x H',(Itz a b).yld i H x H'→g x σ H' fun σ2 H2=>tb {D with nx:=N,ct:=N,bk:=D.nx} σ2 H2):=by
 refine ⟨fun i m σ H=>m=xs.length - i∧i≤xs.length∧Pv i σ H,⟨xs.length,by simp,qM _,h0⟩,?_⟩
 rintro i m σ H ⟨rfl,hi,p⟩
 obtain ⟨qa,qb⟩:=hl i σ H hi p
 by_cases hlt:i < xs.length
 ·refine .inr ⟨⟨xs,ys,xs[i],ys[i],qa,qb,by simp [hlt],yF _⟩,Pv (i+1),fun σ' H' p'=>⟨xs.length - (i+1),by omega,rfl,hlt,p'⟩,fun x H' y=>?_⟩
  obtain ⟨T,u,v,hT,e1,e2,y⟩:=y
  subst e1 e2
  obtain ⟨y1,y2⟩:=y xs ys qa qb
  exact hs i u v σ H T y1 y2 p hT
 ·have e:i=xs.length:=by omega
  subst e
  exact .inl ⟨⟨xs,ys,qa,qb,.inl (yL _)⟩,hd σ H p⟩
theorem zim {X:Cx}{e1 e2:Expr}{ta:TA}{p pos tp:Pos}{elts:List Expr}{k:Nat}(hg:Gl X "zip")(hm:X.mg "zip" =none)(ha:Bx (PA X [e1,e2] ta))
  (hs:starEach [e1,e2] X.env= [(false,eval e1 X.env),(false,eval e2 X.env)]:=by rfl) (hs2:starEach [e2] X.env= [(false,eval e2 X.env)]:=by rfl):Bx (PI X (.Tuple elts k tp) (.Call (.Name "zip" p) [e1,e2] [] pos) (iZip ta)):=⟨pi_zip hg hm ha.1 hs hs2⟩
theorem zlj {X:Cx}:MtR X "int.bit_length" (fun x xs H Q=>∃ i:Int,x= .int i∧xs= []∧Q (.int ((qK i:Nat):Int)) H):=by
 intro pins s σ H x xs v us Q I rx rs h
 obtain ⟨i,rfl,rfl,q⟩:=h
 obtain ⟨t,rfl⟩:=rx
 cases rs
 exact call_int_bit_length ⟨.int _,H,I.kept (t':=s.toks+1) fun _ _ e=>e,⟨_,rfl⟩,q⟩
theorem zow (n:Nat):n < 2 ^ qK (n:Int):=by
 unfold qK
 by_cases h:n=0
 ·subst h
  decide
 ·have:((n:Int)==0)=false:=by simpa using h
  rw [this]
  show n < 2 ^ ((n:Int).natAbs.log2+1)
  rw [Int.natAbs_natCast]
  exact Nat.lt_log2_self
noncomputable def EntD (h:Heap) (d:Addr) (es:Array DictEntry) (ep:Nat):Prop:=∃ ob,h.get? d=some ob∧ob.ExactDict∧ob.data= .dict es ep
section
variable {prog:Program} {w:World} {A:Around} {E:Value→Shared→Prop} {s:Shared}
theorem zjE {d:Addr}{es:Array DictEntry}{ep:Nat}{Q:Value→Shared→Prop}(nd:(d==sysModules)=false)(hE:EntD s.heap d es ep)
  (q:Q (.ref s.heap.objs.size) {s with heap:=s.heap.push {cls:=.type "dict_items",data:=.fields #[.ref d]}}):wpAny (model prog w) A (call (.builtin "dict.items") [.ref d]) Q E s:=by
 obtain ⟨ob,e1,⟨e2,_,_⟩,e3⟩:=hE
 have ty:s.TypeIs (.ref d) "dict" :=⟨ob,e1,e2⟩
 refine wpAny_call_entry ya3 ty PySem.F.entry_dict_items ?_ (PySem.F.args_dict_items_1 _)
 unfold Builtin.«dict.items» yaC
 refine yA (yA (wpAny_notOrdered_dict ty ?_))
 show wpAny _ _ (pure d) _ _ s
 refine yC (?_:wpAny _ _ (xR d >>=_) _ _ s)
 unfold xR
 rw [nd]
 exact yA (yC (yA (wpAny_newObj_type (yC ⟨_,rfl,q⟩))))
theorem zjN {v d:Addr}{es:Array DictEntry}{ep:Nat}{Q:Value→Shared→Prop}(hv:s.heap.IsItemsView v d)(hE:EntD s.heap d es ep)
  (q:Q (.ref s.heap.objs.size) {s with heap:=s.heap.push {cls:=.type "dict_itemiterator",data:=.fields #[.none,.bool false,.ref d,.int 0 0,.int es.size 0,.int ep 0,.none,.none]}}):
  wpAny (model prog w) A (pyIter (.ref v)) Q E s:=by
 obtain ⟨vo,v1,v2,v3⟩:=id hv
 obtain ⟨ob,e1,_,e3⟩:=hE
 refine wpAny_pyIter_slot hv.typeIs yax (wpAny_call_entry yax hv.typeIs PySem.F.entry_dict_items_iter ?_ (PySem.F.args_dict_items_iter_1 _))
 unfold Builtin.«dict_items.__iter__»
 refine yA (yC (yA ?_))
 unfold yaQ
 refine yA (wpAny_field v1 v3 (x:=.ref d) rfl (yC (yA ?_)))
 unfold yan
 refine yA (wpAny_dictEntries e1 e3 (yA (wpAny_dictEpoch e1 e3 ?_)))
 simp only [show jF "dict_itemiterator" =true by decide,if_true]
 refine wpAny_newObj_type (yC ⟨_,rfl,"dict_itemiterator",_,⟨_,yO _ rfl,rfl⟩,jR.lookup,?_⟩)
  (by simp only [sizeOk,wJ,yP,yI,jE,vD,sizeLine_eq];omega)
 simpa [rawInt,wJ] using q
theorem zjR {it d:Addr}{i ep:Nat}{es:Array DictEntry}{en:DictEntry}{a b:Value}{Q:Option Value→Shared→Prop}(hJ:IsItemIter s.heap it d i es.size ep a b)(hE:EntD s.heap d es ep)(hx:es[i]? =some en)
  (q:∀ h',IsItemIterOut h' it d (i+1) es.size ep en.key en.val s.heap.objs.size→h'.get? s.heap.objs.size=some {cls:=.type "tuple",data:=.seq #[en.key,en.val]}→
   (∀ c o,c≠it→s.heap.get? c=some o→h'.get? c=some o)→Q (some (.ref s.heap.objs.size)) {s with heap:=h'}):wpAny (model prog w) A (pyNext (.ref it)) Q E s:=by
 obtain ⟨hp,gg,dr,tk,os⟩:=s
 obtain ⟨ob,e1,_,e3⟩:=hE
 have ty:ya4 ⟨hp,gg,dr,tk,os⟩ (.ref it) "dict_itemiterator" :=⟨_,hJ,rfl⟩
 have li:i < es.size:=(yaJ.mp hx).1
 have ei:es[i]=en:=(yaJ.mp hx).2
 unfold pyNext
 refine yA (wpAny_attempt (wpAny_callSpecial?_slot (name:=xQ "__next__") ty jR
  (wpAny_call_entry jR ty wD ?_ (wA _))))
 refine yA (yC (yA (yA ?_)))
 first | refine yA (wpAny_typeNameOfWhole_itemiter ty (yC ?_)) | refine yA (wpAny_typeNameOf_itemiter ty (yC ?_))
 refine yA (wpAny_fieldsOf hJ rfl ?_)
 simp only [show jF "dict_itemiterator" =true by decide,if_true]
 show wpAny _ _ (if (Value.ref d==Value.none)=true then _ else _) _ _ _
 rw [show (Value.ref d==Value.none)=false from rfl,if_neg yQ]
 refine yA (yC (yA (wpAny_dictEntries e1 e3 ?_)))
 rw [if_neg (by simp)]
 refine yA (yC (yA (wpAny_dictEpoch e1 e3 ?_)))
 rw [if_neg (by simp)]
 refine yC ?_
 simp only [show ¬(i:Int) < 0 from by omega,if_false,jM,hx]
 refine yA ?_
 first | refine yA (wpAny_typeNameOfWhole_itemiter ty (yC ?_)) | refine yA (wpAny_typeNameOf_itemiter ty (yC ?_))
 refine yA (wpAny_isOneOf_itemiter ty ?_)
 show wpAny _ _ (setField (.ref it) 3 (rawInt ((i:Int)+1)) >>=_) _ _ ⟨hp,gg,dr,tk,os⟩
 refine yA (wpAny_setField_rec hJ (by simp) fun k1 j1 t1=>?_)
 have t1':qX it hp k1:=t1
 have j1':IsItemIter k1 it d (i+1) es.size ep a b:=by
  unfold IsItemIter
  rw [show ((i+1:Nat):Int)=(i:Int)+1 by omega]
  simpa [rawInt] using j1
 have ty1:ya4 ⟨k1,gg,dr,tk,os⟩ (.ref it) "dict_itemiterator" :=⟨_,j1',rfl⟩
 refine yA (wpAny_holding (yA (wpAny_isOneOf_itemiter ty1 (yA (wpAny_isOneOf_itemiter ty1 ?_)))))
 show wpAny _ _ (wX (.ref it) 6 en.key en.val) _ _ ⟨k1,gg,dr,tk,os⟩
 unfold wX
 refine yA (wpAny_newTuple ?_)
 have size1:k1.objs.size=hp.objs.size:=t1'.1
 have lit:it < hp.objs.size:=yS hJ
 obtain ⟨k2,ek2⟩:∃ k2,k1.push {cls:=.type "tuple",data:=.seq #[en.key,en.val]}=k2:=⟨_,rfl⟩
 have j2:IsItemIter k2 it d (i+1) es.size ep a b:=by rw [← ek2];exact yD _ j1'
 have p2:k2.get? hp.objs.size=some {cls:=.type "tuple",data:=.seq #[en.key,en.val]}:=by rw [← ek2,← size1];exact yO _ rfl
 have m2:∀ c o,c≠it→hp.get? c=some o→k2.get? c=some o:=fun c o hc e=>by rw [← ek2];exact yD _ (t1'.extBut c o hc e)
 show wpAny _ _ (wK (.ref it) >>=_) _ _ ⟨k1.push {cls:=.type "tuple",data:=.seq #[en.key,en.val]},gg,dr,tk,os⟩
 rw [ek2,size1]
 refine yA ?_
 unfold wK
 refine yA (wpAny_field j2 rfl (x:=.none) rfl (yC ?_))
 simp only [if_true]
 refine yA (wpAny_field j2 rfl (x:=a) rfl (yA (wpAny_field j2 rfl (x:=b) rfl ?_)))
 refine yA (wpAny_setField_rec j2 (by simp) fun k3 j3 t3=>?_)
 have j3':IsItemIter k3 it d (i+1) es.size ep en.key b:=j3
 refine yA (wpAny_setField_rec j3' (by simp) fun k4 j4 t4=>?_)
 have j4':IsItemIter k4 it d (i+1) es.size ep en.key en.val:=j4
 refine yA (wpAny_setField_rec j4' (by simp) fun k5 j5 t5=>?_)
 have j5':IsItemIterOut k5 it d (i+1) es.size ep en.key en.val hp.objs.size:=j5
 refine yA (wpAny_setField_rec j5' (by simp) fun k6 j6 t6=>?_)
 have j6':IsItemIterOut k6 it d (i+1) es.size ep en.key en.val hp.objs.size:=j6
 have all:∀ c o,c≠it→k2.get? c=some o→k6.get? c=some o:=fun c o hc e=>
  wL (show qX it k5 k6 from t6) c o hc (wL (show qX it k4 k5 from t5) c o hc (wL (show qX it k3 k4 from t4) c o hc (wL (show qX it k2 k3 from t3) c o hc e)))
 exact yA (wpAny_letGo (yC (yC ⟨_,rfl,yC (q k6 j6' (all _ _ (yaK lit) p2) fun c o hc e=>all c o hc (m2 c o hc e))⟩)))
theorem zkR {it d:Addr}{i ep:Nat}{es:Array DictEntry}{a b:Value}{Q:Option Value→Shared→Prop}(hh:A.handled=none)(hJ:IsItemIter s.heap it d i es.size ep a b)(hE:EntD s.heap d es ep)(hx:es.size≤i)
  (q:∀ h',ya5 it s.heap h'→Q none {s with heap:=h'}):wpAny (model prog w) A (pyNext (.ref it)) Q E s:=by
 obtain ⟨ob,e1,_,e3⟩:=hE
 have ty:s.TypeIs (.ref it) "dict_itemiterator" :=⟨_,hJ,rfl⟩
 unfold pyNext
 refine yA (wpAny_attempt (wpAny_callSpecial?_slot (name:=xQ "__next__") ty jR
  (wpAny_call_entry jR ty wD ?_ (wA _))))
 refine yA (yC (yA (yA ?_)))
 first | refine yA (wpAny_typeNameOfWhole_itemiter ty (yC ?_)) | refine yA (wpAny_typeNameOf_itemiter ty (yC ?_))
 refine yA (wpAny_fieldsOf hJ rfl ?_)
 simp only [show jF "dict_itemiterator" =true by decide,if_true]
 show wpAny _ _ (if (Value.ref d==Value.none)=true then _ else _) _ _ s
 rw [show (Value.ref d==Value.none)=false from rfl,if_neg yQ]
 refine yA (yC (yA (wpAny_dictEntries e1 e3 ?_)))
 rw [if_neg (by simp)]
 refine yA (yC (yA (wpAny_dictEpoch e1 e3 ?_)))
 rw [if_neg (by simp)]
 refine yC ?_
 simp only [show ¬(i:Int) < 0 from by omega,if_false,jM,yac hx]
 refine yA ?_
 first | refine yA (wpAny_typeNameOfWhole_itemiter ty (yC ?_)) | refine yA (wpAny_typeNameOf_itemiter ty (yC ?_))
 show wpAny _ _ (setField (.ref it) 2 .none >>=_) _ _ s
 refine yA (wpAny_setField hJ rfl (by simp) ?_)
 show wpAny _ _ (newExc (.type "StopIteration") [] >>=_) _ _ _
 refine yA ?_
 simp only [newExc,newTuple]
 refine yA (wpAny_newObj_type ?_ (by size_fits))
 refine yA (m:=firstArgMember _ _) (wpAny_of_eq (a:=Value.none) (by first | rfl | (simp only [firstArgMember];rfl)) (wpAny_newObj_type ?_ (by size_fits)))
 simp only [raiseNew]
 refine yA (wpAny_handled ?_)
 rw [show A.in1.handled=none from hh]
 refine yA (yC (wpAny_throw (?_:wpAny _ _ _ _ _ _)))
 refine yA (wpAny_isInstance (b:=true) (T:="StopIteration") ⟨_,yO _ rfl,rfl⟩ isSubtype_stop ?_)
 exact yC (q _ (((jS ..).extBut.push _).push _))
end
theorem Inv.freeze {X:Cx}{pins:List (Addr×Obj)}{σ :St}{H:Hp}{s:Shared}{d:Addr}{kvs:List (List Key×V)}{ob:Obj}(I:Inv X pins σ H s)(hd:H d=some (.dT kvs))(ho:s.heap.get? d=some ob):
  Inv X pins σ (upd H d (.frz ob (.dT kvs))) s:=by
 have nT:∀ {b:Addr} {u:HO},H b=some u→u≠.dT kvs→b≠d:=fun e n z=>by
  rw [z,hd] at e
  exact n (qF e).symm
 refine I.step (h':=s.heap) (g':=s.gens) (d':=s.drawn) (t':=s.toks) (ch:=[]) (fun b hb=>(jU hb).elim) (fun b u _ _ _ e _=>e) (fun b u _ _ _ e _=>⟨u.slots,e⟩)
  (fun b u _ _ n=>by rw [zah (fun z=>by rw [z,hd] at n;cases n)];exact n) (fun b u _ e=>⟨u,e⟩)
  (fun b xs q=>by rw [zah (nT q (fun z=>by cases z))];exact q) (fun b u xs q=>by rw [zah (nT q (fun z=>by cases z))];exact q)
  (fun b ps q=>⟨#[],by rw [zah (nT q (fun z=>by cases z)),q];simp⟩) (fun m hm=>hm) (fun b u e=>?_) I.bare
 have go:∀ u',zbh X.prog X.w H s.heap b u'→zbh X.prog X.w (upd H d (.frz ob (.dT kvs))) s.heap b u':=fun u' h=>
  h.stay (fun c v _ q=>q) (fun c q=>by rw [zah (nT q (fun z=>by cases z))];exact q) fun c xs q=>q.keep fun u eu hu=>by rw [zah (nT eu (fun z=>by obtain ⟨ys,hu | ⟨_,hu⟩⟩:=hu <;> (rw [hu] at z;cases z)))];exact eu
 by_cases hb:b=d
 ·subst hb
  rw [zab] at e
  cases e
  exact ⟨ho,go _ (I.hok b _ hd)⟩
 ·rw [zah hb] at e
  exact go u (I.hok b u e)
noncomputable def Iti (d:Addr) (ob:Obj):It:=
 ⟨fun i H => ∃ kvs p, H d = some (.frz ob (.dT kvs)) ∧ kvs[i]? = some p,
  fun i H v H'=>∃ T b k x,H T=none∧v= .ref T∧H'=upd H T (.tup [.ref b,x])∧RdT H b (k.map kV)∧∀ kvs,H d=some (.frz ob (.dT kvs))→kvs[i]? =some (k,x),
  fun i H=>∃ kvs,H d=some (.frz ob (.dT kvs))∧kvs.length≤i⟩
theorem zaI {α β :Type}{r: α→β→Prop}:∀ {xs:List α} {ys:List β} {i:Nat} {x: α},Paired r xs ys→xs[i]? =some x→∃ y,ys[i]? =some y∧r x y
 | _,_,0,_,.cons h _,e=>by cases e;exact ⟨_,rfl,h⟩
 | _,_,i+1,_,.cons _ t,e=>zaI (i:=i) t e
theorem ze6 {X:Cx}{pins:List (Addr×Obj)}{σ :St}{H:Hp}{s:Shared}{d:Addr}{ob:Obj}{kvs:List (List Key×V)}{es:Array DictEntry}{ep:Nat}(I:Inv X pins σ H s)(hd:H d=some (.frz ob (.dT kvs)))(hx:ob.ExactDict)(he:ob.data= .dict es ep):
  EntD s.heap d es ep∧es.size=kvs.length∧∀ (i:Nat) p,kvs[i]? =some p→∃ (en:DictEntry) (b:Addr),es[i]? =some en∧en.key= .ref b∧RdT H b (p.1.map kV)∧RelV p.2 en.val:=by
 obtain ⟨h1,_,_,xs,pr,o,es',ep',e1,_,e3,e4,_⟩:=(show zbh X.prog X.w H s.heap d (.frz ob (.dT kvs)) from I.hok d _ hd)
 rw [h1] at e1
 cases e1
 rw [he] at e3
 cases e3
 have ls:es.size=xs.length:=by
  have:=congrArg wI e4
  simpa using this
 refine ⟨⟨ob,h1,hx,he⟩,by rw [ls];exact (yX pr).symm,fun i p hp=>?_⟩
 obtain ⟨y,hy,r1,r2,r3⟩:=zaI pr hp
 have hz:es.toList[i]? =some (entryOfKey (tupleKind (zaG X.prog X.w)) y):=by rw [e4,yJ,hy];rfl
 exact ⟨_,y.2.1,by simpa using hz,rfl,r2,r3⟩
theorem zjy {P:Program}{w:World}{K:PySem.W.Frag}{elts:List Expr}{k:Nat}{tp:Pos}{ob:Obj}{es:Array DictEntry}{ep:Nat}(d it:Addr)(hx:ob.ExactDict)(he:ob.data= .dict es ep):
  Turn P w K (.Tuple elts k tp) (Iti d ob) [it] it (fun i h=>∃ u v,IsItemIter h it d i es.size ep u v) where
 mem:=by simp
 obj:=fun i h st c hc=>by
  obtain ⟨u,v,hJ⟩:=st
  rw [yG.mp hc]
  exact ⟨_,hJ,fun v z=>nomatch z⟩
 keep:=fun i h h' st kp=>by
  obtain ⟨u,v,hJ⟩:=st
  exact ⟨u,v,kp it (by simp) _ hJ⟩
 item:=by
  intro X hP hw hK hc i pins s σ H E I hf st hg
  subst hP hw hK
  obtain ⟨u,v,hJ⟩:=st
  obtain ⟨kvs,p,hd,hp⟩:=hg
  obtain ⟨hE,hz,each⟩:=ze6 I hd hx he
  obtain ⟨en,b,h1,h2,h3,h4⟩:=each i p hp
  have fi:=hf it (by simp)
  have iT:it≠s.heap.objs.size:=qA (yS hJ)
  refine zjR hJ hE h1 fun h' z1 z2 hk=>?_
  have I1:Inv X pins σ (upd H s.heap.objs.size (.tup [.ref b,p.2])) {s with heap:=h'}:=
   I.laidC (t':=s.toks) (ch:=[it]) hf (fun c o hc q=>hk c o (fun z=>hc (by simp [z])) q) (yL _)
    ⟨(by show 2≤yK;decide),[en.key,en.val],.cons h2 (.cons h4 .nil),_,z2,rfl,_,rfl⟩
  refine ⟨_,rfl,wpAny_letOwnedTupleGo_items z1 fun h2' w1 sb=>?_⟩
  have I2:Inv X pins σ (upd H s.heap.objs.size (.tup [.ref b,p.2])) {s with heap:=h2'}:=
   I1.turned (t':=s.toks) (fun c o hc q=>(sb.2 c hc).trans q) (by rw [zah iT];exact fi.1) fi.2.1 fi.2.2.2.1 fi.2.2.2.2.1 fi.2.2.2.2.2
  refine ⟨.ref s.heap.objs.size,_,I2,rfl,⟨_,b,p.1,p.2,I.hok.fresh (yL _),rfl,rfl,h3,fun kvs' hd'=>?_⟩,⟨_,_,w1⟩,fun c hc=>?_⟩
  ·rw [hd] at hd'
   cases hd'
   exact hp
  ·rw [yG.mp hc,zah iT]
   exact fi.1
 done:=by
  intro X hP hw hK hc i pins s σ H E I hf st hg
  subst hP hw hK
  obtain ⟨u,v,hJ⟩:=st
  obtain ⟨kvs,hd,hp⟩:=hg
  obtain ⟨hE,hz,_⟩:=ze6 I hd hx he
  have fi:=hf it (by simp)
  exact zkR (I.ok.hd hc) hJ hE (by omega) fun h' eb=>⟨rfl,I.turned (t':=s.toks) (fun c o hc q=>eb c o hc q) fi.1 fi.2.1 fi.2.2.2.1 fi.2.2.2.2.1 fi.2.2.2.2.2⟩
 self:=fun A i s Q E st h=>by
  obtain ⟨u,v,hJ⟩:=st
  exact PySem.W.kcp_self hJ h
noncomputable def znD (td:TE):TI:=fun σ H R=>td σ H fun x H1=>∃ d kvs,x= .ref d∧H1 d=some (.dT kvs)∧∀ ob,R (Iti d ob) (upd H1 d (.frz ob (.dT kvs)))
theorem znh {X:Cx}{o:Expr}{td:TE}{apos cpos tp:Pos}{elts:List Expr}{k:Nat}(ho:PE X o td)
  (hbase:attributeBase o "items" X.env (eval o X.env)=eval o X.env:=by rfl) (hline:(apos.endLine==cpos.line)=true:=by rfl):PI X (.Tuple elts k tp) (.Call (.Attribute o "items" apos) [] [] cpos) (znD td):=by
 intro pins s σ H R I h
 refine wpAny_Call_method0_late hbase hline (thn (ho pins s σ H _ I h) fun v s1 ⟨x,H1,I1,r1,d,kvs,ex,hd,q⟩=>?_)
 subst ex
 cases r1
 obtain ⟨_,nsys,xs,pr,ob,es,ep,e1,e2,e3,e4,e5⟩:=(show zbh X.prog X.w H1 s1.heap d (.dT kvs) from I1.hok d _ hd)
 have I2:=I1.freeze hd e1
 refine ⟨"dict","dict.items",wS,ya3,PySem.F.type_dict_items,⟨ob,e1,e2.1⟩,fun a z=>by cases z;exact ⟨ob,e1,e2.2.1⟩,vG rfl (yaA ?_)⟩
 refine zjE (es:=es) (ep:=ep) nsys ⟨ob,e1,e2,e3⟩ ?_
 have hE:EntD (s1.heap.push {cls:=.type "dict_items",data:=.fields #[.ref d]}) d es ep:=⟨ob,yD _ e1,e2,e3⟩
 refine zjN (es:=es) (ep:=ep) ⟨_,yO _ rfl,rfl,rfl⟩ hE ?_
 have I3:Inv X pins σ (upd H1 d (.frz ob (.dT kvs))) {s1 with heap:=(s1.heap.push {cls:=.type "dict_items",data:=.fields #[.ref d]})}:=I2.kept (t':=s1.toks) fun b u e=>yD _ e
 refine ⟨(s1.heap.push {cls:=.type "dict_items",data:=.fields #[.ref d]}).objs.size,[(s1.heap.push {cls:=.type "dict_items",data:=.fields #[.ref d]}).objs.size],_,_,_,rfl,I3.kept (t':=s1.toks) fun b u e=>yD _ e,
  zjy d _ e2 e3,⟨_,_,yO _ rfl⟩,fun b hb=>?_,q ob⟩
 rw [yG.mp hb]
 exact I3.fpOk (yL _) (I3.hok.fresh (yL _))
theorem zh5 {X:Cx}{o:Expr}{td:TE}{apos cpos tp:Pos}{elts:List Expr}{k:Nat}(ho:Bx (PE X o td))
  (hbase:attributeBase o "items" X.env (eval o X.env)=eval o X.env:=by rfl) (hline:(apos.endLine==cpos.line)=true:=by rfl):Bx (PI X (.Tuple elts k tp) (.Call (.Attribute o "items" apos) [] [] cpos) (znD td)):=⟨znh ho.1 hbase hline⟩
section
variable {g:TG} {tt:TT} {te:TE} {n0:Nat} {cap:List Nat} {σ :St} {Q:VK} {D:Addr} {H1:Hp}
theorem zjO {d:Addr}{ob:Obj}{kvs:List (List Key×V)}(Pv:Nat→Hp→Prop)(h0:Pv 0 (upd H1 D (.lst [])))(hl:∀ i H,i≤kvs.length→Pv i H→H d=some (.frz ob (.dT kvs)))
  (hs:∀ i b p H T,kvs[i]? =some p→Pv i H→H T=none→RdT H b (p.1.map kV)→g (.ref T) (zbt n0 cap σ) (upd H T (.tup [.ref b,p.2])) fun σ2 H2=>tt σ2 H2 fun c H3=>if c=true then te σ2 H3 fun y H4=>∃ xs,H4 D=some (.lst xs)∧xs.length < yK∧Pv (i+1) (upd H4 D (.lst (xs++ [y]))) else Pv (i+1) H3)
  (hd:∀ H,Pv kvs.length H→Q (.ref D) H):zc2 (Iti d ob) D n0 cap σ g tt te Q H1:=by
 refine ⟨fun i m H=>m=kvs.length - i∧i≤kvs.length∧Pv i H,⟨kvs.length,by simp,qM _,h0⟩,?_⟩
 rintro i m H ⟨rfl,hi,p⟩
 have q:=hl i H hi p
 by_cases hlt:i < kvs.length
 ·refine .inr ⟨⟨kvs,kvs[i],q,by simp [hlt]⟩,Pv (i+1),fun H' p'=>⟨kvs.length - (i+1),by omega,rfl,hlt,p'⟩,fun x H' y=>?_⟩
  obtain ⟨T,b,k,z,hT,e1,e2,hb,y⟩:=y
  subst e1 e2
  exact hs i b (k,z) H T (y kvs q) p hT hb
 ·have e:i=kvs.length:=by omega
  subst e
  exact .inl ⟨⟨kvs,q,yL _⟩,hd H p⟩
end
theorem HOk.thaw {P:Program}{w:World}{H:Hp}{h:Heap}{d:Addr}{ob:Obj}{kvs:List (List Key×V)}(k:HOk P w H h)(hd:H d=some (.frz ob (.dT kvs))):HOk P w (upd H d (.dT kvs)) h:=by
 have nT:∀ {b:Addr} {u:HO},H b=some u→u≠.frz ob (.dT kvs)→b≠d:=fun e n z=>by
  rw [z,hd] at e
  exact n (qF e).symm
 have go:∀ (b:Addr) u',zbh P w H h b u'→zbh P w (upd H d (.dT kvs)) h b u':=fun b u' x=>
  x.stay (fun c v _ q=>q) (fun c q=>by rw [zah (nT q (fun z=>by cases z))];exact q) fun c xs q=>q.keep fun u eu hu=>by rw [zah (nT eu (fun z=>by obtain ⟨ys,hu | ⟨_,hu⟩⟩:=hu <;> (rw [hu] at z;cases z)))];exact eu
 intro b u e
 by_cases hb:b=d
 ·subst hb
  rw [zab] at e
  cases e
  exact go b _ (k b _ hd).2
 ·rw [zah hb] at e
  exact go b u (k b u e)
theorem Un.thaw {fs ex:List Addr}{H H':Hp}{h h':Heap}{d:Addr}{o u:HO}(x:Un fs ex H H' h h')(hd:H d=some o)(n1:∀ xs,o≠.tup xs)(n2:∀ a b,o≠.frz a b)(n3:∀ ps,o≠.tbl ps):Un fs ex H (upd H' d u) h h' where
 keep:=x.keep
 slot:=x.slot
 free:=fun b ob q n hx=>by
  rw [zah (fun z=>by rw [z,hd] at n;cases n)]
  exact x.free b ob q n hx
 there:=x.there
 tups:=fun b xs q=>by
  rw [zah (fun z=>by rw [z,hd] at q;exact n1 _ (qF q))]
  exact x.tups b xs q
 frzs:=fun b a c q=>by
  rw [zah (fun z=>by rw [z,hd] at q;exact n2 _ _ (qF q))]
  exact x.frzs b a c q
 tbls:=fun b ps q=>by
  rw [zah (fun z=>by rw [z,hd] at q;exact n3 _ (qF q))]
  exact x.tbls b ps q
theorem FnOk.thaw {P:Program}{w:World}{K:PySem.W.Frag}{mg:Str→Option Value}{base:Heap}{CX:CXT}{k:Nat}{f:Addr}{fd:FuncData}{ps:List Str}{sp:Sp}(F:FnOk P w K mg base CX k f fd ps sp):
  FnOk P w K mg base CX k f fd ps (fun vs H Q E=>sp vs H (fun v H'=>∃ d ob k0 kvs,H d=some (.dT k0)∧H' d=some (.frz ob (.dT kvs))∧Q v (upd H' d (.dT kvs))) E):=by
 refine ⟨fun vs H Q E h=>F.len vs H _ E h,fun A outer s H args us vs Q E hr he hb hv hs=>?_⟩
 refine codeAny_mono (F.run A outer s H args us vs _ E hr he hb hv hs) fun r s' hq=>?_
 unfold CR at hq ⊢
 cases r with
 | error e=>exact hq
 | ok r=>
  cases r with
  | ret u=>
   obtain ⟨v,H',h1,h2,h3,h4,h5,d,ob,k0,kvs,hd,hd',q⟩:=hq
   exact ⟨v,_,h1,h2,h3.thaw hd (fun _ z=>by cases z) (fun _ _ z=>by cases z) (fun _ z=>by cases z),h4.thaw hd',h5,q⟩
  | _=>exact hq
theorem RdT.dw {H:Hp}{d c:Addr}{kvs:List (List Key×V)}{o:HO}{xs:List V}(q:RdT H c xs)(hd:H d=some (.dT kvs)):RdT (L2.upd H d o) c xs:=by
 rcases q with q | ⟨u,q⟩
 ·exact RdT.put (.inl q) (zeZ q hd (fun z=>nomatch z))
 ·exact RdT.put (.inr ⟨u,q⟩) (zeZ q hd (fun z=>nomatch z))
theorem RdT.tup {K:PySem.W.Frag}{H:Hp}{c:Addr}{xs:List V}(q:RdT H c xs):SqT K H c xs:=.inl q
theorem zlJ {d:Addr}{ob:Obj}{kvs:List (List Key×V)}{g:TG}{tb:TS}{D:Ends}{σ :St}{H:Hp}(Pv:Nat→St→Hp→Prop)(h0:Pv 0 σ H)
  (hl:∀ i σ H,i≤kvs.length→Pv i σ H→H d=some (.frz ob (.dT kvs)))
  (hs:∀ i b p σ H T,kvs[i]? =some p→Pv i σ H→H T=none→RdT H b (p.1.map kV)→g (.ref T) σ (upd H T (.tup [.ref b,p.2])) fun σ2 H2=>tb {D with nx:=Pv (i+1),ct:=Pv (i+1),bk:=D.nx} σ2 H2)
  (hd:∀ σ H,Pv kvs.length σ H→D.nx σ H):
  ∃ W:Nat→Nat→St→Hp→Prop,(∃ m,W 0 m σ H)∧∀ i m σ H,W i m σ H→
   ((Iti d ob).stop i H ∧ D.nx σ H) ∨ ((Iti d ob).go i H ∧ ∃ N : St → Hp → Prop, (∀ σ' H', N σ' H' → ∃ m', m' < m ∧ W (i + 1) m' σ' H') ∧
     ∀ x H',(Iti d ob).yld i H x H'→g x σ H' fun σ2 H2=>tb {D with nx:=N,ct:=N,bk:=D.nx} σ2 H2):=by
 refine ⟨fun i m σ H=>m=kvs.length - i∧i≤kvs.length∧Pv i σ H,⟨kvs.length,by simp,qM _,h0⟩,?_⟩
 rintro i m σ H ⟨rfl,hi,p⟩
 have q:=hl i σ H hi p
 by_cases hlt:i < kvs.length
 ·refine .inr ⟨⟨kvs,kvs[i],q,by simp [hlt]⟩,Pv (i+1),fun σ' H' p'=>⟨kvs.length - (i+1),by omega,rfl,hlt,p'⟩,fun x H' y=>?_⟩
  obtain ⟨T,b,k,z,hT,e1,e2,hb,y⟩:=y
  subst e1 e2
  exact hs i b (k,z) σ H T (y kvs q) p hT hb
 ·have e:i=kvs.length:=by omega
  subst e
  exact .inl ⟨⟨kvs,q,yL _⟩,hd σ H p⟩
noncomputable def znw (tk tv:TE):TE:=fun σ H Q=>∀ p,H p=none→tk σ (upd H p (.dT [])) fun x H1=>tv σ H1 fun y H2=>H2 p=some (.dT [])∧∃ b ks,x= .ref b∧RdT H2 b (ks.map kV)∧Q (.ref p) (upd H2 p (.dT [(ks,y)]))
theorem zm3 {X:Cx}{pos:Pos}{k v:Expr}{tk tv:TE}(hu:X.A.units+1 < cLine)(hk:PE X k tk)(hv:PE X v tv):PE X (.Dict [some k] [v] pos) (znw tk tv):=by
 intro pins s σ H Q I q
 have hn:=I.hok.fresh (yL s.heap.objs.size)
 have I1:=I.laid (a:=s.heap.objs.size) (o:=.dT []) (h':=s.heap.push {cls:=.type "dict",data:=.dict #[]}) (t':=s.toks) (fun _ _ q=>yD _ q) (yL _) (zjl s.heap I.big)
 refine wpAny_Dict_any rfl rfl (by simp) (by show 1≤15;decide) ?_
 refine pairTrees_cons_walk (thn (hk pins _ σ _ _ I1 (q _ hn)) fun u s1 ⟨x,H1,I2,rx,q1⟩=>thn (hv pins s1 σ H1 _ I2 q1) fun w2 s2 ⟨y,H2,I3,ry,q2⟩=>pairTrees_nil_walk ?_)
 obtain ⟨e,b,ks,rfl,eb,q3⟩:=q2
 cases (show u=Value.ref b from rx)
 show wpAny _ _ (PySem.storeAll s.heap.objs.size [(Value.ref b,w2)]) _ _ s2
 unfold PySem.storeAll
 rw [ybl]
 obtain ⟨z,hd,xs0,r0,dd⟩:=dt_of I3.hok e
 cases r0
 refine yA (yA (wpAny_dictSet_heap (knd:=tupleKind (zaG X.prog X.w)) (by show X.A.units < cLine;omega) (zfR I3.hok eb) dd (fun h' dd' hs=>?_) (qM _)))
 refine yC ?_
 show wpAny _ _ (forIn ([]:List (Value×Value)) PUnit.unit _) _ _ _
 rw [List.forIn_nil]
 refine yC ⟨.ref s.heap.objs.size,_,?_,rfl,q3⟩
 obtain ⟨qo,es,ep,hq,h2,h3,h4,_,h5⟩:=dd'
 refine zgU I3 (by rw [e];exact True.intro) hs ⟨qo,hq⟩ ⟨(by show 1≤yK;decide),hd,_,((show KT H2 [] [] from .nil).put ks eb ry).keeps fun c ys ec=>RdT.dw ec e,qo,es,ep,hq,h2,h3,h4,h5⟩
theorem zlF {X:Cx}{pos:Pos}{k v:Expr}{tk tv:TE}(hu:X.A.units+1 < cLine)(hk:Bx (PE X k tk))(hv:Bx (PE X v tv)):Bx (PE X (.Dict [some k] [v] pos) (znw tk tv)):=⟨zm3 hu hk.1 hv.1⟩
section
variable {prog:Program} {w:World} {A:Around} {E:Value→Shared→Prop} {s:Shared} {Ky:Type} [DecidableEq Ky] {knd:HeapKind prog w Ky}
end
section
variable {prog:Program} {w:World} {A:Around} {E:Value→Shared→Prop} {s:Shared}
theorem zif {d:Addr}{es:Array DictEntry}{ep:Nat}{Q:Value→Shared→Prop}(nd:(d==sysModules)=false)(hE:EntD s.heap d es ep)
  (q:Q (.ref s.heap.objs.size) {s with heap:=s.heap.push {cls:=.type "dict_values",data:=.fields #[.ref d]}}):wpAny (model prog w) A (call (.builtin "dict.values") [.ref d]) Q E s:=by
 obtain ⟨ob,e1,⟨e2,_,_⟩,e3⟩:=hE
 have ty:s.TypeIs (.ref d) "dict" :=⟨ob,e1,e2⟩
 refine wpAny_call_entry yaW ty PySem.F.entry_dict_values ?_ (PySem.F.args_dict_values_1 _)
 refine yA (?_:wpAny _ _ (yaC _ _) _ _ s)
 unfold yaC
 refine yA (wpAny_notOrdered_dict ty ?_)
 show wpAny _ _ (pure d) _ _ s
 refine yC (?_:wpAny _ _ (xR d >>=_) _ _ s)
 unfold xR
 rw [nd]
 exact yA (yC (yA (wpAny_newObj_type (yC ⟨_,rfl,q⟩))))
theorem ziB {v d:Addr}{es:Array DictEntry}{ep:Nat}{Q:Value→Shared→Prop}(hv:s.heap.IsValuesView v d)(hE:EntD s.heap d es ep)
  (q:Q (.ref s.heap.objs.size) {s with heap:=s.heap.push {cls:=.type "dict_valueiterator",data:=.fields #[.ref d,.int 0 0,.int es.size 0,.int ep 0]}}):
  wpAny (model prog w) A (pyIter (.ref v)) Q E s:=by
 obtain ⟨vo,v1,v2,v3⟩:=id hv
 obtain ⟨ob,e1,_,e3⟩:=hE
 refine wpAny_pyIter_slot hv.typeIs yas (wpAny_call_entry yas hv.typeIs PySem.F.entry_dict_values_iter ?_ (PySem.F.args_dict_values_iter_1 _))
 unfold Builtin.«dict_values.__iter__»
 refine yA (yC (yA ?_))
 unfold yaQ
 refine yA (wpAny_field v1 v3 (x:=.ref d) rfl (yC (yA ?_)))
 unfold yan
 refine yA (wpAny_dictEntries e1 e3 (yA (wpAny_dictEpoch e1 e3 ?_)))
 simp only [show jF "dict_valueiterator" =false by decide,jN,if_false]
 refine wpAny_newObj_type (yC ⟨_,rfl,"dict_valueiterator",_,⟨_,yO _ rfl,rfl⟩,jO.lookup,?_⟩)
 simpa [rawInt] using q
theorem zig {it d:Addr}{i ep:Nat}{es:Array DictEntry}{en:DictEntry}{Q:Option Value→Shared→Prop}(hJ:s.heap.IsValIter it d i es.size ep)(hE:EntD s.heap d es ep)(hx:es[i]? =some en)
  (q:∀ h',h'.IsValIter it d (i+1) es.size ep→qX it s.heap h'→Q (some en.val) {s with heap:=h'}):wpAny (model prog w) A (pyNext (.ref it)) Q E s:=by
 obtain ⟨o,j1,j2,j3⟩:=id hJ
 obtain ⟨ob,e1,_,e3⟩:=hE
 have ty:=hJ.typeIs (s:=s)
 unfold pyNext
 refine yA (wpAny_attempt (wpAny_callSpecial?_slot (name:=xQ "__next__") ty jO
  (wpAny_call_entry jO ty wB ?_ (kX _))))
 refine yA (yC (yA (yA ?_)))
 first | refine yA (wpAny_typeNameOfWhole_valiter ty (yC ?_)) | refine yA (wpAny_typeNameOf_valiter ty (yC ?_))
 refine yA (wpAny_fieldsOf j1 j3 ?_)
 simp only [show jF "dict_valueiterator" =false by decide,jN,if_false]
 show wpAny _ _ (if (Value.ref d==Value.none)=true then _ else _) _ _ s
 rw [show (Value.ref d==Value.none)=false from rfl,if_neg yQ]
 refine yA (yC (yA (wpAny_dictEntries e1 e3 ?_)))
 rw [if_neg (by simp)]
 refine yA (yC (yA (wpAny_dictEpoch e1 e3 ?_)))
 rw [if_neg (by simp)]
 refine yC ?_
 simp only [show ¬(i:Int) < 0 from by omega,if_false,jM,hx]
 refine yA ?_
 first | refine yA (wpAny_typeNameOfWhole_valiter ty (yC ?_)) | refine yA (wpAny_typeNameOf_valiter ty (yC ?_))
 refine yA (wpAny_isOneOf_valiter ty ?_)
 show wpAny _ _ (setField (.ref it) 1 (rawInt ((i:Int)+1)) >>=_) _ _ s
 refine yA (wpAny_setField j1 j3 (by simp) ?_)
 have hJ':(s.heap.update it (xO (·.setIfInBounds 1 (rawInt ((i:Int)+1))))).IsValIter it d (i+1) es.size ep:=
  ⟨_,xC _ j1 (kU (xI j3 _)),(yag ..).trans j2,by rw [xI j3];simp [rawInt]⟩
 have ty':=hJ'.typeIs (s:={s with heap:=s.heap.update it (xO (·.setIfInBounds 1 (rawInt ((i:Int)+1))))})
 refine yA (wpAny_holding (yA (wpAny_isOneOf_valiter (s:={s with heap:=s.heap.update it (xO (·.setIfInBounds 1 (rawInt ((i:Int)+1))))}) ty' (yA (wpAny_isOneOf_valiter (s:={s with heap:=s.heap.update it (xO (·.setIfInBounds 1 (rawInt ((i:Int)+1))))}) ty' ?_)))))
 show wpAny _ _ (pure en.val) _ _ _
 exact yC (yC ⟨_,rfl,yC (q _ hJ' (jS ..))⟩)
theorem zjH {it d:Addr}{i ep:Nat}{es:Array DictEntry}{Q:Option Value→Shared→Prop}(hh:A.handled=none)(hJ:s.heap.IsValIter it d i es.size ep)(hE:EntD s.heap d es ep)(hx:es.size≤i)
  (q:∀ h',ya5 it s.heap h'→Q none {s with heap:=h'}):wpAny (model prog w) A (pyNext (.ref it)) Q E s:=by
 obtain ⟨o,j1,j2,j3⟩:=id hJ
 obtain ⟨ob,e1,_,e3⟩:=hE
 have ty:=hJ.typeIs (s:=s)
 unfold pyNext
 refine yA (wpAny_attempt (wpAny_callSpecial?_slot (name:=xQ "__next__") ty jO
  (wpAny_call_entry jO ty wB ?_ (kX _))))
 refine yA (yC (yA (yA ?_)))
 first | refine yA (wpAny_typeNameOfWhole_valiter ty (yC ?_)) | refine yA (wpAny_typeNameOf_valiter ty (yC ?_))
 refine yA (wpAny_fieldsOf j1 j3 ?_)
 simp only [show jF "dict_valueiterator" =false by decide,jN,if_false]
 show wpAny _ _ (if (Value.ref d==Value.none)=true then _ else _) _ _ s
 rw [show (Value.ref d==Value.none)=false from rfl,if_neg yQ]
 refine yA (yC (yA (wpAny_dictEntries e1 e3 ?_)))
 rw [if_neg (by simp)]
 refine yA (yC (yA (wpAny_dictEpoch e1 e3 ?_)))
 rw [if_neg (by simp)]
 refine yC ?_
 simp only [show ¬(i:Int) < 0 from by omega,if_false,jM,yac hx]
 refine yA ?_
 first | refine yA (wpAny_typeNameOfWhole_valiter ty (yC ?_)) | refine yA (wpAny_typeNameOf_valiter ty (yC ?_))
 show wpAny _ _ (setField (.ref it) 0 .none >>=_) _ _ s
 refine yA (wpAny_setField j1 j3 (by simp) ?_)
 show wpAny _ _ (newExc (.type "StopIteration") [] >>=_) _ _ _
 refine yA ?_
 simp only [newExc,newTuple]
 refine yA (wpAny_newObj_type ?_ (by size_fits))
 refine yA (m:=firstArgMember _ _) (wpAny_of_eq (a:=Value.none) (by first | rfl | (simp only [firstArgMember];rfl)) (wpAny_newObj_type ?_ (by size_fits)))
 simp only [raiseNew]
 refine yA (wpAny_handled ?_)
 rw [show A.in1.handled=none from hh]
 refine yA (yC (wpAny_throw (?_:wpAny _ _ _ _ _ _)))
 refine yA (wpAny_isInstance (b:=true) (T:="StopIteration") ⟨_,yO _ rfl,rfl⟩ isSubtype_stop ?_)
 exact yC (q _ (((jS ..).extBut.push _).push _))
theorem EntD.at {h h':Heap}{d:Addr}{es:Array DictEntry}{ep:Nat}(x:EntD h d es ep)(k:∀ o,h.get? d=some o→h'.get? d=some o):EntD h' d es ep:=let ⟨o,e,r⟩:=x;⟨o,k o e,r⟩
end
section
variable {prog:Program} {w:World} {A:Around} {E:Value→Shared→Prop} {s:Shared}
end
section
variable {X:Cx} {o:Expr} {td:TE} {p ap cp pos:Pos}
end
noncomputable def Itv (d:Addr) (ob:Obj):It:=
 ⟨fun i H => ∃ kvs p, H d = some (.frz ob (.dT kvs)) ∧ kvs[i]? = some p,
  fun i H v H'=>H'=H∧∃ k:List Key,∀ kvs,H d=some (.frz ob (.dT kvs))→kvs[i]? =some (k,v),
  fun i H=>∃ kvs,H d=some (.frz ob (.dT kvs))∧kvs.length≤i⟩
theorem zl5 {P:Program}{w:World}{K:PySem.W.Frag}{tg:Expr}{ob:Obj}{es:Array DictEntry}{ep:Nat}(d it:Addr)(hx:ob.ExactDict)(he:ob.data= .dict es ep):
  Turn P w K tg (Itv d ob) [it] it (fun i h=>h.IsValIter it d i es.size ep) where
 mem:=by simp
 obj:=fun i h st c hc=>by
  obtain ⟨o,e,c1,d1⟩:=st
  rw [yG.mp hc]
  exact ⟨_,e,fun v z=>by rw [d1] at z;cases z⟩
 keep:=fun i h h' st kp=>st.at (kp it (by simp))
 item:=by
  intro X hP hw hK hc i pins s σ H E I hf st hg
  subst hP hw hK
  obtain ⟨kvs,p,hd,hp⟩:=hg
  obtain ⟨hE,hz,each⟩:=ze6 I hd hx he
  obtain ⟨en,b,h1,h2,h3,h4⟩:=each i p hp
  obtain ⟨f0,f1,f2,f3,f4,f5⟩:=hf it (by simp)
  refine zig st hE h1 fun h' st' sb=>?_
  have I1:Inv X pins σ H {s with heap:=h'}:=I.turned (t':=s.toks) (fun b o hb e=>(sb.2 b hb).trans e) f0 f1 f3 f4 f5
  obtain ⟨o,e,c,dd⟩:=id st'
  exact ⟨_,rfl,zk5 (s:={s with heap:=h'}) e c dd (by decide) ⟨p.2,H,I1,h4,⟨rfl,p.1,fun kvs' hd'=>by rw [hd] at hd';cases hd';exact hp⟩,st',fun b hb=>(hf b hb).1⟩⟩
 done:=by
  intro X hP hw hK hc i pins s σ H E I hf st hg
  subst hP hw hK
  obtain ⟨kvs,hd,hp⟩:=hg
  obtain ⟨hE,hz,_⟩:=ze6 I hd hx he
  obtain ⟨f0,f1,f2,f3,f4,f5⟩:=hf it (by simp)
  exact zjH (I.ok.hd hc) st hE (by omega) fun h' eb=>⟨rfl,I.turned (t':=s.toks) (fun b o hb e=>eb b o hb e) f0 f1 f3 f4 f5⟩
 self:=fun _ _ _ _ _ st h=>wpAny_pyIter_valiter st h
noncomputable def iVals (td:TE):TI:=fun σ H R=>td σ H fun x H1=>∃ d kvs,x= .ref d∧H1 d=some (.dT kvs)∧∀ ob,R (Itv d ob) (upd H1 d (.frz ob (.dT kvs)))
theorem zoE {X:Cx}{o tg:Expr}{td:TE}{apos cpos:Pos}(ho:PE X o td)
  (hbase:attributeBase o "values" X.env (eval o X.env)=eval o X.env:=by rfl) (hline:(apos.endLine==cpos.line)=true:=by rfl):PI X tg (.Call (.Attribute o "values" apos) [] [] cpos) (iVals td):=by
 intro pins s σ H R I h
 refine wpAny_Call_method0_late hbase hline (thn (ho pins s σ H _ I h) fun v s1 ⟨x,H1,I1,r1,d,kvs,ex,hd,q⟩=>?_)
 subst ex
 cases r1
 obtain ⟨_,nsys,xs,pr,ob,es,ep,e1,e2,e3,e4,e5⟩:=(show zbh X.prog X.w H1 s1.heap d (.dT kvs) from I1.hok d _ hd)
 have I2:=I1.freeze hd e1
 refine ⟨"dict","dict.values",wS,yaW,PySem.F.type_dict_values,⟨ob,e1,e2.1⟩,fun a z=>by cases z;exact ⟨ob,e1,e2.2.1⟩,vG rfl (yaA ?_)⟩
 refine zif (es:=es) (ep:=ep) nsys ⟨ob,e1,e2,e3⟩ ?_
 have hE:EntD (s1.heap.push {cls:=.type "dict_values",data:=.fields #[.ref d]}) d es ep:=⟨ob,yD _ e1,e2,e3⟩
 refine ziB (es:=es) (ep:=ep) ⟨_,yO _ rfl,rfl,rfl⟩ hE ?_
 have I3:Inv X pins σ (upd H1 d (.frz ob (.dT kvs))) {s1 with heap:=(s1.heap.push {cls:=.type "dict_values",data:=.fields #[.ref d]})}:=I2.kept (t':=s1.toks) fun b u e=>yD _ e
 refine ⟨(s1.heap.push {cls:=.type "dict_values",data:=.fields #[.ref d]}).objs.size,[(s1.heap.push {cls:=.type "dict_values",data:=.fields #[.ref d]}).objs.size],_,_,_,rfl,I3.kept (t':=s1.toks) fun b u e=>yD _ e,
  zl5 d _ e2 e3,⟨_,yO _ rfl,rfl,rfl⟩,fun b hb=>?_,q ob⟩
 rw [yG.mp hb]
 exact I3.fpOk (yL _) (I3.hok.fresh (yL _))
theorem zmg {X:Cx}{o tg:Expr}{td:TE}{apos cpos:Pos}(ho:Bx (PE X o td))
  (hbase:attributeBase o "values" X.env (eval o X.env)=eval o X.env:=by rfl) (hline:(apos.endLine==cpos.line)=true:=by rfl):Bx (PI X tg (.Call (.Attribute o "values" apos) [] [] cpos) (iVals td)):=⟨zoE ho.1 hbase hline⟩
section
variable {g:TG} {tt:TT} {te:TE} {n0:Nat} {cap:List Nat} {σ :St} {Q:VK} {D:Addr} {H1:Hp}
theorem zlf {d:Addr}{ob:Obj}{kvs:List (List Key×V)}(Pv:Nat→Hp→Prop)(h0:Pv 0 (upd H1 D (.lst [])))(hl:∀ i H,i≤kvs.length→Pv i H→H d=some (.frz ob (.dT kvs)))
  (hs:∀ i p H,kvs[i]? =some p→Pv i H→g p.2 (zbt n0 cap σ) H fun σ2 H2=>tt σ2 H2 fun c H3=>if c=true then te σ2 H3 fun y H4=>∃ xs,H4 D=some (.lst xs)∧xs.length < yK∧Pv (i+1) (upd H4 D (.lst (xs++ [y]))) else Pv (i+1) H3)
  (hd:∀ H,Pv kvs.length H→Q (.ref D) H):zc2 (Itv d ob) D n0 cap σ g tt te Q H1:=by
 refine ⟨fun i m H=>m=kvs.length - i∧i≤kvs.length∧Pv i H,⟨kvs.length,by simp,qM _,h0⟩,?_⟩
 rintro i m H ⟨rfl,hi,p⟩
 have q:=hl i H hi p
 by_cases hlt:i < kvs.length
 ·refine .inr ⟨⟨kvs,kvs[i],q,by simp [hlt]⟩,Pv (i+1),fun H' p'=>⟨kvs.length - (i+1),by omega,rfl,hlt,p'⟩,fun x H' y=>?_⟩
  obtain ⟨e1,k,y⟩:=y
  subst e1
  exact hs i (k,x) H' (y kvs q) p
 ·have e:i=kvs.length:=by omega
  subst e
  exact .inl ⟨⟨kvs,q,yL _⟩,hd H p⟩
end
open PySem.W (Dat kqdP kqdPs kqdOk)
noncomputable def zlA (K:PySem.W.Frag):V→List V→Hp→VK→Prop:=fun x vs H Q=>∃ (y:V) (d:Dat) (ds:List Dat) (j:Nat),vs= [y]∧Rep K H y d∧Rep K H x (.list ds)∧kqdOk 8 d=true∧(∀ e∈ds,kqdOk 8 e=true)∧ds[j]? =some d∧(∀ i,i < j→ds[i]?≠some d)∧Q (.int (j:Int)) H
section
variable {X:Cx}
open Classical in
theorem zls (hu:X.A.units+64 < cLine):MtR X "list.index" (zlA X.K):=by
 intro pins s σ H x vs v us Q I rx rv h
 obtain ⟨y,d,ds,j,rfl,hy,hx,kd,ks,hj,hno,q⟩:=h
 obtain ⟨u,rfl,ru⟩:=rv.one
 cases hx with
 | lst hq rq=>
  cases (show _=_ from rx)
  obtain ⟨its,r,pl,hz⟩:=I.list hq
  obtain ⟨as,ra⟩:=Rep.reads I 8 hy ru kd
  have room:∀ di,kqdOk 8 di=true→X.A.in1.units+min (kqdP di).depth (kqdP d).depth < cLine:=fun di k=>by
   have l:=(PySem.W.kqd_lay 8 di k).2
   rw [yb8]
   omega
  have at_:∀ (i:Nat) z,its[i]? =some z→∃ di,ds[i]? =some di∧∃ bs,Reads s.heap z (kqdP di) bs:=by
   intro i z hi
   have hlt:i < ds.length:=by rw [← rq.length,r.length];exact (yE.mp hi).1
   obtain ⟨w1,hw,rw'⟩:=rq.getD (yF hlt)
   obtain ⟨z2,hz2,rz⟩:=r.get hw
   rw [hi] at hz2
   cases hz2
   exact ⟨_,yF hlt,Rep.reads I 8 rw' rz (ks _ (xU hlt))⟩
  have same:∀ di,di∈ds→kqdP di=kqdP d→di=d:=fun di hd e=>by
   have z:=(PySem.W.kqd_eqv 8 d d 8 kd kd).mpr rfl
   exact (PySem.W.kqd_eqv 8 di d 8 (ks di hd) kd).mp (by rw [e];exact z)
  have yes:∀ (i:Nat) z,its[i]? =some z→(decide (∃ bs,Reads s.heap z (kqdP d) bs)=true↔ds[i]? =some d):=by
   intro i z hi
   obtain ⟨di,hd,bs,rb⟩:=at_ i z hi
   have hm:=yH hd
   rw [hd,ybX,decide_eq_true_eq]
   constructor
   ·rintro ⟨cs,rc⟩
    exact same di hm (yaM _ _ z bs cs (xE (zbu (ks di hm))) rb rc)
   ·rintro rfl
    exact ⟨bs,rb⟩
  have lj:j < its.length:=by rw [← r.length,rq.length];exact (yE.mp hj).1
  have small:its.length≤yK:=by rw [← r.length];exact hz
  obtain ⟨o,n,e1,e2,e3,e4⟩:=pl
  obtain ⟨oc,od,oda,osl⟩:=o
  dsimp only at e2 e3 e4
  subst e2 e3 e4
  refine call_meets ya6 ⟨_,e1,rfl⟩ PySem.F.entry_list_index (PySem.F.args_list_index_2 _ _)
   (SeqAt.list_indexAt _ its.toArray n _ _ u (fun z=>decide (∃ bs,Reads s.heap z (kqdP d) bs)) j (by simpa using lj) ?_ ?_ ?_) ⟨e1,fun z hz=>?_,⟨.int _,H,I.tok _,⟨_,rfl⟩,q⟩⟩
  ·rw [sizeLine_eq] at small
   have:(j:Int) < 4294967296:=by omega
   omega
  ·exact (yes j _ (by simp [lj])).mpr hj
  ·intro m hm hmj
   have hm':m < its.length:=by simpa using hm
   cases c:decide (∃ bs,Reads s.heap its.toArray[m] (kqdP d) bs) with
   | false=>rfl
   | true=>exact absurd ((yes m _ (by simp [hm'])).mp c) (hno m hmj)
  ·obtain ⟨i,hi⟩:=vR (show z∈its by simpa using hz)
   obtain ⟨di,hd,bs,rb⟩:=at_ i z hi
   have hm:=yH hd
   have qe:=yb9 _ _ X.A.in1 s z u bs as rb ra (xE (zbu (ks di hm))) (xE (zbu kd)) (room di (ks di hm))
   have e:yay (kqdP di) (kqdP d)=decide (∃ bs,Reads s.heap z (kqdP d) bs):=by
    cases c:decide (∃ bs,Reads s.heap z (kqdP d) bs) with
    | true=>
     have:=(yes i z hi).mp c
     rw [hd] at this
     cases this
     exact (PySem.W.kqd_eqv 8 d d 8 kd kd).mpr rfl
    | false=>
     cases c2:yay (kqdP di) (kqdP d) with
     | false=>rfl
     | true=>
      have:=(PySem.W.kqd_eqv 8 di d 8 (ks di hm) kd).mp c2
      subst this
      rw [(yes i z hi).mpr hd] at c
      cases c
   show jP X.A.in1 s z u (decide (∃ bs,Reads s.heap z (kqdP d) bs))
   rw [← e]
   exact qe
theorem zjP {K:PySem.W.Frag}(hu:X.A.units+64 < cLine)(h:X.K=K:=by rfl):MtR X "list.index" (zlA K):=by subst h;exact zls hu
end
end L2
namespace L2
open PySem PySem.Spec PyProof.Rows
section
variable {prog:Program} {w:World} {A:Around} {E:Value→Shared→Prop} {s:Shared}
theorem zmb {d:Addr}{es:Array DictEntry}{ep:Nat}{Q:Value→Shared→Prop}(nd:(d==sysModules)=false)(hE:EntD s.heap d es ep)
  (q:Q (.ref s.heap.objs.size) {s with heap:=s.heap.push {cls:=.type "dict_keyiterator",data:=.fields #[.ref d,.int 0 0,.int es.size 0,.int ep 0]}}):
  wpAny (model prog w) A (pyIter (.ref d)) Q E s:=by
 obtain ⟨ob,e1,⟨e2,_,_⟩,e3⟩:=hE
 have ty:s.TypeIs (.ref d) "dict" :=⟨ob,e1,e2⟩
 refine wpAny_pyIter_slot ty ybd (wpAny_call_entry ybd ty PySem.F.entry_dict_iter ?_ (PySem.F.args_dict_iter_1 _))
 unfold Builtin.«dict.__iter__» Builtin.Dict.dictSlotNone
 refine yA (yA (wpAny_notOrdered_dict ty ?_))
 show wpAny _ _ (pure (Value.ref d)) _ _ s
 refine yC (?_:wpAny _ _ (xR d >>=_) _ _ s)
 unfold xR
 rw [nd]
 refine yA (yC (yA (wpAny_dictEntries e1 e3 (yA (wpAny_dictEpoch e1 e3 ?_)))))
 refine yA (wpAny_newObj_type (yC ⟨_,rfl,"dict_keyiterator",_,⟨_,yO _ rfl,rfl⟩,jV.lookup,?_⟩))
 simpa [rawInt] using q
theorem zkn {it d:Addr}{i ep:Nat}{es:Array DictEntry}{en:DictEntry}{Q:Option Value→Shared→Prop}(hJ:s.heap.IsKeyIter it d i es.size ep)(hE:EntD s.heap d es ep)(hx:es[i]? =some en)
  (q:∀ h',h'.IsKeyIter it d (i+1) es.size ep→qX it s.heap h'→Q (some en.key) {s with heap:=h'}):wpAny (model prog w) A (pyNext (.ref it)) Q E s:=by
 obtain ⟨o,j1,j2,j3⟩:=id hJ
 obtain ⟨ob,e1,_,e3⟩:=hE
 have ty:=hJ.typeIs (s:=s)
 unfold pyNext
 refine yA (wpAny_attempt (wpAny_callSpecial?_slot (name:=xQ "__next__") ty jV
  (wpAny_call_entry jV ty wM ?_ (wE _))))
 refine yA (yC (yA (yA ?_)))
 first | refine yA (wpAny_typeNameOfWhole_keyiter ty (yC ?_)) | refine yA (wpAny_typeNameOf_keyiter ty (yC ?_))
 refine yA (wpAny_fieldsOf j1 j3 ?_)
 simp only [show jF "dict_keyiterator" =false by decide,jN,if_false]
 show wpAny _ _ (if (Value.ref d==Value.none)=true then _ else _) _ _ s
 rw [show (Value.ref d==Value.none)=false from rfl,if_neg yQ]
 refine yA (yC (yA (wpAny_dictEntries e1 e3 ?_)))
 rw [if_neg (by simp)]
 refine yA (yC (yA (wpAny_dictEpoch e1 e3 ?_)))
 rw [if_neg (by simp)]
 refine yC ?_
 simp only [show ¬(i:Int) < 0 from by omega,if_false,jM,hx]
 refine yA ?_
 first | refine yA (wpAny_typeNameOfWhole_keyiter ty (yC ?_)) | refine yA (wpAny_typeNameOf_keyiter ty (yC ?_))
 refine yA (wpAny_isOneOf_keyiter ty ?_)
 show wpAny _ _ (setField (.ref it) 1 (rawInt ((i:Int)+1)) >>=_) _ _ s
 refine yA (wpAny_setField j1 j3 (by simp) ?_)
 have hJ':(s.heap.update it (xO (·.setIfInBounds 1 (rawInt ((i:Int)+1))))).IsKeyIter it d (i+1) es.size ep:=
  ⟨_,xC _ j1 (kU (xI j3 _)),(yag ..).trans j2,by rw [xI j3];simp [rawInt]⟩
 have ty':=hJ'.typeIs (s:={s with heap:=s.heap.update it (xO (·.setIfInBounds 1 (rawInt ((i:Int)+1))))})
 refine yA (wpAny_holding (yA (wpAny_isOneOf_keyiter (s:={s with heap:=s.heap.update it (xO (·.setIfInBounds 1 (rawInt ((i:Int)+1))))}) ty' ?_)))
 show wpAny _ _ (pure en.key) _ _ _
 exact yC (yC ⟨_,rfl,yC (q _ hJ' (jS ..))⟩)
theorem zm7 {it d:Addr}{i ep:Nat}{es:Array DictEntry}{Q:Option Value→Shared→Prop}(hh:A.handled=none)(hJ:s.heap.IsKeyIter it d i es.size ep)(hE:EntD s.heap d es ep)(hx:es.size≤i)
  (q:∀ h',ya5 it s.heap h'→Q none {s with heap:=h'}):wpAny (model prog w) A (pyNext (.ref it)) Q E s:=by
 obtain ⟨o,j1,j2,j3⟩:=id hJ
 obtain ⟨ob,e1,_,e3⟩:=hE
 have ty:=hJ.typeIs (s:=s)
 unfold pyNext
 refine yA (wpAny_attempt (wpAny_callSpecial?_slot (name:=xQ "__next__") ty jV
  (wpAny_call_entry jV ty wM ?_ (wE _))))
 refine yA (yC (yA (yA ?_)))
 first | refine yA (wpAny_typeNameOfWhole_keyiter ty (yC ?_)) | refine yA (wpAny_typeNameOf_keyiter ty (yC ?_))
 refine yA (wpAny_fieldsOf j1 j3 ?_)
 simp only [show jF "dict_keyiterator" =false by decide,jN,if_false]
 show wpAny _ _ (if (Value.ref d==Value.none)=true then _ else _) _ _ s
 rw [show (Value.ref d==Value.none)=false from rfl,if_neg yQ]
 refine yA (yC (yA (wpAny_dictEntries e1 e3 ?_)))
 rw [if_neg (by simp)]
 refine yA (yC (yA (wpAny_dictEpoch e1 e3 ?_)))
 rw [if_neg (by simp)]
 refine yC ?_
 simp only [show ¬(i:Int) < 0 from by omega,if_false,jM,yac hx]
 refine yA ?_
 first | refine yA (wpAny_typeNameOfWhole_keyiter ty (yC ?_)) | refine yA (wpAny_typeNameOf_keyiter ty (yC ?_))
 show wpAny _ _ (setField (.ref it) 0 .none >>=_) _ _ s
 refine yA (wpAny_setField j1 j3 (by simp) ?_)
 show wpAny _ _ (newExc (.type "StopIteration") [] >>=_) _ _ _
 refine yA ?_
 simp only [newExc,newTuple]
 refine yA (wpAny_newObj_type ?_ (by size_fits))
 refine yA (m:=firstArgMember _ _) (wpAny_of_eq (a:=Value.none) (by first | rfl | (simp only [firstArgMember];rfl)) (wpAny_newObj_type ?_ (by size_fits)))
 simp only [raiseNew]
 refine yA (wpAny_handled ?_)
 rw [show A.in1.handled=none from hh]
 refine yA (yC (wpAny_throw (?_:wpAny _ _ _ _ _ _)))
 refine yA (wpAny_isInstance (b:=true) (T:="StopIteration") ⟨_,yO _ rfl,rfl⟩ isSubtype_stop ?_)
 exact yC (q _ (((jS ..).extBut.push _).push _))
end
noncomputable def Itk (d:Addr) (ob:Obj):It:=
 ⟨fun i H => ∃ kvs p, H d = some (.frz ob (.dT kvs)) ∧ kvs[i]? = some p,
  fun i H v H'=>H'=H∧∃ (b:Addr) (k:List Key) (x:V),v= .ref b∧RdT H b (k.map kV)∧∀ kvs,H d=some (.frz ob (.dT kvs))→kvs[i]? =some (k,x),
  fun i H=>∃ kvs,H d=some (.frz ob (.dT kvs))∧kvs.length≤i⟩
theorem zlq {P:Program}{w:World}{K:PySem.W.Frag}{tg:Expr}{ob:Obj}{es:Array DictEntry}{ep:Nat}(d it:Addr)(hx:ob.ExactDict)(he:ob.data= .dict es ep):
  Turn P w K tg (Itk d ob) [it] it (fun i h=>h.IsKeyIter it d i es.size ep) where
 mem:=by simp
 obj:=fun i h st c hc=>by
  obtain ⟨o,e,c1,d1⟩:=st
  rw [yG.mp hc]
  exact ⟨_,e,fun v z=>by rw [d1] at z;cases z⟩
 keep:=fun i h h' st kp=>st.at (kp it (by simp))
 item:=by
  intro X hP hw hK hc i pins s σ H E I hf st hg
  subst hP hw hK
  obtain ⟨kvs,p,hd,hp⟩:=hg
  obtain ⟨hE,hz,each⟩:=ze6 I hd hx he
  obtain ⟨en,b,h1,h2,h3,h4⟩:=each i p hp
  obtain ⟨f0,f1,f2,f3,f4,f5⟩:=hf it (by simp)
  refine zkn st hE h1 fun h' st' sb=>?_
  have I1:Inv X pins σ H {s with heap:=h'}:=I.turned (t':=s.toks) (fun b o hb e=>(sb.2 b hb).trans e) f0 f1 f3 f4 f5
  obtain ⟨o,e,c,dd⟩:=id st'
  exact ⟨_,rfl,zk5 (s:={s with heap:=h'}) e c dd (by decide) ⟨.ref b,H,I1,h2,⟨rfl,b,p.1,p.2,rfl,h3,fun kvs' hd'=>by rw [hd] at hd';cases hd';exact hp⟩,st',fun b hb=>(hf b hb).1⟩⟩
 done:=by
  intro X hP hw hK hc i pins s σ H E I hf st hg
  subst hP hw hK
  obtain ⟨kvs,hd,hp⟩:=hg
  obtain ⟨hE,hz,_⟩:=ze6 I hd hx he
  obtain ⟨f0,f1,f2,f3,f4,f5⟩:=hf it (by simp)
  exact zm7 (I.ok.hd hc) st hE (by omega) fun h' eb=>⟨rfl,I.turned (t':=s.toks) (fun b o hb e=>eb b o hb e) f0 f1 f3 f4 f5⟩
 self:=fun _ _ _ _ _ st h=>wpAny_pyIter_keyiter st h
noncomputable def iKeys (td:TE):TI:=fun σ H R=>td σ H fun x H1=>∃ d kvs,x= .ref d∧H1 d=some (.dT kvs)∧∀ ob,R (Itk d ob) (upd H1 d (.frz ob (.dT kvs)))
theorem zoG {X:Cx}{o tg:Expr}{td:TE}(ho:PE X o td):PI X tg o (iKeys td):=by
 intro pins s σ H R I h
 refine thn (ho pins s σ H _ I h) fun v s1 ⟨x,H1,I1,r1,d,kvs,ex,hd,q⟩=>?_
 subst ex
 cases r1
 obtain ⟨_,nsys,xs,pr,ob,es,ep,e1,e2,e3,e4,e5⟩:=(show zbh X.prog X.w H1 s1.heap d (.dT kvs) from I1.hok d _ hd)
 have I2:=I1.freeze hd e1
 refine zmb (es:=es) (ep:=ep) nsys ⟨ob,e1,e2,e3⟩ ?_
 refine ⟨s1.heap.objs.size,[s1.heap.objs.size],_,_,_,rfl,I2.kept (t':=s1.toks) fun b u e=>yD _ e,zlq d _ e2 e3,⟨_,yO _ rfl,rfl,rfl⟩,fun b hb=>?_,q ob⟩
 rw [yG.mp hb]
 exact I2.fpOk (yL _) (I2.hok.fresh (yL _))
theorem zjk {X:Cx}{o tg:Expr}{td:TE}(ho:Bx (PE X o td)):Bx (PI X tg o (iKeys td)):=⟨zoG ho.1⟩
theorem zmq {d:Addr}{ob:Obj}{kvs:List (List Key×V)}{g:TG}{tb:TS}{D:Ends}{σ :St}{H:Hp}(Pv:Nat→St→Hp→Prop)(h0:Pv 0 σ H)
  (hl:∀ i σ H,i≤kvs.length→Pv i σ H→H d=some (.frz ob (.dT kvs)))
  (hs:∀ i b p σ H,kvs[i]? =some p→Pv i σ H→RdT H b (p.1.map kV)→g (.ref b) σ H fun σ2 H2=>tb {D with nx:=Pv (i+1),ct:=Pv (i+1),bk:=D.nx} σ2 H2)
  (hd:∀ σ H,Pv kvs.length σ H→D.nx σ H):
  ∃ W:Nat→Nat→St→Hp→Prop,(∃ m,W 0 m σ H)∧∀ i m σ H,W i m σ H→
   ((Itk d ob).stop i H ∧ D.nx σ H) ∨ ((Itk d ob).go i H ∧ ∃ N : St → Hp → Prop, (∀ σ' H', N σ' H' → ∃ m', m' < m ∧ W (i + 1) m' σ' H') ∧
     ∀ x H',(Itk d ob).yld i H x H'→g x σ H' fun σ2 H2=>tb {D with nx:=N,ct:=N,bk:=D.nx} σ2 H2):=by
 refine ⟨fun i m σ H=>m=kvs.length - i∧i≤kvs.length∧Pv i σ H,⟨kvs.length,by simp,qM _,h0⟩,?_⟩
 rintro i m σ H ⟨rfl,hi,p⟩
 have q:=hl i σ H hi p
 by_cases hlt:i < kvs.length
 ·refine .inr ⟨⟨kvs,kvs[i],q,by simp [hlt]⟩,Pv (i+1),fun σ' H' p'=>⟨kvs.length - (i+1),by omega,rfl,hlt,p'⟩,fun x H' y=>?_⟩
  obtain ⟨e2,b,k,z,e1,hb,y⟩:=y
  subst e1 e2
  exact hs i b (k,z) σ H' (y kvs q) p hb
 ·have e:i=kvs.length:=by omega
  subst e
  exact .inl ⟨⟨kvs,q,yL _⟩,hd σ H p⟩
theorem zmc (bs:List Bool):(qI bs.length).any (fun j=>(bs[j]?).getD true)=bs.any id:=by
 rw [xG,xV,xV]
 constructor
 ·rintro ⟨j,hj,e⟩
  have hj:=qN.mp hj
  rw [yF hj] at e
  exact ⟨_,xU hj,e⟩
 ·rintro ⟨b,hb,e⟩
  obtain ⟨j,hj,q⟩:=ybB.mp hb
  exact ⟨j,qN.mpr hj,by rw [yF hj,q];exact e⟩
section
variable {X:Cx}
theorem zkP (hc:X.calm=true):zc3 X (.builtin "any") (fun xs H Q=>∃ (p:Addr) (bs:List Bool),xs= [.ref p]∧SqL X.K H p (bs.map V.bl)∧Q (.bl (bs.any id)) H):=by
 intro pins s σ H xs us Q I r ⟨p,bs,e,hq,q⟩
 subst e
 obtain ⟨u,rfl,rx⟩:=zgs r
 cases rx
 obtain ⟨its,rv,pl,hz⟩:=I.list hq
 have hl:its.toArray.size=bs.length:=by
  have:=rv.length
  simpa using this.symm
 have hlt:p < s.heap.objs.size:=by
  obtain ⟨o,ho,_⟩:=pl.isList
  exact yS ho
 refine call_any_walk (wpAny_pyIter_list pl.isList ?_)
 refine ⟨_,_,_,_,_,_,fun j=>(bs[j]?).getD true,rfl,yaz (A:=X.A.in1) (I.ok.hd hc) _ p (qA hlt) its.toArray,⟨⟨_,yO _ rfl,rfl,rfl⟩,pl.isList.at fun o e=>yD _ e⟩,?_,fun h' tk hk=>?_⟩
 ·intro j v s' Q' E' hv hQ
  obtain ⟨b,hb,rfl⟩:=zjn rv (show its[j]? =some v by simpa using hv)
  dsimp only at hQ
  rw [hb] at hQ
  exact wpAny_truthy_bool hQ
 ·rw [hl,zmc]
  refine ⟨.bl _,H,I.kept (t':=tk) fun b o e=>hk b o ?_ (yD _ e),rfl,q⟩
  intro z
  have:b=s.heap.objs.size:=by simpa using z
  exact qA (yS e) this
end
end L2
namespace L2
open PySem
theorem zkJ {X:Cx}{c:Expr}{body:List Stmt}{tc:TT}{tb:TS}{pos:Pos}(hp:PassesOwn (model X.prog X.w) X.A X.env X.xe)(hc:Bx (PT X c tc))(hb:Bx (PSs X body tb)):Bx (PS X (.While c body [] pos) (znB tc tb)):=⟨zmW hp hc.1 hb.1⟩
end L2
namespace L2
open PySem PySem.Spec PyProof.Rows
section
variable {X:Cx}
end
section
variable {prog:Program} {w:World} {A:Around} {E:Value→Shared→Prop} {s:Shared}
end
section
variable {prog:Program} {w:World} {A:Around} {E:Value→Shared→Prop} {s:Shared}
end
section
variable {prog:Program} {w:World} {A:Around} {E:Value→Shared→Prop} {s:Shared}
noncomputable def TAt (h:Heap) (it t:Addr) (i:Nat) (xs:Array Value):Prop:=IsTupIter h it t i∧IsTup h t xs
theorem TAt.keep {h h':Heap}{it t:Addr}{i:Nat}{xs:Array Value}(x:TAt h it t i xs)(k1:∀ o,h.get? it=some o→h'.get? it=some o)(k2:∀ o,h.get? t=some o→h'.get? t=some o):TAt h' it t i xs:=by
 obtain ⟨⟨o,a,b⟩,o2,c,d⟩:=x
 exact ⟨⟨o,k1 _ a,b⟩,o2,k2 _ c,d⟩
end
section
variable {prog:Program} {w:World} {A:Around} {E:Value→Shared→Prop} {s:Shared}
end
end L2
namespace L2
open PySem
theorem zjZ {n:Nat}{g:TG}{tb:TS}{D:Ends}{σ :St}{H:Hp}(Pv:Nat→St→Hp→Prop)(h0:Pv 0 σ H)
  (hs:∀ (i:Nat) σ H,i < n→Pv i σ H→g (.int (i:Int)) σ H fun σ2 H2=>tb {D with nx:=Pv (i+1),ct:=Pv (i+1),bk:=D.nx} σ2 H2) (hd:∀ σ H,Pv n σ H→D.nx σ H):
  ∃ W:Nat→Nat→St→Hp→Prop,(∃ m,W 0 m σ H)∧∀ i m σ H,W i m σ H→
   ((Itr 0 n).stop i H∧D.nx σ H)∨((Itr 0 n).go i H∧∃ N:St→Hp→Prop,(∀ σ' H',N σ' H'→∃ m',m' < m∧W (i+1) m' σ' H')∧∀ x H',(Itr 0 n).yld i H x H'→g x σ H' fun σ2 H2=>tb {D with nx:=N,ct:=N,bk:=D.nx} σ2 H2):=
 zcA Pv h0 (fun i σ H hi p=>by rw [vY];exact hs i σ H hi p) hd
theorem zdT {n:Nat}{g:TG}{tb:TS}{D:Ends}{σ :St}{H:Hp}(Pv:Nat→St→Hp→Prop)(h0:Pv 0 σ H)
  (hs:∀ (i:Nat) σ H (E:Ends),i < n→(∀ σ' H',Pv (i+1) σ' H'→E.nx σ' H')→Pv i σ H→g (.int (i:Int)) σ H fun σ2 H2=>tb E σ2 H2) (hd:∀ σ H,Pv n σ H→D.nx σ H):
  ∃ W:Nat→Nat→St→Hp→Prop,(∃ m,W 0 m σ H)∧∀ i m σ H,W i m σ H→
   ((Itr 0 n).stop i H∧D.nx σ H)∨((Itr 0 n).go i H∧∃ N:St→Hp→Prop,(∀ σ' H',N σ' H'→∃ m',m' < m∧W (i+1) m' σ' H')∧∀ x H',(Itr 0 n).yld i H x H'→g x σ H' fun σ2 H2=>tb {D with nx:=N,ct:=N,bk:=D.nx} σ2 H2):=
 zjZ Pv h0 (fun i σ H hi p=>hs i σ H _ hi (fun _ _ z=>z) p) hd
end L2
namespace L2
open PySem PySem.Spec PyProof.Rows
section
variable {X:Cx}
end
section
variable {X:Cx} {tg:Expr}
end
section
end
section
variable {prog:Program} {w:World} {A:Around} {E:Value→Shared→Prop} {s:Shared}
end
section
variable {X:Cx} {pins:List (Addr×Obj)} {σ :St} {H1:Hp} {s1 s':Shared} {C S:Addr} {nid nid2:String} {bB bB2:List Value} {sx n:Str} {np hpos:Pos} {b₀ :Stmt} {suite:List Stmt} {j:Nat} {ts:TS} {D:Ends} {E':XK} {e:Value}
end
section
variable {X:Cx} {C S f:Addr} {k:Nat} {fd:FuncData} {ps:List Str} {sp:Sp} {dvs:List V} {ds:List Value} {nid nid2:String} {bB bB2:List Value} {fx sx n:Str} {p np hpos cpos epos pos:Pos} {b₀ :Stmt} {suite:List Stmt} {j:Nat} {t:TA} {ts:TS} {e:Expr} {es:List Expr}
end
section
variable {X:Cx}
theorem znT {K:PySem.W.Frag}{o e:Expr}{es:List Expr}{to:TE}{t:TA}{apos cpos:Pos}{name:Str}{T id:String}{r:V→List V→Hp→VK→Prop}(pa:PlainAttrs T)(slot:Slot T name id)(hty:typeOf (.builtin id)=pure (.type "method_descriptor"))(hm:MtR X id r)(ho:Bx (PE X o to))(ha:Bx (PA X (e::es) t))(hK:X.K=K:=by rfl)
  (h1:attributeBase o name X.env (eval o X.env)=eval o X.env:=by rfl)
  (h2:((backTo cpos (starEach (e::es) X.env)).all (fun x=>!x.1) && (backToKw cpos (keywordEach [] X.env)).all (fun x=>x.1.isSome) && decide ((e::es).length+([]:List Keyword).length+(if ([]:List Keyword).isEmpty then 0 else 1) < 30))=true:=by rfl)
  (h3:(apos.endLine==cpos.line)=true:=by rfl) (h4:starEach (e::es) X.env=(false,eval e X.env)::starEach es X.env:=by rfl) (h5:(backTo cpos (starEach es X.env)).any (·.1)=false:=by rfl):
  Bx (PE X (.Call (.Attribute o name apos) (e::es) [] cpos) (tBM K T r to t)):=by subst hK;exact zds pa slot hty hm ho ha h1 h2 h3 h4 h5
end
noncomputable def zb1 (K:PySem.W.Frag) (c:Addr):PySem.W.Frag:=K.filter fun p=>p.1 !=c
theorem zfL {c b:Addr}(h:b≠c):∀ K:PySem.W.Frag,(zb1 K c).lookup b=K.lookup b
 | []=>rfl
 | (a,o)::K=>by
  have ih:=zfL h K
  unfold zb1 at ih ⊢
  by_cases e:a=c
  ·have f:(b==a)=false:=beq_eq_false_iff_ne.mpr fun z=>h (z.trans e)
   rw [qZ (by simp [e]),jT,f]
   exact ih
  ·rw [jK (by simp [e]),jT,jT,ih]
theorem zgi {c:Addr}:∀ K:PySem.W.Frag,(zb1 K c).lookup c=none
 | []=>rfl
 | (a,o)::K=>by
  have ih:=zgi (c:=c) K
  unfold zb1 at ih ⊢
  by_cases e:a=c
  ·rw [qZ (by simp [e])]
   exact ih
  ·rw [jK (by simp [e]),jT,show (c==a)=false from beq_eq_false_iff_ne.mpr (qR e)]
   exact ih
theorem zlh {K:PySem.W.Frag}{c b:Addr}{o:Obj}(h:(zb1 K c).lookup b=some o):b≠c∧K.lookup b=some o:=by
 by_cases e:b=c
 ·rw [e,zgi] at h;cases h
 ·rw [zfL e] at h;exact ⟨e,h⟩
theorem zkD {K:PySem.W.Frag}{c:Addr}{h:Heap}(X:K.In h):(zb1 K c).In h:=fun b o e=>X b o (zlh e).2
theorem TupK.at {K:PySem.W.Frag}{c:Addr}{xs:List Str}(h:TupK K c xs):∃ o vs n,K.lookup c=some o∧o.cls= .type "tuple"∧o.data= .seq vs n∧Vals (xs.map V.str) vs.toList:=by
 unfold TupK at h
 cases e:K.lookup c with
 | none=>rw [e] at h;cases h
 | some o=>
  rw [e] at h
  have h':((o.cls== .type "tuple" && o.dict.isNone) && (match o.data with | .seq vs _=>zcV xs vs.toList | _=>false))=true:=h
  rw [yW,yW] at h'
  obtain ⟨⟨h1,_⟩,h2⟩:=h'
  cases d:o.data with
  | seq vs n=>
   rw [d] at h2
   exact ⟨o,vs,n,rfl,eq_of_beq h1,d,zfK h2⟩
  | _=>rw [d] at h2;cases h2
section
variable {K:PySem.W.Frag} {c:Addr} {xs:List Str}
end
end L2
namespace My
open PySem L2
open PySem.Builtin.Str (occurrences partsBetween strSub subAt)
end My
namespace L2
open PySem PySem.Spec PyProof.Rows
section
variable {X:Cx} {elt tg iter:Expr} {ifs:List Expr} {scope:Scope} {pos:Pos} {N:List Str} {n:Nat} {cap:List Nat} {wi:TI} {g:TG} {tt:TT} {te:TE}
end
section
variable {P:Program} {w:World} {K:PySem.W.Frag} {mg:Str→Option Value} {base:Heap} {N:List Str} {qual:Str} {scope:Scope} {f C:Addr} {cd:Value} {A:Around} {outer:List Env} {s:Shared} {H:Hp} {E:XK}
end
section
variable {X:Cx}
end
section
variable {X:Cx}
variable {D:Addr} {n0:Nat} {cap:List Nat} {σ :St} {g:TG} {tt:TT} {te:TE} {Q:VK} {H1:Hp}
end
section
variable {X:Cx} {pins:List (Addr×Obj)} {σ :St} {H:Hp} {s:Shared}
end
section
variable {X:Cx}
end
section
variable {X:Cx} {C S f:Addr} {k:Nat} {fd:FuncData} {ps:List Str} {sp:Sp} {dvs:List V} {ds:List Value} {nid nid2:String} {bB bB2:List Value} {fx sx n y:Str} {p np hpos cpos epos pos pos':Pos} {b₀ :Stmt} {suite:List Stmt} {i j:Nat} {t:TA} {ts:TS} {e:Expr} {es:List Expr}
end
noncomputable def pairK (c:Nat):List Int:=[((c / 2:Nat):Int),((c % 2:Nat):Int)]
noncomputable def zmN (c:Nat):Int:=reduceHash (Builtin.Tuple.tupleHashOf [hashInt ((c / 2:Nat):Int),hashInt ((c % 2:Nat):Int)])
noncomputable def tabAsk (te:SetTable×List Nat) (c:Nat):Option SetTable.Met:=te.1.probe (fun i=>((te.2[i]?).map zmN).getD 0) (zmN c) (te.1.probeStart (zmN c))
noncomputable def tabPut (te:SetTable×List Nat) (c j:Nat):SetTable×List Nat:=((te.1.put j).1,te.2.take (te.1.put j).2++c::te.2.drop (te.1.put j).2)
noncomputable def zoL (te:SetTable×List Nat) (c:Nat):SetTable×List Nat:=
 match tabAsk te c with
 | some (.empty j none)=>tabPut te c j
 | _=>te
noncomputable def tabAll (led:Bool):List (SetTable×List Nat):=
 let s0:=[((SetTable.fresh 0 0 led,[]):SetTable×List Nat)]
 let nx:=fun (l:List (SetTable×List Nat))=>l.flatMap fun te=>([0,1,2,3].filter fun c=>!te.2.contains c).map fun c=>zoL te c
 s0++nx s0++nx (nx s0)++nx (nx (nx s0))++nx (nx (nx (nx s0)))
noncomputable def entP (p:Nat×Addr):Int×Value:=(zmN p.1,.ref p.2)
noncomputable def esP (L:List (Nat×Addr)):Array (Int×Value):=(L.map entP).toArray
noncomputable def zot (prog:Program) (w:World) (h:Heap) (S:Addr) (led:Bool) (t:SetTable) (L:List (Nat×Addr)):Prop:=
 ∃ o ep,h.get? S=some o∧o.ExactSet∧o.data= .set (esP L) ep t∧(t,L.map jI)∈tabAll led∧∀ p∈L,p.1 < 4∧IsTupleKey (intKind prog w) h (pairK p.1) p.2
section
variable {prog:Program} {w:World} {A:Around} {E:Value→Shared→Prop} {s:Shared}
end
noncomputable def GotP (L xs:List (Nat×Addr)):Prop:=(∀ p∈L,p∈xs)∧(∀ x∈xs,x.1∈L.map jI)∧(L.map jI).Nodup
theorem GotP.nil:GotP [] []:=⟨fun _ h=>h,fun _ h=>(jU h).elim,xN⟩
theorem GotP.old {L xs:List (Nat×Addr)}{x:Nat×Addr}(h:GotP L xs)(hm:x.1∈L.map jI):GotP L (xs++ [x]):=by
 refine ⟨fun p hp=>vP _ (h.1 p hp),fun y hy=>?_,h.2.2⟩
 rcases qG.mp hy with hy | hy
 ·exact h.2.1 y hy
 ·rw [yG.mp hy];exact hm
theorem GotP.new {L L' xs:List (Nat×Addr)}{x:Nat×Addr}(h:GotP L xs)(hm:x.1∉L.map jI)(p:vX L' (x::L)):GotP L' (xs++ [x]):=by
 refine ⟨fun q hq=>?_,fun y hy=>?_,?_⟩
 ·rcases yY.mp (p.mem_iff.mp hq) with rfl | hq
  ·exact jA _ (yG.mpr rfl)
  ·exact vP _ (h.1 q hq)
 ·refine (p.map jI).mem_iff.mpr ?_
  rcases qG.mp hy with hy | hy
  ·exact xW _ (h.2.1 y hy)
  ·rw [yG.mp hy];exact vK
 ·exact (p.map jI).nodup_iff.mpr (xA.mpr ⟨hm,h.2.2⟩)
section
variable {prog:Program} {w:World}
theorem zot.keep {h h':Heap}{I S:Addr}{led:Bool}{t:SetTable}{L:List (Nat×Addr)}(hm:zot prog w h S led t L)(hS:S≠I)(hI:∃ oi,h.get? I=some oi∧oi.cls≠.type "tuple")
  (hk:∀ b o,b≠I→h.get? b=some o→h'.get? b=some o):zot prog w h' S led t L:=by
 obtain ⟨o,ep,ho,hex,hd,htab,hall⟩:=hm
 obtain ⟨oi,e1,e2⟩:=hI
 refine ⟨o,ep,hk _ _ hS ho,hex,hd,htab,fun p hp=>⟨(hall p hp).1,?_⟩⟩
 obtain ⟨o',it,n,e,c,r⟩:=(hall p hp).2
 refine ⟨o',it,n,hk _ _ (fun z=>?_) e,c,r⟩
 rw [z,e1] at e
 cases e
 exact e2 c
end
section
variable {prog:Program} {w:World} {A:Around} {R:Result→Shared→Prop}
end
section
variable {prog:Program} {w:World} {A:Around} {E:Value→Shared→Prop} {s:Shared}
noncomputable def zeD (w:World):Bool:=!w.params.followText "set-order"
theorem zhg (a:Value){Q₁ :Value→Shared→Prop}
  (h:Q₁ (.ref s.heap.objs.size) {s with heap:=s.heap.push {cls:=.type "set",dict:=none,data:=.set #[] 0 (.fresh 0 0 (zeD w))}}):
  codeAny (model prog w) A (.call (.builtin "set.__new__") ⟨[.type "set",a],[]⟩) (wants Q₁ E) s:=by
 refine codeAny_of_tree ?_
 show wpAny _ A.in1 (do checkBuiltinCall "set.__new__" ⟨[.type "set",a],[]⟩;again (.builtin "set.__new__" ⟨[.type "set",a],[]⟩)) _ _ s
 refine yA (wpAny_of_eq (PySem.F.newCall_set_1 a) (yC ⟨plainId_quiet ybr _,codeAny_builtin PySem.F.entry_set_new ?_⟩))
 rw [jL ybr _]
 unfold Builtin.«set.__new__» Builtin.Frozenset.newClass
 have hsub:=sub_set_self
 obtain ⟨hp,g,d,tk,os⟩:=s
 dsimp only
 wp_walk
 refine wpAny_askSetting (yC ?_)
 dsimp only
 simp only [newObj]
 refine yA (wpAny_alloc (yC ?_))
 exact yC h
end
noncomputable def zod (w:World) (h:Heap) (I S:Addr) (ep:Nat) (t:SetTable) (L:List (Nat×Addr)) (i:Nat):Prop:=
 ∃ (o oS:Obj) (slot:Nat),h.get? I=some o∧o.cls= .type "set_iterator"∧o.data= .fields #[.int slot 0,.int i 0,.ref S,.int (L.length:Nat) 0,.int ep 0]∧(w.params.followText "set-order" =false→xY t.place slot=i)∧
  h.get? S=some oS∧oS.data= .set (esP L) ep t
section
variable {prog:Program} {w:World} {A:Around} {E:Value→Shared→Prop} {s:Shared}
theorem zod.at {h h':Heap}{I S:Addr}{ep:Nat}{t:SetTable}{L:List (Nat×Addr)}{i:Nat}(x:zod w h I S ep t L i)(hI:∀ o,h.get? I=some o→h'.get? I=some o)(hS:∀ o,h.get? S=some o→h'.get? S=some o):zod w h' I S ep t L i:=by
 obtain ⟨o,oS,slot,ho,hc,hd,hb,hoS,hdS⟩:=x
 exact ⟨o,oS,slot,hI _ ho,hc,hd,hb,hS _ hoS,hdS⟩
end
section
variable {prog:Program} {w:World} {A:Around} {E:Value→Shared→Prop} {s:Shared}
end
theorem zf3 {α β :Type}{f: α→β}:∀ {vs:List β} {l:List α},vX vs (l.map f)→∃ l2,vX l2 l∧l2.map f=vs
 | [],l,h=>by
  have:l= []:=List.map_eq_nil_iff.mp (List.nil_perm.mp h)
  exact ⟨[],by rw [this],rfl⟩
 | v::r,l,h=>by
  obtain ⟨x,hx,hv⟩:=qE.mp (h.mem_iff.mp (vK (a:=v) (l:=r)))
  obtain ⟨a,b,rfl⟩:=List.append_of_mem hx
  have h2:vX (v::r) (v::((a++b).map f)):=by
   refine h.trans ?_
   rw [yN,qJ,hv,yN]
   exact yba
  obtain ⟨l2,p2,e2⟩:=zf3 (l:=a++b) (vX.cons_inv h2)
  refine ⟨x::l2,(vX.cons x p2).trans yba.symm,?_⟩
  rw [qJ,hv,e2]
section
variable {prog:Program} {w:World} {A:Around} {E:Value→Shared→Prop} {s:Shared}
end
section
variable {prog:Program} {w:World} {A:Around} {E:Value→Shared→Prop} {s:Shared}
end
section
variable {X:Cx} {e:Expr} {te:TE} {p p' pos pos':Pos} {xs xt:Str}
end
section
variable {prog:Program} {w:World} {A:Around} {E:Value→Shared→Prop} {s:Shared}
end
section
variable {X:Cx}
end
end L2
namespace My
open PySem L2
noncomputable def hiV (c:Nat):Int:=((c / 2:Nat):Int)
noncomputable def loV (c:Nat):Int:=((c % 2:Nat):Int)
theorem hi_bit {c:Nat}(h:c < 4):hiV c=0∨hiV c=1:=by
 have:c=0∨c=1∨c=2∨c=3:=by omega
 rcases this with rfl | rfl | rfl | rfl <;> decide
theorem lo_bit {c:Nat}(h:c < 4):loV c=0∨loV c=1:=by
 have:c=0∨c=1∨c=2∨c=3:=by omega
 rcases this with rfl | rfl | rfl | rfl <;> decide
noncomputable def zmX {α :Type} (acc:List (List α)) (legs:List (List α)):List (List α):=legs.foldl (fun rows ps=>rows.flatMap fun r=>ps.map fun p=>r++ [p]) acc
noncomputable def choices {α :Type} (legs:List (List α)):List (List α):=zmX [[]] legs
inductive zdv {α :Type}:List α→List (List α)→Prop
 | nil:zdv [] []
 | cons {x: α} {r:List α} {l:List α} {ls:List (List α)}:x∈l→zdv r ls→zdv (x::r) (l::ls)
theorem zdv.length {α :Type}{r:List α}{ls:List (List α)}(h:zdv r ls):r.length=ls.length:=by
 induction h with
 | nil=>rfl
 | cons _ _ ih=>rw [jE,jE,ih]
theorem zdv.snoc {α :Type}:∀ {r:List α} {ls:List (List α)} {l:List α},zdv r (ls++ [l])↔∃ a x,r=a++ [x]∧zdv a ls∧x∈l
 | r,[],l=>by
  constructor
  ·intro h
   cases h with
   | cons hx hr=>cases hr;exact ⟨[],_,rfl,.nil,hx⟩
  ·rintro ⟨a,x,rfl,ha,hx⟩
   cases ha
   exact .cons hx .nil
 | r,m::ls,l=>by
  constructor
  ·intro h
   cases h with
   | cons hx hr=>
    obtain ⟨a,y,rfl,ha,hy⟩:=zdv.snoc.mp hr
    exact ⟨_::a,y,rfl,.cons hx ha,hy⟩
  ·rintro ⟨a,x,rfl,ha,hx⟩
   cases ha with
   | cons hy ha=>exact .cons hy (zdv.snoc.mpr ⟨_,x,rfl,ha,hx⟩)
noncomputable def zjY (cs:List Nat):Prop:=∀ c∈cs,c < 4
theorem zdv.codes {r:List Nat}{ls:List (List Nat)}(h:zdv r ls)(hc:∀ l∈ls,zjY l):zjY r:=by
 induction h with
 | nil=>exact fun _ h=>(jU h).elim
 | cons hx _ ih=>
  intro c hm
  rcases yY.mp hm with rfl | hm
  ·exact hc _ vK _ hx
  ·exact ih (fun l hl=>hc l (xW _ hl)) c hm
theorem zjY.hi {r:List Nat}(h:zjY r):Bits (r.map hiV):=fun n hn=>by
 obtain ⟨c,hc,rfl⟩:=qE.mp hn
 exact hi_bit (h c hc)
theorem zjY.lo {r:List Nat}(h:zjY r):Bits (r.map loV):=fun n hn=>by
 obtain ⟨c,hc,rfl⟩:=qE.mp hn
 exact lo_bit (h c hc)
end My
namespace L2
open PySem PySem.Spec PyProof.Rows
section
variable {prog:Program} {w:World} {A:Around} {R:Result→Shared→Prop} {I:Addr} {fp wr:List Addr} {n:Nat} {P:Nat→Value→Prop} {St:Nat→Heap→Prop}
end
section
variable {prog:Program} {w:World} {A:Around} {E:Value→Shared→Prop} {s:Shared} {l:Addr} {xs:Array (Int×Tok)}
end
theorem DPut.r {H:Hp}{a b:Addr}{kvs:List (List Key×V)}{k:List Key}{v:V}(e:H a=some (.dT kvs))(eb:RdT H b (k.map kV))(hl:kvs.length < yK):DPut H a (.ref b) v (upd H a (.dT (putK kvs k v))):=.inr ⟨kvs,k,b,e,rfl,eb,hl,rfl⟩
section
variable {X:Cx}
end
open PySem.W (Dat kqdP kqdPs kqdOk)
section
variable {X:Cx}
end
end L2
namespace L2
open PySem PySem.Spec PyProof.Rows
section
variable {prog:Program} {w:World} {A:Around} {E:Value→Shared→Prop} {s:Shared}
end
section
variable {X:Cx}
end
section
open PySem.SeqAt
open PySem.AutoSeq1 (wpAny_loadPart')
open PySem.MeetsSeq PySem.MeetsSeq2 PySem.MeetsSeq3
end
section
variable {prog:Program} {w:World} {A:Around} {E:Value→Shared→Prop} {s:Shared}
end
section
variable {X:Cx}
end
end L2
namespace My
open PySem L2
open PySem.W (Dat kqdP kqdPs kqdOk)
section
variable {m:Nat} {a b:zas} {fs gs:List Flt}
end
end My
namespace My
open PySem L2
open PySem.W (Dat kqdP kqdPs kqdOk)
section
variable {m:Nat} {w:zas} {st F:List Flt} {row:List Int}
end
section
variable {m:Nat} {w:zas} {keep:Nat→Bool} {fs:List Flt} {row:List Int}
end
end My
namespace L2
open PySem PySem.Spec PyProof.Rows
section
variable {M:Model} {A:Around} {E:Value→Shared→Prop}
variable {nm q nm2 q2:Str} {C N S N2:Addr} {bs bm bs2 bm2:List Value} {hdct hd2:Bool} {sn sn2:List Str} {sub sub2:List Value} {ab ab2:Bool} {col col2:Option Bool} {dd dd2:Option Addr} {k0 k1 k2 k3 k5 l0 l1 l2 l3 l5:Option Value} {newId newId2:String}
end
section
variable {X:Cx} {pins:List (Addr×Obj)} {σ :St} {H1:Hp} {s1 s':Shared} {C S:Addr} {nid nid2:String} {bB bB2:List Value} {sx n:Str} {np hpos:Pos} {b₀ :Stmt} {suite:List Stmt} {j:Nat} {ts:TS} {D:Ends} {E':XK} {e:Value}
end
section
variable {X:Cx} {C S f:Addr} {k k2:Nat} {fd:FuncData} {ps:List Str} {spG spX:Sp} {dvs:List V} {ds:List Value} {nid nid2:String} {bB bB2:List Value} {fx sx n:Str} {p np hpos cpos epos pos:Pos} {b₀ :Stmt} {suite body a b:List Stmt} {j:Nat} {ta:TA} {tc:TT} {ts:TS} {t u:(Addr→Hp→Prop)→TS} {e c:Expr} {es:List Expr}
end
section
variable {X:Cx} {pins:List (Addr×Obj)} {σ :St} {H:Hp} {s:Shared}
end
section
variable {X:Cx}
end
section
variable {X:Cx} {e l k:Expr} {te tl tk:TE} {pos p2:Pos}
end
section
variable {D:Addr} {n0:Nat} {cap:List Nat} {σ :St} {g:TG} {tt:TT} {te:TE} {Q:VK} {H1:Hp}
end
section
variable {X:Cx} {elt tg iter:Expr} {ifs:List Expr} {scope:Scope} {pos:Pos} {N:List Str} {n:Nat} {cap:List Nat} {wi:TI} {g:TG} {tt:TT} {te:TE}
end
section
variable {X:Cx}
end
section
variable {X:Cx} {pins:List (Addr×Obj)} {σ :St} {H:Hp} {s:Shared}
end
section
variable {X:Cx}
end
section
variable {prog:Program} {w:World} {A:Around} {E:Value→Shared→Prop} {s:Shared}
end
section
variable {X:Cx} {k1 v1 k2 v2 e f:Expr} {tk1 tv1 tk2 tv2 te tf:TE} {dp apos cpos:Pos}
end
section
variable {X:Cx} {CX:CXT} {k:Nat} {f C:Addr} {fd:FuncData} {ps:List Str} {ds:List Value} {dvs:List V} {sp:Sp} {E:XK} {x m:Str} {p pos apos pos':Pos} {e o value:Expr} {es:List Expr} {ta tv:TE} {t:TA}
end
section
variable {X:Cx} {C0 C S f:Addr} {k:Nat} {fd:FuncData} {ps:List Str} {sp:Sp} {dvs:List V} {ds:List Value} {nid nid2:String} {bB bB2:List Value} {m sx n y:Str} {p np hpos cpos apos epos pos pos':Pos} {b₀ :Stmt} {suite:List Stmt} {i j:Nat} {ta:TE} {t:TA} {ts:TS} {o e:Expr} {es:List Expr}
end
section
variable {X:Cx} {C0 C S f:Addr} {k2:Nat} {fd:FuncData} {ps:List Str} {sp:Sp} {dvs:List V} {ds:List Value} {nid nid2:String} {bB bB2:List Value} {m sx n y:Str} {p np hpos cpos apos epos pos pos':Pos} {b₀ :Stmt} {suite:List Stmt} {k j:Nat} {ta:TE} {t:TA} {ts:TS} {o e:Expr} {es:List Expr}
end
section
variable {prog:Program} {w:World} {A:Around} {E:Value→Shared→Prop} {s:Shared} {R:Result→Shared→Prop} {I S:Addr} {fp wr:List Addr} {G:Array GenState→Array GenState→Prop} {P:Nat→Value→Prop} {St:Nat→Shared→Prop} {zs:List Str}
noncomputable abbrev zoc (prog:Program) (w:World) (h:Heap) (S:Addr) (l:List Str):Prop:=h.SetOf (PySem.strKind prog w) S (fun k=>decide (k∈l)) l.length
theorem zoc.on {h h':Heap}{l:List Str}(q:zoc prog w h S l)(k:∀ o,h.get? S=some o→h'.get? S=some o):zoc prog w h' S l:=by
 obtain ⟨o,es,ep,tb,ho,r⟩:=q
 exact ⟨o,es,ep,tb,k _ ho,r⟩
end
section
variable {X:Cx} {e:Expr} {te:TE} {p p' pos pos':Pos}
end
section
variable {β :Type}
noncomputable def zol (m:Nat) (f:Nat→Option β):List β :=(qI m).filterMap f
noncomputable def zff (m:Nat) (f:Nat→Option β):List Nat:=(qI m).filterMap fun j=>(f j).map fun _=>j
theorem zmh (m:Nat)(f:Nat→Option β):(zol m f).length=(zff m f).length:=by
 unfold zol zff
 rw [yah,yah]
 refine List.countP_congr fun a _=>?_
 cases f a <;> simp
end
noncomputable def zit (mask:Nat) (p:xP):xP:=
 if p.more > 0 then {p with j:=p.j+1,more:=p.more - 1} else
 {p with j:=(p.i * 5+1+p.perturb / 32) % (mask+1),more:=wU mask ((p.i * 5+1+p.perturb / 32) % (mask+1)) - (p.i * 5+1+p.perturb / 32) % (mask+1),i:=(p.i * 5+1+p.perturb / 32) % (mask+1),perturb:=p.perturb / 32}
noncomputable def zee (mask:Nat) (p:xP):Nat→xP
 | 0=>p
 | n+1=>zee mask (zit mask p) n
theorem zfp (mask:Nat):∀ (a b:Nat) (p:xP),zee mask p (a+b)=zee mask (zee mask p a) b
 | 0,b,p=>by rw [Nat.zero_add];rfl
 | a+1,b,p=>by
  rw [Nat.add_right_comm]
  exact zfp mask a b (zit mask p)
noncomputable def runP (mask i q:Nat):xP:={j:=i,more:=wU mask i - i,i,perturb:=q,dummy:=none}
theorem zml (mask i:Nat):wU mask i - i≤9:=by
 unfold wU
 split <;> omega
theorem zjj (mask:Nat):∀ (k:Nat) (p:xP),p.more=k→p.dummy=none→zee mask p (k+1)=runP mask ((p.i * 5+1+p.perturb / 32) % (mask+1)) (p.perturb / 32)
 | 0,p,h,d=>by
  show zit mask p=_
  unfold zit runP
  rw [if_neg (by omega),d]
 | k+1,p,h,d=>by
  show zee mask (zit mask p) (k+1)=_
  have e:zit mask p= {p with j:=p.j+1,more:=p.more - 1}:=if_pos (by omega)
  rw [e]
  exact zjj mask k {p with j:=p.j+1,more:=p.more - 1} (by show p.more - 1=k;omega) d
theorem leaps (mask:Nat):∀ (n i q:Nat),i≤mask→∃ m i',m≤10 * n∧i'≤mask∧zee mask (runP mask i q) m=runP mask i' (q / 32 ^ n)
 | 0,i,q,h=>⟨0,i,yL _,h,by rw [Nat.pow_zero,Nat.div_one];rfl⟩
 | n+1,i,q,h=>by
  have hl:=zjj mask _ (runP mask i q) rfl rfl
  have hm:=zml mask i
  have lt:(i * 5+1+q / 32) % (mask+1)≤mask:=ybY (yci _ (yb3 _))
  obtain ⟨m,i',h1,h2,h3⟩:=leaps mask n ((i * 5+1+q / 32) % (mask+1)) (q / 32) lt
  refine ⟨(wU mask i - i+1)+m,i',by omega,h2,?_⟩
  rw [zfp]
  show zee mask (zee mask (runP mask i q) ((runP mask i q).more+1)) m=_
  rw [hl]
  show zee mask (runP mask ((i * 5+1+q / 32) % (mask+1)) (q / 32)) m=_
  rw [h3,Nat.div_div_eq_div_mul,ybn,yb2]
noncomputable def zmj (mask:Nat):Nat→xP→List Nat
 | 0,_=>[]
 | n+1,p=>p.j::zmj mask n (zit mask p)
theorem zgW {mask j:Nat}:∀ {n:Nat} {p:xP},j∈zmj mask n p→∃ m,m < n∧(zee mask p m).j=j
 | n+1,p,h=>by
  rcases yY.mp h with rfl | h
  ·exact ⟨0,yb3 _,rfl⟩
  ·obtain ⟨m,h1,h2⟩:=zgW h
   exact ⟨m+1,by omega,h2⟩
theorem cover7:((qI 8).all fun i=>(qI 8).all fun j=>(zmj 7 8 (runP 7 i 0)).contains j)=true:=by decide+kernel
theorem zoS:((qI 32).all fun i=>(qI 32).all fun j=>(zmj 31 320 (runP 31 i 0)).contains j)=true:=by decide+kernel
theorem zjX (h:Int):kH h / 32 ^ 13=0:=by
 refine Nat.div_eq_of_lt ?_
 unfold kH
 have h1:=wV h (b:=2 ^ 64) (by decide)
 have h2:=kN h (b:=2 ^ 64) (by decide)
 have:((2:Int) ^ 64) < ((32 ^ 13:Nat):Int):=by decide
 omega
theorem cover {mask:Nat}(hm:mask=7∨mask=31)(h:Int){j:Nat}(hj:j≤mask):∃ m,m < 10 * ybF mask∧(zee mask (runP mask (kH h % (mask+1)) (kH h)) m).j=j:=by
 obtain ⟨m,i,h1,h2,h3⟩:=leaps mask 13 (kH h % (mask+1)) (kH h) (ybY (yci _ (yb3 _)))
 rw [zjX] at h3
 rcases hm with rfl | rfl
 ·have c:=yZ.mp (yZ.mp cover7 i (qN.mpr (by omega))) j (qN.mpr (by omega))
  obtain ⟨k,k1,k2⟩:=zgW (ybs.mp c)
  refine ⟨m+k,by show _ < 10 * (7+15);omega,?_⟩
  rw [zfp,h3,k2]
 ·have c:=yZ.mp (yZ.mp zoS i (qN.mpr (by omega))) j (qN.mpr (by omega))
  obtain ⟨k,k1,k2⟩:=zgW (ybs.mp c)
  refine ⟨m+k,by show _ < 10 * (31+15);omega,?_⟩
  rw [zfp,h3,k2]
noncomputable abbrev wkT (mask:Nat) (h:Int) (m:Nat):xP:=zee mask (runP mask (kH h % (mask+1)) (kH h)) m
theorem zix {β :Type}{mask:Nat}(hm:mask=7∨mask=31){f:Nat→Option β}(h:Int)(he:∃ j,j≤mask∧f j=none):∃ ms,ms < 10 * ybF mask∧f (wkT mask h ms).j=none∧∀ m,m < ms→∃ b,f (wkT mask h m).j=some b:=by
 obtain ⟨j,hj,fj⟩:=he
 obtain ⟨m,hm1,hm2⟩:=cover hm h hj
 have ex:∃ m,f (wkT mask h m).j=none:=⟨m,by show f (zee mask _ m).j=none;rw [hm2];exact fj⟩
 have some_first:∀ n,(∃ m,m≤n∧f (wkT mask h m).j=none)→∃ ms,ms≤n∧f (wkT mask h ms).j=none∧∀ m,m < ms→∃ b,f (wkT mask h m).j=some b:=by
  intro n
  induction n with
  | zero=>
   rintro ⟨m,h1,h2⟩
   obtain rfl:m=0:=by omega
   exact ⟨0,yL _,h2,fun m h=>absurd h (yaD _)⟩
  | succ n ih=>
   rintro ⟨m,h1,h2⟩
   by_cases c:∃ m,m≤n∧f (wkT mask h m).j=none
   ·obtain ⟨ms,a,b,d⟩:=ih c
    exact ⟨ms,by omega,b,d⟩
   ·have:m=n+1:=yaR fun z=>c ⟨m,by omega,h2⟩
    subst this
    refine ⟨n+1,yL _,h2,fun m' h'=>?_⟩
    cases hf:f (wkT mask h m').j with
    | none=>exact absurd ⟨m',by omega,hf⟩ c
    | some b=>exact ⟨b,rfl⟩
 obtain ⟨ms,a,b,d⟩:=some_first m ⟨m,yL _,by show f (zee mask _ m).j=none;rw [hm2];exact fj⟩
 exact ⟨ms,by omega,b,d⟩
theorem zlE {β :Type}{m:Nat}{f:Nat→Option β}(h:(zff m f).length < m):∃ j,j < m∧f j=none:=by
 refine yaR fun c=>?_
 have:zff m f=qI m:=by
  unfold zff
  have:∀ l:List Nat,(∀ j∈l,j < m)→(l.filterMap fun j=>(f j).map fun _=>j)=l:=by
   intro l
   induction l with
   | nil=>exact fun _=>rfl
   | cons a l ih=>
    intro hl
    rw [wH]
    cases hf:f a with
    | none=>exact absurd ⟨a,hl a (.head _),hf⟩ c
    | some b=>
     show a::_=_
     rw [ih fun j hj=>hl j (.tail _ hj)]
  exact this _ fun j hj=>qN.mp hj
 rw [this,xH] at h
 omega
section
variable {prog:Program} {w:World} {A:Around} {E:Value→Shared→Prop} {s:Shared}
noncomputable abbrev zoC (prog:Program) (w:World) (k:List Key):Int:=tupleKeyHash (zaG prog w) k
noncomputable def entX (prog:Program) (w:World) (x:List Key×Addr):Int×Value:=(zoC prog w x.1,Value.ref x.2)
noncomputable def zmM (prog:Program) (w:World) (m:Nat) (f:Nat→Option (List Key×Addr)):Array (Int×Value):=((zol m f).map (entX prog w)).toArray
structure TbS (prog:Program) (w:World) (h:Heap) (S:Addr) (t:SetTable) (f:Nat→Option (List Key×Addr)):Prop where
 here:∃ o ep,h.get? S=some o∧o.ExactSet∧o.data= .set (zmM prog w (t.mask+1) f) ep t
 mask:t.mask=7∨t.mask=31
 place:t.place=(zff (t.mask+1) f).toArray
 dum:t.dummies= #[]
 room:(zff (t.mask+1) f).length * 5 < t.mask * 3
 keys:∀ j x,f j=some x→j < t.mask+1∧IsTupleKey (zaG prog w) h x.1 x.2
 one:∀ i j x y,f i=some x→f j=some y→x.1=y.1→i=j
 reach:∀ j x,f j=some x→∃ m,(wkT t.mask (zoC prog w x.1) m).j=j∧∀ m',m' < m→∃ y,f (wkT t.mask (zoC prog w x.1) m').j=some y
theorem TbS.fits {h:Heap}{S:Addr}{t:SetTable}{f:Nat→Option (List Key×Addr)}(T:TbS prog w h S t f):t.fits (zmM prog w (t.mask+1) f).size=true:=by
 have e:(zmM prog w (t.mask+1) f).size=(zff (t.mask+1) f).length:=by
  unfold zmM
  rw [yP,yB,zmh]
 have r:=T.room
 have m:=T.mask
 unfold SetTable.fits SetTable.fill
 rw [e,T.place,T.dum,yP]
 simp only [yW,beq_self_eq_true,true_and,decide_eq_true_eq]
 show _+0≤_
 omega
theorem TbS.empty {h:Heap}{S:Addr}{t:SetTable}{f:Nat→Option (List Key×Addr)}(T:TbS prog w h S t f)(hs:Int):∃ ms,ms < 10 * ybF t.mask∧f (wkT t.mask hs ms).j=none∧∀ m,m < ms→∃ b,f (wkT t.mask hs m).j=some b:=by
 obtain ⟨j,h1,h2⟩:=zlE (f:=f) (m:=t.mask+1) (by have:=T.room;have:=T.mask;omega)
 exact zix T.mask hs ⟨j,by omega,h2⟩
end
section
variable {prog:Program} {w:World} {A:Around} {E:Value→Shared→Prop} {s:Shared}
theorem zgD {h:Heap}{S:Addr}{o:Obj}{es es':Array (Int×Value)}{ep:Nat}{t t':SetTable}(ho:h.get? S=some o)(hx:o.ExactSet)(hd:o.data= .set es ep t):(h.update S (ycj es' t')).get? S=some {o with data:=.set es' (ep+1) t'}:=by
 have:=xC (ycj es' t') ho (by rw [putSet_of _ _ hd];rfl)
 rw [putSet_of _ _ hd] at this
 exact this
end
section
variable {prog:Program} {w:World} {A:Around} {E:Value→Shared→Prop} {s:Shared} {R:Result→Shared→Prop} {I S:Addr} {fp wr:List Addr} {G:Array GenState→Array GenState→Prop} {P:Nat→Value→Prop} {St:Nat→Shared→Prop} {zs:List (List Key×Addr)} {h0:Heap}
end
section
variable {X:Cx} {e:Expr} {te:TE} {p p' pos pos':Pos}
end
noncomputable def zku (X:Cx) (A:Around) (N:List Str) (qual:Str) (scope:Scope) (cl:List (Str×Addr)) (f:Addr) (cd:Value) (s:Shared) (H:Hp):Cx where
 prog:=X.prog
 w:=X.w
 K:=X.K
 mg:=X.mg
 base:=X.base
 A:=A.deeper (PySem.W.envX qual scope s.heap.objs.size f cd cl)
 N:=N
 s₀ :=s
 H₀ :=H
 env:=PySem.W.envX qual scope s.heap.objs.size f cd cl
 outer:=X.stack
 stack:=PySem.W.envX qual scope s.heap.objs.size f cd cl::X.stack
 ex:=[]
 fn:=fun _=>false
 calm:=true
 pn:=[]
 xe:=fun _ _=>False
noncomputable def zle (v:V) (cap:List Nat) (σ :St):St:=some v::cap.map fun j=>(σ[j]?).join
section
variable {X:Cx} {pins:List (Addr×Obj)} {σ :St} {H:Hp} {s:Shared}
theorem lam_ok {A:Around}{N:List Str}{qual:Str}{scope:Scope}{cap:List Nat}{cl:List (Str×Addr)}{f:Addr}{cd:Value}(I:Inv X pins σ H s)(B:Blk X scope N 1 cap)(hf:A.frames=some X.stack)(hh:A.handled=none)
  (c1:∀ x c,cl.lookup x=some c→X.env.cells.lookup x=some c) (c2:∀ y∈scope.names,y.2= .free→∃ c,cl.lookup y.1=some c):(zku X A N qual scope cl f cd s H).Ok where
 mod:=I.ok.mod
 kind:=B.kind
 glob:=rfl
 blt:=rfl
 above:=yL _
 inj:=fun x y c e1 e2=>I.ok.inj x y c (c1 x c e1) (c1 y c e2)
 has:=fun x h=>by
  have h:scope.names.lookup x=some .cell∨scope.names.lookup x=some .free:=h
  rcases h with h | h
  ·exact absurd rfl (B.cell _ (xB h))
  ·exact c2 _ (xB h) rfl
 cab:=fun x c h=>nomatch h
 hd:=fun _=>hh
 frames:=ybz hf
 stk:=.inr ⟨rfl,rfl⟩
 exf:=fun b hb=>absurd (show b∈([]:List Addr) from hb) (by simp)
 bs:=I.bs
 bsz:=jY I.ok.bsz I.sz
 noex:=fun b o e hb=>absurd (show b∈([]:List Addr) from hb) (by simp)
 exfs:=fun b hb=>absurd (show b∈([]:List Addr) from hb) (by simp)
 funs:=I.stack
 frf:=I.stkFree
theorem zlr {A:Around}{N:List Str}{qual:Str}{scope:Scope}{cap:List Nat}{cl:List (Str×Addr)}{f:Addr}{cd:Value}{h1:Heap}{t1:Nat}{x:Str}{v:V}{u:Value}(I:Inv X pins σ H s)(B:Blk X scope N 1 cap)
  (hf:A.frames=some X.stack) (hh:A.handled=none)
  (c1:∀ x c,cl.lookup x=some c→X.env.cells.lookup x=some c) (c2:∀ y∈scope.names,y.2= .free→∃ c,cl.lookup y.1=some c) (hN:N[0]? =some x) (hx:scope.names.lookup x=some .local) (r:RelV v u)
  (hn:h1.Ns s.heap.objs.size (fun y=>[(x,u)].reverse.lookup y)) (k:∀ b o,s.heap.get? b=some o→h1.get? b=some o):
  Inv (zku X A N qual scope cl f cd s H) [] (zle v cap σ) H {s with heap:=h1,toks:=t1} where
 ok:=lam_ok I B hf hh c1 c2
 os:=rfl
 bare:=I.bare
 base:=Un.kept k
 loc:=by
  refine ⟨_,hn,fun i y v' e1 e2 e3=>?_⟩
  cases i with
  | zero=>
   have e1:N[0]? =some y:=e1
   rw [hN] at e1
   cases e1
   have e2:some (some v)=some (some v'):=e2
   cases e2
   exact ⟨u,r,.inl ⟨hx,by simp [jT]⟩⟩
  | succ k'=>
   have e2:(cap.map fun j=>(σ[j]?).join)[k']? =some (some v'):=e2
   rw [yJ] at e2
   cases ec:cap[k']? with
   | none=>rw [ec] at e2;cases e2
   | some j=>
    rw [ec] at e2
    have e2:(σ[j]?).join=some v':=qF e2
    have es: σ[j]? =some (some v'):=by
     cases q: σ[j]? with
     | none=>rw [q] at e2;cases e2
     | some o=>rw [q] at e2;exact congrArg some e2
    have e1:N[k'+1]? =some y:=e1
    obtain ⟨ex,ef⟩:=B.caps k' j y ec (by rw [Nat.add_comm];exact e1)
    have kx:X.env.kindOf y=some .cell∨X.env.kindOf y=some .free:=B.free _ (xB ef) rfl
    obtain ⟨m0,_,hl⟩:=I.loc
    obtain ⟨u',r',l⟩:=hl j y v' ex es (.inr kx)
    refine ⟨u',r',.inr ⟨.inr ef,?_⟩⟩
    rcases l with ⟨kl,_⟩ | ⟨_,c,hc,ho⟩
    ·rcases kx with q | q <;> (rw [kl] at q;cases q)
    ·obtain ⟨c',hc'⟩:=c2 _ (xB ef) rfl
     have:=c1 y c' hc'
     rw [hc] at this
     cases this
     obtain ⟨o,eo,d⟩:=ho
     exact ⟨c,hc',o,k c o eo,d⟩
 cell:=fun x c e=>by
  obtain ⟨v,o,eo,d⟩:=I.cell x c (c1 x c e)
  exact ⟨v,o,k c o eo,d⟩
 free:=I.hok.fresh (yL _)
 freeC:=fun x c e=>I.freeC x c (c1 x c e)
 pin:=fun p hp=>absurd (show p∈([]:List (Addr×Obj)) from hp) (by simp)
 hok:=I.hok.kept k
 len:=by show (zle v cap σ).length=N.length;rw [B.len];unfold zle;simp;omega
theorem zmO {A:Around}{N:List Str}{name qual:Str}{params:Arguments}{body:Expr}{scope:Scope}{cap:List Nat}{cl:List (Str×Addr)}{f:Addr}{pm cdv ct:Value}{oc:Obj}{x:Str}{v:V}{u:Value}{te:TE}{Q:VK}
  (I:Inv X pins σ H s) (B:Blk X scope N 1 cap) (hf:A.frames=some X.stack) (hh:A.handled=none) (hroom:A.depth < recursionLimit) (hco:scope.isCoroutine=false) (hgen:scope.isGenerator=false)
  (c1:∀ x c,cl.lookup x=some c→X.env.cells.lookup x=some c) (c2:∀ y∈scope.names,y.2= .free→∃ c,cl.lookup y.1=some c) (hN:N[0]? =some x) (hx:scope.names.lookup x=some .local)
  (ho:s.heap.get? f=some oc) (hod:oc.data= .func (PySem.W.kla_fn name qual params body scope cl pm cdv ct)) (hcd:s.heap.CodeRec cdv qual)
  (hb:∀ u,bindArgs (PySem.W.kla_fn name qual params body scope cl pm cdv ct) ⟨[u],[]⟩=pure [(x,u)])
  (he:∀ s,PE (zku X A N qual scope cl f cdv s H) body te) (r:RelV v u) (h:te (zle v cap σ) H Q):
  wpAny (model X.prog X.w) A (call (.ref f) [u]) (fun z s'=>∃ y H',Inv X pins σ H' s'∧Un (frs X.stack) [] H H' s.heap s'.heap∧RelV y z∧Q y H') (fun _ _=>False) s:=by
 refine wpAny_call (PySem.W.kla_callFunE hroom ho hod hco hgen rfl hcd ?_)
 rw [hb]
 refine yC (wpAny_newFunctionEnv B.cell (fun y hy=>?_) (fun h1 n1 sb=>⟨(I.nolimit).fresh _ sb,?_⟩) B.kind)
 ·have:y=(x,u):=by simpa using hy
  subst this
  exact hx
 ·show codeAny _ _ (.expr body (PySem.W.envX qual scope s.heap.objs.size f cdv cl)) _ _
  have k1:∀ b o,s.heap.get? b=some o→h1.get? b=some o:=fun b o e=>sb.extBut b o (qA (yS e)) (yD _ e)
  have I1:=zlr (A:=A) (qual:=qual) (f:=f) (cd:=cdv) (t1:=s.toks+ [(x,u)].length) I B hf hh c1 c2 hN hx r n1 k1
  refine PySem.W.kla_codeExpr (wpAny_mono (he s [] _ _ H Q I1 h) (fun z s' ⟨y,H',I',ry,q⟩=>?_) fun _ _ z=>z.elim)
  have un:Un (frs X.stack) [] H H' s.heap s'.heap:=I'.base
  exact ⟨y,H',I.call' (ch:=[]) I'.os un I'.hok I'.bare (fun b z=>absurd z (by simp)),un,ry,q⟩
end
noncomputable def zf4 (c:Addr) (qual:Str):Heap→Prop:=fun h=>∃ o vs t,h.get? c=some o∧o.data= .fields vs∧vs[1]? =some (.str qual t)
noncomputable def zbO (P:Addr) (pos:Pos) (qual:Str) (H:Hp):Prop:=∃ ps,H P=some (.tbl ps)∧TriplesOk ps.toList∧
 (codeAmong pos ps.toList=none∨∃ c,codeAmong pos ps.toList=some (.ref c)∧H c=some (.ext (zf4 c qual)))
noncomputable def SamP (P:Addr) (H H':Hp):Prop:=∀ b o,b≠P→H b=some o→H' b=some o
theorem SamP.refl {P:Addr}(H:Hp):SamP P H H:=fun _ _ _ e=>e
theorem SamP.trans {P:Addr}{H H1 H2:Hp}(a:SamP P H H1)(b:SamP P H1 H2):SamP P H H2:=fun c o n e=>b c o n (a c o n e)
theorem Same.samP {P:Addr}{H H':Hp}(a:Same H H'):SamP P H H':=fun c o _ e=>a c o e
theorem zbO.same {P:Addr}{pos:Pos}{qual:Str}{H H':Hp}(t:zbO P pos qual H)(a:Same H H'):zbO P pos qual H':=by
 obtain ⟨ps,e,ok,h⟩:=t
 refine ⟨ps,a _ _ e,ok,?_⟩
 rcases h with h | ⟨c,h1,h2⟩
 ·exact .inl h
 ·exact .inr ⟨c,h1,a _ _ h2⟩
section
variable {X:Cx} {pins:List (Addr×Obj)} {σ :St} {H:Hp} {s:Shared}
theorem Inv.tabled {P c:Addr}{ps more:Array Value}{qual:Str}{h':Heap}{t':Nat}(I:Inv X pins σ H s)(hP:H P=some (.tbl ps))(hx:ya5 P s.heap h')(hc:s.heap.objs.size≤c)(hrec:zf4 c qual h')
  (hP':h'.get? P=some (PySem.W.tabObj (ps++more))):
  Inv X pins σ (upd (upd H c (.ext (zf4 c qual))) P (.tbl (ps++more))) {s with heap:=h',toks:=t'}:=by
 have hcn:H c=none:=I.hok.fresh hc
 have PltS:=I.hok.lt hP
 have cP:c≠P:=fun z=>by rw [z,hP] at hcn;cases hcn
 have old:∀ b o,b≠P→s.heap.get? b=some o→h'.get? b=some o:=fun b o n e=>hx b o n e
 have outH:∀ b,b≠P→b≠c→upd (upd H c (.ext (zf4 c qual))) P (.tbl (ps++more)) b=H b:=fun b n1 n2=>by rw [zah n1,zah n2]
 have ltc:∀ {b:Addr} {o:Obj},s.heap.get? b=some o→b≠c:=fun e=>qA (qB (yS e) hc)
 have nP:∀ {b:Addr} {u:HO},H b=some u→(∀ q,u≠.tbl q)→b≠P:=fun {b u} e n z=>by rw [z,hP] at e;cases e;exact n ps rfl
 have nC:∀ {b:Addr} {u:HO},H b=some u→b≠c:=fun {b u} e z=>by rw [z,hcn] at e;cases e
 refine I.un (t':=t') ⟨fun b o e n _ _=>old b o (fun z=>by rw [z,hP] at n;cases n) e,fun b o e n _ _=>⟨o.slots,old b o (fun z=>by rw [z,hP] at n;cases n) e⟩,
  fun b o e n _=>by rw [outH b (fun z=>by rw [z,hP] at n;cases n) (ltc e)];exact n,fun b o e _=>?_,fun b xs e=>by rw [outH b (nP e fun q z=>by cases z) (nC e)];exact e,
  fun b o u e=>by rw [outH b (nP e fun q z=>by cases z) (nC e)];exact e,fun b qs e=>?_⟩ fun b u e=>?_
 ·by_cases hb:b=P
  ·exact ⟨_,hb ▸ hP'⟩
  ·exact ⟨o,old b o hb e⟩
 ·by_cases hb:b=P
  ·subst hb
   rw [hP] at e;cases e
   exact ⟨more,zab⟩
  ·exact ⟨#[],by rw [outH b hb (nC e),e];simp⟩
 ·by_cases hb:b=P
  ·subst hb
   rw [zab] at e;cases e
   exact hP'
  ·by_cases hb2:b=c
   ·subst hb2
    rw [zah hb,zab] at e;cases e
    obtain ⟨o,vs,t,e1,e2,e3⟩:=hrec
    exact ⟨⟨o,vs,t,e1,e2,e3⟩,⟨o,e1⟩,fun h1 h2 ⟨o,vs,t,e1,e2,e3⟩ k=>⟨o,vs,t,k o e1,e2,e3⟩⟩
   ·rw [outH b hb hb2] at e
    refine (I.hok b u e).stay (fun d v hd q=>old d v ?_ q) (fun d q=>?_) fun d xs q=>?_
    ·rcases hd with rfl | hd
     ·exact hb
     ·exact nP hd fun q z=>by cases z
    ·rw [outH d (nP q fun q z=>by cases z) (nC q)];exact q
    ·rcases q with q | ⟨o,q⟩
     ·exact .inl (by rw [outH d (nP q fun q z=>by cases z) (nC q)];exact q)
     ·exact .inr ⟨o,by rw [outH d (nP q fun q z=>by cases z) (nC q)];exact q⟩
structure BltK (K:PySem.W.Frag) (mg:Str→Option Value) (b:Addr):Prop where
 ns:mg "__builtins__" =some (.ref b)
 ne:b≠builtinsNs
 ob:∃ o,K.lookup b=some o∧o.cls= .type "module"∧o.dict=some builtinsNs∧o.data= .plain
theorem zmH {P c b:Addr}{pos:Pos}{params:Arguments}{body:Expr}{scope:Scope}{N:List Str}{cap:List Nat}{E:Value→Shared→Prop}{Q:Value→Shared→Prop}
  (I:Inv X pins σ H s) (B:Blk X scope N 1 cap) (hcode:X.env.code= .ref c) (C:PySem.W.CodeHd X.base c P) (hb:BltK X.K X.mg b) (t:zbO P pos (X.env.qual++"<lambda>") H) (hdef:defaultsOf params X.env=([],[]))
  (h:∀ (f:Addr) (cl:List (Str×Addr)) (cdv ctv:Value) (H':Hp) (s':Shared),(∀ x c,cl.lookup x=some c→X.env.cells.lookup x=some c)→(∀ y∈scope.names,y.2= .free→∃ c,cl.lookup y.1=some c)→
   SamP P H H'→zbO P pos (X.env.qual++"<lambda>") H'→Inv X pins σ H' s'→FpOk X pins H' f→
   s'.heap.get? f=some {cls:=.type "function",data:=.func (PySem.W.kla_fn "<lambda>" (X.env.qual++"<lambda>") params body scope cl ((X.mg "__name__").getD .none) cdv ctv)}→
   (∃ c',cdv= .ref c'∧H' c'=some (.ext (zf4 c' (X.env.qual++"<lambda>"))))→Q (.ref f) s'):
  wpAny (model X.prog X.w) X.A (eval (.Lambda params body scope pos) X.env) Q E s:=by
 refine PySem.W.kla_eval hdef ?_
 obtain ⟨cl,ecl,c1,c2⟩:=zeS (scope:=scope) (env:=X.env) fun y hy hf=>I.ok.has _ (B.free y hy hf)
 obtain ⟨ps,hP,ok,hh⟩:=t
 have hPo:s.heap.get? P=some (PySem.W.tabObj ps):=I.hok P _ hP
 have hg:=I.ok.mod.glob.keeps I.bk
 have hgP:qQ≠P:=fun q=>by
  obtain ⟨o,es,ep,e,hd,_⟩:=hg
  rw [q,hPo] at e;cases e;cases hd
 obtain ⟨ob,eb,b1,b2,b3⟩:=hb.ob
 have hbm:=hb.ns
 have hbo:=I.kIn _ _ eb
 have hbP:b≠P:=fun q=>by rw [q,hPo] at hbo;cases hbo;cases b1
 have hbG:b≠qQ:=fun q=>by
  obtain ⟨o,es,ep,e,hd,_⟩:=id hg
  rw [q,e] at hbo;cases hbo;rw [hd] at b3;cases b3
 have hB:s.heap.BuiltinsAt X.mg P:=⟨b,ob,hbm,hb.ne,hbG,hbP,hbo,b1,b2,b3⟩
 rcases hh with hn | ⟨c',hf,hc'⟩
 ·refine PySem.W.kla_makeFunction (mg:=X.mg) ecl I.ok.glob hg hcode (C.keeps I.bk) hPo ok hn hgP hB fun c' ctv h' tk hx hge hlt hrec htb=>?_
  obtain ⟨c2',oc,vs,t,e2,hoc,hd,hv⟩:=id hrec
  cases e2
  have I1:=I.tabled (t':=tk) (more:=#[rawInt pos.line,rawInt pos.col,.ref c']) hP hx hge ⟨oc,vs,t,hoc,hd,hv⟩ htb
  have cP:c'≠P:=fun z=>absurd (I.hok.lt hP) (by rw [← z];exact Nat.not_lt.mpr hge)
  have I2:=I1.kept (t':=tk) (h':=h'.push (PySem.W.kla_obj "<lambda>" (X.env.qual++"<lambda>") params body scope cl ((X.mg "__name__").getD .none) c' ctv)) fun b u e=>yD _ e
  refine h _ cl (.ref c') ctv _ _ c1 c2 (fun b o n e=>?_) ⟨_,zab,?_,.inr ⟨c',?_,?_⟩⟩ I2 (I1.fpOk (yL _) (I1.hok.fresh (yL _))) (yO _ rfl) ⟨c',rfl,by rw [zah cP,zab]⟩
  ·rw [zah n,zah fun z=>by rw [z,I.hok.fresh hge] at e;cases e];exact e
  ·have:=TriplesOk_snoc pos.line pos.col (.ref c') ps.toList ok
   simpa using this
  ·have:=codeAmong_snoc (c:=.ref c') ps.toList ok hn
   simpa using this
  ·rw [zah cP,zab]
 ·obtain ⟨⟨oc,vs,t,e1,e2,e3⟩,_⟩:=I.hok c' _ hc'
  refine PySem.W.kla_makeFunctionHit (mg:=X.mg) ecl I.ok.glob hg hcode (C.keeps I.bk) hPo ok hf hB fun ctv h' tk hk hsz=>?_
  have I1:=I.kept (t':=tk) hk
  have I2:=I1.kept (t':=tk) (h':=h'.push {cls:=.type "function",data:=.func (PySem.W.kla_fn "<lambda>" (X.env.qual++"<lambda>") params body scope cl ((X.mg "__name__").getD .none) (.ref c') ctv)}) fun b u e=>yD _ e
  exact h _ cl (.ref c') ctv _ _ c1 c2 (SamP.refl _) ⟨ps,hP,ok,.inr ⟨c',hf,hc'⟩⟩ I2 (I1.fpOk (yL _) (I1.hok.fresh (yL _))) (yO _ rfl) ⟨c',rfl,hc'⟩
end
noncomputable def zkt (X:Cx) (pins:List (Addr×Obj)) (σ :St) (H:Hp) (q:Addr) (fo:Obj) (xs:List V) (kf:Nat→Int):Prop:=
 ∀ (i:Nat) (v:V) (u:Value) (s:Shared),xs[i]? =some v→RelV v u→Inv X pins σ H s→s.heap.get? q=some fo→
  wpAny (model X.prog X.w) X.A.in1 (call (.ref q) [u]) (fun z s'=>∃ t,z= .int (kf i) t∧Inv X pins σ H s'∧Un (frs X.stack) [] H H s.heap s'.heap) (fun _ _=>False) s
section
variable {X:Cx} {pins:List (Addr×Obj)} {σ :St} {H:Hp}
theorem FpOk.nostk {s:Shared}{b:Addr}(f:FpOk X pins H b)(I:Inv X pins σ H s):b∉frs X.stack:=fun z=>by
 rcases yY.mp (I.stkSub b z) with e | e
 ·exact f.2.1 e
 ·exact f.2.2.1 e
theorem FpOk.kept {s s':Shared}{b:Addr}{o:Obj}(f:FpOk X pins H b)(I:Inv X pins σ H s)(u:Un (frs X.stack) [] H H s.heap s'.heap)(e:s.heap.get? b=some o):s'.heap.get? b=some o:=u.keep b o e f.1 (f.nostk I) (by simp)
theorem FpOk.turn {s:Shared}{h':Heap}{t':Nat}{b:Addr}(f:FpOk X pins H b)(I:Inv X pins σ H s)(k:∀ c o,c≠b→s.heap.get? c=some o→h'.get? c=some o):Inv X pins σ H {s with heap:=h',toks:=t'}:=
 I.turned k f.1 f.2.1 f.2.2.2.1 f.2.2.2.2.1 f.2.2.2.2.2
theorem zeL:(toString "min" ++toString ".loop" :String)="min.loop" :=by decide
theorem zk8 {l q I S:Addr}{xs:List V}{fo:Obj}{kf:Nat→Int}{R:Result→Shared→Prop}(turn:zkt X pins σ H q fo xs kf)(hh:X.A.handled=none)(hS:SqL X.K H l xs)(hlI:l≠I)(hSI:S≠I)(hqI:q≠I)(hqS:q≠S)
  (fI:FpOk X pins H I) (fS:FpOk X pins H S) (fq:FpOk X pins H q)
  (hR:∀ i v u s',xs[i]? =some v→RelV v u→(∀ j,j < xs.length→kf i≤kf j)→Inv X pins σ H s'→R (.ok (.ret u)) s'):
  ∀ (r j i:Nat) (s:Shared) (v:V) (vb:Value) (tb:Tok) (c:Nat),xs.length - (j+1)=r→j+1≤xs.length→Inv X pins σ H s→s.heap.get? S=some (seqObj "list" #[vb,.int (kf i) tb] c)→s.heap.IsListIter I l (j+1)→s.heap.get? q=some fo→
   xs[i]? =some v→RelV v vb→(∀ j',j'≤j→kf i≤kf j')→codeAny (model X.prog X.w) X.A (.builtin "min.loop" ⟨[.ref I,.ref q,.ref S],[]⟩) R s:=by
 intro r
 induction r with
 | zero=>
  intro j i s v vb tb c hr hj J eS hit eq hv rv hbest
  have hin:j+1=xs.length:=by omega
  obtain ⟨its,rl,pl,_⟩:=J.list hS
  have hsz:its.toArray.size=xs.length:=by rw [yP];exact rl.length.symm
  have W:=yaz (prog:=X.prog) (w:=X.w) (A:=X.A.in1) hh I l hlI its.toArray
  refine codeAny_builtin yad ?_
  rw [jL xF _]
  show wpAny _ X.A.in1 (seqItems? (.ref S) >>=_) _ _ _
  refine yA (wpAny_seqItems eS rfl ?_)
  show wpAny _ X.A.in1 (tryCatch (pyNext (.ref I)) _ >>=_) _ _ _
  refine yA (wpAny_tryCatch (W.done _ _ _ ⟨by rw [hsz,← hin];exact hit,pl.isList⟩ fun h' tk' hk'=>?_))
  have J1:=fI.turn (t':=tk') J fun b o n e=>hk' b o (by simpa using n) e
  have eS1:=hk' S _ (by simpa using hSI) eS
  show wpAny _ X.A.in1 (updateSeq S (fun _=>#[]) >>=_) _ _ _
  refine yA ?_
  refine wpAny_updateSeq eS1 rfl (yA (wpAny_letGo (yC ?_)))
  exact hR i v vb _ hv rv (fun j' hj'=>hbest j' (by omega)) (fS.turn (t':=tk') J1 fun b o n e=>(qW _ _ (qR n)).trans e)
 | succ r ih=>
  intro j i s v vb tb c hr hj J eS hit eq hv rv hbest
  have hlt:j+1 < xs.length:=by omega
  obtain ⟨its,rl,pl,_⟩:=J.list hS
  have hsz:its.toArray.size=xs.length:=by rw [yP];exact rl.length.symm
  have W:=yaz (prog:=X.prog) (w:=X.w) (A:=X.A.in1) hh I l hlI its.toArray
  refine codeAny_builtin yad ?_
  rw [jL xF _]
  show wpAny _ X.A.in1 (seqItems? (.ref S) >>=_) _ _ _
  refine yA (wpAny_seqItems eS rfl ?_)
  show wpAny _ X.A.in1 (tryCatch (pyNext (.ref I)) _ >>=_) _ _ _
  refine yA (wpAny_tryCatch (W.item (j+1) _ _ _ (by rw [hsz];exact hlt) ⟨hit,pl.isList⟩ fun u h' tk' hP hst' hk'=>?_))
  have hu:its[j+1]? =some u:=by simpa using hP
  obtain ⟨v1,ev1⟩:∃ v1,xs[j+1]? =some v1:=⟨_,yF hlt⟩
  obtain ⟨u',hu',r1⟩:=rl.get ev1
  rw [hu] at hu'
  cases hu'
  have J1:=fI.turn (t':=tk') J fun b o n e=>hk' b o (by simpa using n) e
  have eS1:=hk' S _ (by simpa using hSI) eS
  have eq1:=hk' q _ (by simpa using hqI) eq
  obtain ⟨oI',hoI',hoc,hod⟩:=id hst'.1
  show wpAny _ X.A.in1 (tryCatch (holding [u] (call (.ref q) [u])) _ >>=_) _ _ _
  refine yA (wpAny_tryCatch (wpAny_holding (wpAny_mono (turn (j+1) v1 u _ ev1 r1 J1 eq1) (fun x s2 he=>?_) fun _ _ hF=>hF.elim)))
  obtain ⟨t2,rfl,J2,un⟩:=he
  have eS2:=fS.kept J1 un eS1
  have eI2:=fI.kept J1 un hoI'
  have eq2:=fq.kept J1 un eq1
  have hit2:s2.heap.IsListIter I l (j+1+1):=⟨oI',eI2,hoc,hod⟩
  show wpAny _ X.A.in1 (tryCatch (holding [u,.int (kf (j+1)) t2] (richCompare .Lt (.int (kf (j+1)) t2) (.int (kf i) tb) >>=_)) _ >>=_) _ _ _
  refine yA (wpAny_tryCatch (wpAny_holding (yA (CmpOf.ints_lt (prog:=X.prog) (w:=X.w) (A:=X.A.in1) (P:=fun i v=>∃ t,v= .int (kf i) t) kf (fun i v h=>h) (j+1) i _ _ _ _ _ ⟨t2,rfl⟩ ⟨tb,rfl⟩ ?_))))
  refine yA (wpAny_holding (wpAny_truthy_bool ?_))
  refine yA (wpAny_letGo (yC ?_))
  by_cases hb':kf (j+1) < kf i
  ·obtain ⟨c2,hc2⟩:∃ c2,(s2.heap.update S (vI fun _=>#[u,.int (kf (j+1)) t2])).get? S=some (seqObj "list" #[u,.int (kf (j+1)) t2] c2):=⟨_,get?_update_seq eS2 fun _=>#[u,.int (kf (j+1)) t2]⟩
   simp only [hb',decide_true,if_true]
   refine yA ?_
   refine wpAny_updateSeq eS2 rfl (yA (wpAny_letGo ?_))
   rw [zeL]
   refine yC ⟨plainId_quiet xF _,ih (j+1) (j+1) _ v1 u t2 c2 (by omega) hlt (fS.turn (t':=s2.toks) J2 fun b o n e=>(qW _ _ (qR n)).trans e) hc2
    ⟨oI',(qW _ _ hSI).trans eI2,hoc,hod⟩ ((qW _ _ (qR hqS)).trans eq2) ev1 r1 fun j' hj'=>?_⟩
   by_cases e:j'=j+1
   ·subst e;exact kI _
   ·have hb1:=hbest j' (by omega)
    omega
  ·simp only [hb',decide_false,jN,if_false]
   refine yA (wpAny_letGo ?_)
   rw [zeL]
   refine yC ⟨plainId_quiet xF _,ih (j+1) i _ v vb tb c (by omega) hlt J2 eS2 hit2 eq2 hv rv fun j' hj'=>?_⟩
   by_cases e:j'=j+1
   ·subst e;omega
   ·exact hbest j' (by omega)
theorem zmr {l q:Addr}{xs:List V}{fo:Obj}{kf:Nat→Int}{s:Shared}{Q:Value→Shared→Prop}{E:Value→Shared→Prop}(turn:zkt X pins σ H q fo xs kf)(hh:X.A.handled=none)(hS:SqL X.K H l xs)(hne: 0 < xs.length)
  (J:Inv X pins σ H s) (fq:FpOk X pins H q) (eq:s.heap.get? q=some fo)
  (hR:∀ i v u s',xs[i]? =some v→RelV v u→(∀ j,j < xs.length→kf i≤kf j)→Inv X pins σ H s'→Q u s'):
  wpAny (model X.prog X.w) X.A (call (.builtin "min") [.ref l] [(xQ "key",.ref q)]) Q E s:=by
 obtain ⟨its,rl,pl,_⟩:=J.list hS
 have hsz:its.toArray.size=xs.length:=by rw [yP];exact rl.length.symm
 have hls:=pl.isList
 obtain ⟨ol,hol,_⟩:=id hls
 have hll:l < s.heap.objs.size:=yS hol
 have hqq:q < s.heap.objs.size:=yS eq
 refine kmk_tree PySem.F.kind_min PySem.F.plain_min PySem.F.entry_min (kmk_min_key _ _) ?_
 show wpAny _ X.A.in1 (yaE "min" ["key","default"] 0 ⟨[],[(xQ "key",.ref q)]⟩ >>=_) _ _ s
 refine yA (wpAny_of_eq (show yaE "min" ["key","default"] 0 ⟨[],[(xQ "key",.ref q)]⟩=pure [some (.ref q),none] from rfl) ?_)
 refine yA (yC ?_)
 refine yA (wpAny_pyIter_list hls ?_)
 refine yA (wpAny_newList ?_ (qM _))
 rw [zeL]
 have hSz:(s.heap.push {cls:=.type "list_iterator",data:=.fields #[.ref l,.int 0 0]}).objs.size=s.heap.objs.size+1:=size_push' ..
 have hlI:l≠s.heap.objs.size:=qA hll
 have hSI:(s.heap.push {cls:=.type "list_iterator",data:=.fields #[.ref l,.int 0 0]}).objs.size≠s.heap.objs.size:=by rw [hSz];exact yaK (yar _)
 have kk:∀ b o,s.heap.get? b=some o→((s.heap.push {cls:=.type "list_iterator",data:=.fields #[.ref l,.int 0 0]}).push (seqObj "list" #[] 0)).get? b=some o:=fun b o e=>yD _ (yD _ e)
 have J0:=J.kept (t':=s.toks) kk
 have fI:FpOk X pins H s.heap.objs.size:=J.fpOk (yL _) (J.hok.fresh (yL _))
 have fS:FpOk X pins H (s.heap.push {cls:=.type "list_iterator",data:=.fields #[.ref l,.int 0 0]}).objs.size:=J.fpOk (by rw [hSz];exact ycc _) (J.hok.fresh (by rw [hSz];exact ycc _))
 have gI:((s.heap.push {cls:=.type "list_iterator",data:=.fields #[.ref l,.int 0 0]}).push (seqObj "list" #[] 0)).get? s.heap.objs.size=some {cls:=.type "list_iterator",data:=.fields #[.ref l,.int 0 0]}:=
  yD _ (yO _ rfl)
 have gS:((s.heap.push {cls:=.type "list_iterator",data:=.fields #[.ref l,.int 0 0]}).push (seqObj "list" #[] 0)).get? (s.heap.push {cls:=.type "list_iterator",data:=.fields #[.ref l,.int 0 0]}).objs.size=some (seqObj "list" #[] 0):=yO _ rfl
 have W:=yaz (prog:=X.prog) (w:=X.w) (A:=X.A.in1) hh s.heap.objs.size l hlI its.toArray
 refine yC ⟨plainId_quiet xF _,?_⟩
 refine codeAny_builtin yad ?_
 rw [jL xF _]
 show wpAny _ X.A.in1 (seqItems? (.ref _) >>=_) _ _ _
 refine yA (wpAny_seqItems gS rfl ?_)
 show wpAny _ X.A.in1 (tryCatch (pyNext (.ref s.heap.objs.size)) _ >>=_) _ _ _
 refine yA (wpAny_tryCatch (W.item 0 _ _ _ (by rw [hsz];exact hne) ⟨⟨_,gI,rfl,rfl⟩,(pl.keeps kk).isList⟩ fun u h' tk' hP hst' hk'=>?_))
 have hu:its[0]? =some u:=by simpa using hP
 obtain ⟨v1,ev1⟩:∃ v1,xs[0]? =some v1:=⟨_,yF hne⟩
 obtain ⟨u',hu',r1⟩:=rl.get ev1
 rw [hu] at hu'
 cases hu'
 obtain ⟨oI',hoI',hoc,hod⟩:=id hst'.1
 have J1:=fI.turn (t':=tk') J0 fun b o n e=>hk' b o (by simpa using n) e
 have eS1:=hk' _ _ (by simpa using hSI) gS
 have eq1:=hk' q _ (by simpa using qA hqq) (kk _ _ eq)
 show wpAny _ X.A.in1 (tryCatch (holding [u] (call (.ref q) [u])) _ >>=_) _ _ _
 refine yA (wpAny_tryCatch (wpAny_holding (wpAny_mono (turn 0 v1 u _ ev1 r1 J1 eq1) (fun x s2 he=>?_) fun _ _ hF=>hF.elim)))
 obtain ⟨t2,rfl,J2,un⟩:=he
 have eS2:=fS.kept J1 un eS1
 have eI2:=fI.kept J1 un hoI'
 have eq2:=fq.kept J1 un eq1
 obtain ⟨c2,hc2⟩:∃ c2,(s2.heap.update (s.heap.push {cls:=.type "list_iterator",data:=.fields #[.ref l,.int 0 0]}).objs.size (vI fun _=>#[u,.int (kf 0) t2])).get? (s.heap.push {cls:=.type "list_iterator",data:=.fields #[.ref l,.int 0 0]}).objs.size=some (seqObj "list" #[u,.int (kf 0) t2] c2):=⟨_,get?_update_seq eS2 fun _=>#[u,.int (kf 0) t2]⟩
 show wpAny _ X.A.in1 (updateSeq (s.heap.push {cls:=.type "list_iterator",data:=.fields #[.ref l,.int 0 0]}).objs.size (fun _=>#[u,.int (kf 0) t2]) >>=_) _ _ _
 refine yA ?_
 refine wpAny_updateSeq eS2 rfl ?_
 rw [zeL]
 have hqS:q≠(s.heap.push {cls:=.type "list_iterator",data:=.fields #[.ref l,.int 0 0]}).objs.size:=by rw [hSz];exact qA (yai hqq)
 refine yC ⟨plainId_quiet xF _,zk8 turn hh hS hlI hSI (qA hqq) hqS fI fS fq hR _ 0 0 _ v1 u t2 c2 rfl hne (fS.turn (t':=s2.toks) J2 fun b o n e=>(qW _ _ (qR n)).trans e) hc2
  ⟨oI',(qW _ _ hSI).trans eI2,hoc,hod⟩ ((qW _ _ (qR hqS)).trans eq2) ev1 r1 fun j' hj'=>?_⟩
 have e:j'=0:=by omega
 subst e
 exact kI _
end
noncomputable def zhe (K:PySem.W.Frag) (f:Addr):Value:=match K.lookup f with | some ⟨_,_,.func fd,_⟩=>fd.code | _=>.none
noncomputable def zdh (K:PySem.W.Frag) (c P:Addr):Bool:=match K.lookup c with
 | some ⟨.type n,_,.fields vs,_⟩=>n=="code" && c !=P && (match vs.toList with | [_,_,_,_,_,_,_,.int _ _,_,.bool _,.int _ _,.ref q,_,_,_,_,_,_,.str _ _]=>q==P | _=>false)
 | _=>false
noncomputable def lamK (K:PySem.W.Frag) (f P:Addr):Bool:=(K.lookup P).isNone && (match zhe K f with | .ref c=>zdh K c P | _=>false)
noncomputable def bltK (K:PySem.W.Frag) (b:Addr):Bool:=b !=builtinsNs && (match K.lookup b with | some ⟨.type n,some d,.plain,_⟩=>n=="module" && d==builtinsNs | _=>false)
theorem zib {K:PySem.W.Frag}{c P:Addr}{h:Heap}(e:zdh K c P=true)(X:K.In h):PySem.W.CodeHd h c P:=by
 unfold zdh at e
 split at e
 ·rename_i n od vs sl hl
  rw [yW,yW] at e
  obtain ⟨⟨e1,e2⟩,e3⟩:=e
  split at e3
  ·rename_i x0 x1 x2 x3 x4 x5 x6 i7 t7 x8 b9 i10 t10 q x12 x13 x14 x15 x16 x17 s18 t18 hv
   have ev:vs= #[x0,x1,x2,x3,x4,x5,x6,.int i7 t7,x8,.bool b9,.int i10 t10,.ref q,x12,x13,x14,x15,x16,x17,.str s18 t18]:=by rw [← ybC (xs:=vs),hv]
   have eq:q=P:=eq_of_beq e3
   subst ev eq
   exact ⟨_,_,s18,t18,i7,t7,b9,i10,t10,X _ _ hl,by rw [eq_of_beq e1],rfl,rfl,rfl,rfl,rfl,rfl,rfl,by simpa using e2⟩
  ·cases e3
 ·cases e
theorem zly {K:PySem.W.Frag}{f P:Addr}(e:lamK K f P=true):K.lookup P=none∧∃ c,zhe K f= .ref c∧zdh K c P=true:=by
 unfold lamK at e
 rw [yW] at e
 obtain ⟨e1,e2⟩:=e
 refine ⟨by simpa using e1,?_⟩
 split at e2
 ·rename_i c hc
  exact ⟨c,hc,e2⟩
 ·cases e2
theorem zoH {K:PySem.W.Frag}{mg:Str→Option Value}{b:Addr}(n:mg "__builtins__" =some (.ref b))(e:bltK K b=true):BltK K mg b:=by
 unfold bltK at e
 rw [yW] at e
 obtain ⟨e1,e2⟩:=e
 refine ⟨n,by simpa using e1,?_⟩
 split at e2
 ·rename_i m d sl hl
  rw [yW] at e2
  exact ⟨_,hl,by rw [eq_of_beq e2.1],by rw [eq_of_beq e2.2],rfl⟩
 ·cases e2
noncomputable def tMinL (K:PySem.W.Frag) (P:Addr) (lp:Pos) (qual:Str) (cap:List Nat) (ta:TA) (te:TE):TE:=fun σ H Q=>ta σ H fun vs H1=>∃ p xs,vs= [.ref p]∧SqL K H1 p xs∧0 < xs.length∧zbO P lp qual H1∧
 ∀ H2,SamP P H1 H2→zbO P lp qual H2→∃ kf:Nat→Int,(∀ i v,xs[i]? =some v→te (zle v cap σ) H2 fun y H3=>y= .int (kf i)∧H3=H2)∧∀ i v,xs[i]? =some v→(∀ j,j < xs.length→kf i≤kf j)→Q v H2
theorem SamP.seq {K:PySem.W.Frag}{P:Addr}{lp:Pos}{qual:Str}{H H':Hp}{a:Addr}{xs:List V}(s:SamP P H H')(t:zbO P lp qual H)(h:SqL K H a xs):SqL K H' a xs:=by
 obtain ⟨ps,hP,_⟩:=t
 rcases h with (h | ⟨o,h⟩) | h
 ·exact .inl (.inl (s _ _ (zeZ h hP fun z=>nomatch z) h))
 ·exact .inl (.inr ⟨o,s _ _ (zeZ h hP fun z=>nomatch z) h⟩)
 ·exact .inr h
section
variable {X:Cx}
theorem zoD {e body:Expr}{params:Arguments}{scope:Scope}{N:List Str}{cap:List Nat}{ta:TA}{te:TE}{P c b:Addr}{x:Str}{p pos kp lp:Pos}(hc:X.calm=true)(hr:X.A.in1.depth < recursionLimit)(hg:Gl X "min")(hm:X.mg "min" =none)(ha:PA X [e] ta)
  (B:Blk X scope N 1 cap) (hcode:X.env.code= .ref c) (C:zdh X.K c P=true) (hb:BltK X.K X.mg b) (hN:N[0]? =some x) (hx:scope.names.lookup x=some .local) (hco:scope.isCoroutine=false) (hgen:scope.isGenerator=false)
  (hbind:∀ cl pm cdv ct u,bindArgs (PySem.W.kla_fn "<lambda>" (X.env.qual++"<lambda>") params body scope cl pm cdv ct) ⟨[u],[]⟩=pure [(x,u)]) (hdef:defaultsOf params X.env=([],[]))
  (hbody:∀ cl f cdv s H,PE (zku X X.A.in1 N (X.env.qual++"<lambda>") scope cl f cdv s H) body te)
  (he:backTo pos (starEach [e] X.env)=(false,eval e X.env)::backTo pos (starEach [] X.env):=by rfl) (hp:(backTo pos (starEach [e] X.env)).any (·.1)=false:=by rfl):
  PE X (.Call (.Name "min" p) [e] [⟨some "key",.Lambda params body scope lp,kp⟩] pos) (tMinL X.K P lp (X.env.qual++"<lambda>") cap ta te):=by
 intro pins s σ H Q I h
 refine wpAny_Call_Name_kw (zec I hg hm boot_min (callWith_kw (thn (ha pos pins s σ H _ I h) fun us s1 ⟨vs,H1,I1,r1,q1⟩=>?_) he hp))
 obtain ⟨p,xs,rfl,hq,hz,ht,q2⟩:=q1
 obtain ⟨u1,rfl,rx⟩:=zgs r1
 cases rx
 refine kws_cons (zmH I1 B hcode (zib C I1.ok.mod.kin) hb ht hdef fun f cl cdv ctv H' s' c1 c2 sp lt I' fp ef ec=>kws_nil ?_)
 obtain ⟨kf,qk,qq⟩:=q2 H' sp lt
 obtain ⟨c',rfl,hc'⟩:=ec
 refine zmr (q:=f) (kf:=kf) (fun i v u s2 hv rv I2 e2=>?_) (I'.ok.hd hc) (sp.seq ht hq) hz I' fp ef fun i v u s2 hv rv hb I2=>⟨v,H',I2,rv,qq i v hv hb⟩
 obtain ⟨⟨o,vs,t,d1,d2,d3⟩,_⟩:=I2.hok c' _ hc'
 refine wpAny_mono (zmO (A:=X.A.in1) I2 B I2.ok.frames (I2.ok.hd hc) hr hco hgen c1 c2 hN hx e2 rfl ⟨c',o,vs,t,rfl,d1,d2,d3⟩ (hbind _ _ _ _) (fun s=>hbody _ _ _ _ _) rv (qk i v hv)) (fun z s3 ⟨y,H3,I3,un,ry,e3,e4⟩=>?_) fun _ _ z=>z
 subst e3 e4
 obtain ⟨t,rfl⟩:=ry
 exact ⟨t,rfl,I3,un⟩
theorem zmn {e body:Expr}{params:Arguments}{scope:Scope}{N:List Str}{cap:List Nat}{ta:TA}{te:TE}{P c b:Addr}{x:Str}{p pos kp lp:Pos}(hc:X.calm=true)(hr:X.A.in1.depth < recursionLimit)(hg:Gl X "min")(hm:X.mg "min" =none)(ha:Bx (PA X [e] ta))
  (B:Blk X scope N 1 cap) (hcode:X.env.code= .ref c) (C:zdh X.K c P=true) (hb:BltK X.K X.mg b) (hN:N[0]? =some x) (hx:scope.names.lookup x=some .local) (hco:scope.isCoroutine=false) (hgen:scope.isGenerator=false)
  (hbind:∀ cl pm cdv ct u,bindArgs (PySem.W.kla_fn "<lambda>" (X.env.qual++"<lambda>") params body scope cl pm cdv ct) ⟨[u],[]⟩=pure [(x,u)]) (hdef:defaultsOf params X.env=([],[]))
  (hbody:∀ cl f cdv s H,Bx (PE (zku X X.A.in1 N (X.env.qual++"<lambda>") scope cl f cdv s H) body te))
  (he:backTo pos (starEach [e] X.env)=(false,eval e X.env)::backTo pos (starEach [] X.env):=by rfl) (hp:(backTo pos (starEach [e] X.env)).any (·.1)=false:=by rfl):
  Bx (PE X (.Call (.Name "min" p) [e] [⟨some "key",.Lambda params body scope lp,kp⟩] pos) (tMinL X.K P lp (X.env.qual++"<lambda>") cap ta te)):=
 ⟨zoD hc hr hg hm ha.1 B hcode C hb hN hx hco hgen hbind hdef (fun cl f cdv s H=>(hbody cl f cdv s H).1) he hp⟩
end
section
variable {P:Program} {w:World} {K:PySem.W.Frag} {mg:Str→Option Value} {base:Heap}
theorem Fun.okL {x qual:Str}{st:Stmt}{f:Addr}{fd:FuncData}{N ps:List Str}{k:Nat}{sp:Sp}(F:Fun K x qual st f fd)(S:zaw N ps (zak st))(len:∀ vs H Q E,sp vs H Q E→vs.length=ps.length)
  (hbody:∀ (cdv:Value) (A:Around) (outer:List Env) (s:Shared) (H:Hp) (vs:List V) (Q:VK) (E:XK),zhe K f=cdv→Room k (A.deeper (envOfC qual (zak st) s.heap.objs.size f cdv))→sp vs H Q E→
   ∃ t,Bx (PSs (cxOf CX0 P w K mg base N qual (zak st) f cdv A outer s H E).nox (zbs st) t)∧t {nx:=fun _ H'=>Q .non H',rt:=Q} (start N vs) H):FnOk P w K mg base CX0 (k+1) f fd ps sp:=by
 obtain ⟨oc,od,kV,doc,pm,an,cdv,ct,osl,rfl,lk,hcd⟩:=F.ex
 refine znG lk hcd S len fun A outer s H vs Q E hr hsp=>?_
 obtain ⟨t,h,q⟩:=hbody cdv A outer s H vs Q E (by unfold zhe;rw [lk]) hr hsp
 exact ⟨t,h.1.nox,q⟩
end
theorem zk7 {P:Program}{w:World}{K:PySem.W.Frag}{mg mb:Str→Option Value}{CX:CXT}{k:Nat}{fa a c T:Addr}{fd:FuncData}{x:Str}{sp:Sp}{s₁ :Shared}{vs:List Value}{ns:List Int}
  (KX:K.In s₁.heap) (hT:s₁.heap.get? T=some (PySem.W.tabObj #[])) (hKT:K.lookup T=none) (hC:PySem.W.CodeHd s₁.heap c T) (hns:s₁.heap.Ns qQ mg) (hb:s₁.heap.Ns builtinsNs mb) (hbb:∀ x:Str,x≠"__name__"→mb x=bootBuiltins x) (hlim:s₁.heap.NoLimit) (hg:s₁.gens= #[])
  (ha:s₁.heap.get? a=some {cls:=.type "list",data:=.seq vs.toArray}) (hi:IntsAre vs ns) (hl:ns.length≤yK) (hr:Room k callerA)
  (F:∀ base:Heap,K.In base→base.Ns qQ mg→FnOk P w K mg base CX k fa fd [x] sp) (hbind:∀ (s:Shared) (u:Value),BindsTo s fd ⟨[u],[]⟩ [(x,u)])
  (hsp:∀ H:Hp,SqL K H a (ns.map V.int)→H T=some (.tbl #[])→sp [.ref a] H (fun v _=>v= .bl true) fun _ _ _=>False)
  (hCX:∀ H e s',CX [] H s₁ (fun _ _ _=>False) e s'→False):
  codeAny (model P w) callerA (.call (.ref fa) ⟨[.ref a],[]⟩) (fun r s'=>r= .ok (.ret (.bool true))∧OldK s₁.heap s'.heap∧s'.os=s₁.os∧AllBare s'.gens) s₁ :=by
 have rv:=zfX hi
 have lenV:=hi.length
 have ac:a≠T:=fun z=>by
  rw [z,hT] at ha
  cases ha
 have core:∀ H:Hp,(∀ b u,H b=some u→b≠T→∃ o v,u= .frz o v)→SqL K H a (ns.map V.int)→H T=some (.tbl #[])→HOk P w H s₁.heap→(∀ b,H b≠none→b=a∨b=T)→(H a≠none→K.lookup a=none)→
   codeAny (model P w) callerA (.call (.ref fa) ⟨[.ref a],[]⟩) (fun r s'=>r= .ok (.ret (.bool true))∧OldK s₁.heap s'.heap∧s'.os=s₁.os∧AllBare s'.gens) s₁ :=by
  intro H hO hS hW hok hA hK
  have base_of:∀ {b:Addr} {o:Obj},s₁.heap.get? b=some o→H b=none→(hidT s₁.heap H).get? b=some o:=fun e n=>znf e n
  have noA:∀ {b:Addr} {o:Obj} {es:Array DictEntry} {ep:Nat},s₁.heap.get? b=some o→o.data= .dict es ep→H b=none:=fun {b o es ep} e d=>by
   cases q:H b with
   | none=>rfl
   | some u=>
    rcases hA b (by rw [q];simp) with e' | e'
    ·subst e'
     rw [ha] at e;cases e
     have d':Data.seq vs.toArray _=Data.dict es ep:=d
     cases d'
    ·subst e'
     rw [hT] at e;cases e
     cases d
  have nsK:∀ {b:Addr} {m:Str→Option Value},s₁.heap.Ns b m→(hidT s₁.heap H).Ns b m:=fun {b m} ⟨o,es,ep,e,d,r⟩=>⟨o,es,ep,base_of e (noA e d),d,r⟩
  have hKb:K.In (hidT s₁.heap H):=fun b o e=>by
   refine base_of (KX b o e) ?_
   cases q:H b with
   | none=>rfl
   | some u=>
    rcases hA b (by rw [q];simp) with e' | e'
    ·subst e'
     rw [hK (by rw [q];simp)] at e;cases e
    ·subst e'
     rw [hKT] at e;cases e
  have hM:Mod K mg (hidT s₁.heap H):=⟨hKb,nsK hns,⟨mb,nsK hb,hbb⟩,let ⟨mc,h1,h2⟩:=hlim;⟨mc,nsK h1,h2⟩⟩
  have e0:Env0 P w K mg (hidT s₁.heap H) callerA [] s₁ H:=⟨rfl,hM,fun b o e=>znR e,Nat.le_of_eq (zli _ _),trivial,fun b hb=>absurd (show b∈([]:List Addr) from hb) (by simp),hok,.of_eq hg⟩
  refine codeAny_mono ((F _ hKb (nsK hns)).run callerA [] s₁ H ⟨[.ref a],[]⟩ [.ref a] [.ref a] _ _ hr e0 (hbind s₁ (.ref a)) (.cons rfl .nil) (hsp H hS hW)) fun r s' h=>?_
  cases r with
  | error e=>exact (hCX H e s' h).elim
  | ok fl=>
   cases fl with
   | next=>exact vT h
   | brk=>exact vT h
   | cont=>exact vT h
   | ret u=>
    obtain ⟨v,H',os,bare,un,hok',r',q⟩:=h
    have q':v= .bl true:=q
    subst q'
    obtain rfl:u=Value.bool true:=r'
    have kp:∀ b o,b≠T→s₁.heap.get? b=some o→s'.heap.get? b=some o:=fun b o bT e=>by
     cases q:H b with
     | none=>exact un.keep b o e q (by intro z;exact absurd (show b∈([]:List Addr) from z) (by simp)) (by simp)
     | some u=>
      obtain ⟨ob,xs,z⟩:=hO b u q bT
      subst z
      have z2:=un.frzs b ob _ q
      obtain ⟨e1,_⟩:=hok b _ q
      obtain ⟨e2,_⟩:=hok' b _ z2
      rw [e] at e1;cases e1
      exact e2
    obtain ⟨more,e2⟩:=un.tbls T #[] hW
    have hT':s'.heap.get? T=some (PySem.W.tabObj (#[]++more)):=hok' T _ e2
    have cT:c≠T:=let ⟨_,_,_,_,_,_,_,_,_,_,_,_,_,_,_,_,_,_,z⟩:=hC;z
    have tb:=hC.tab hT
    have hT2:∀ b o,s₁.heap.get? b=some o→asItWas s₁.heap s'.heap b o:=fun b o e=>by
     by_cases bT:b=T
     ·subst bT
      rw [hT] at e;cases e
      exact .inr (.inl ⟨tb.isCodeTable,rfl,#[],more,rfl,hT'⟩)
     ·exact .inl (kp b o bT e)
    refine ⟨rfl,⟨hT2,fun b o e=>?_⟩,os,bare⟩
    by_cases bT:b=T
    ·exact ⟨_,bT ▸ hT'⟩
    ·exact ⟨o,kp b o bT e⟩
 cases hk:K.lookup a with
 | some o=>
  have e:=KX a o hk
  rw [ha] at e
  cases e
  refine core (fun b=>if b=T then some (.tbl #[]) else none) (fun b u z bT=>?_) (.inr ⟨_,vs.toArray,_,hk,rfl,rfl,rfl,by rw [yP,lenV];exact hl,by simpa using rv⟩) (if_pos rfl) (fun b u z=>?_) (fun b z=>?_) fun z=>absurd (if_neg ac) z
  ·have z':=(if_neg bT).symm.trans z
   cases z'
  ·by_cases hb:b=T
   ·have z':=(if_pos hb).symm.trans z
    cases z'
    subst hb
    exact hT
   ·have z':=(if_neg hb).symm.trans z
    cases z'
  ·by_cases hb:b=T
   ·exact .inr hb
   ·exact absurd (if_neg hb) z
 | none=>
  refine core (fun b=>if b=T then some (.tbl #[]) else if b=a then some (.frz {cls:=.type "list",data:=.seq vs.toArray} (.lst (ns.map V.int))) else none) (fun b u z hb=>?_)
   (.inl (.inr ⟨{cls:=.type "list",data:=.seq vs.toArray},(if_neg ac).trans (if_pos rfl)⟩)) (if_pos rfl) (fun b u z=>?_) (fun b z=>?_) fun _=>hk
  ·by_cases hb2:b=a
   ·exact ⟨_,_,(qF (((if_neg hb).trans (if_pos hb2)).symm.trans z)).symm⟩
   ·have z':=((if_neg hb).trans (if_neg hb2)).symm.trans z
    cases z'
  ·by_cases hb:b=T
   ·have z':=(if_pos hb).symm.trans z
    cases z'
    subst hb
    exact hT
   ·by_cases hb2:b=a
    ·have z':=((if_neg hb).trans (if_pos hb2)).symm.trans z
     cases z'
     subst hb2
     exact ⟨ha,by rw [yB];exact hl,vs,_,rv,ha⟩
    ·have z':=((if_neg hb).trans (if_neg hb2)).symm.trans z
     cases z'
  ·by_cases hb:b=T
   ·exact .inr hb
   ·by_cases hb2:b=a
    ·exact .inl hb2
    ·exact absurd ((if_neg hb).trans (if_neg hb2)) z
noncomputable def LamC (K:PySem.W.Frag) (c:Addr):Prop:=K.lookup c=some (PySem.W.tabObj #[])
section
variable {K:PySem.W.Frag} {c:Addr}
theorem zcG (h:LamC K c){f:Addr}{oc:Value}{od:Option Addr}{fd:FuncData}{sl:Array (Option Value)}(l:K.lookup f=some ⟨oc,od,.func fd,sl⟩):(zb1 K c).lookup f=some ⟨oc,od,.func fd,sl⟩:=by
 rw [zfL fun z=>by rw [z,h] at l;cases l]
 exact l
theorem zcx (h:LamC K c){cd:Value}{q:Str}(e:PySem.W.codeIn K cd q=true):PySem.W.codeIn (zb1 K c) cd q=true:=by
 unfold PySem.W.codeIn at e ⊢
 cases cd with
 | ref a=>
  have ne:a≠c:=fun z=>by
   rw [z] at e
   have e':(match K.lookup c with | some ⟨_,_,.fields vs,_⟩=>(match vs.toList with | _:: .str n _::_=>n==q | _=>false) | _=>false)=true:=e
   rw [h] at e'
   cases e'
  show (match (zb1 K c).lookup a with | some ⟨_,_,.fields vs,_⟩=>(match vs.toList with | _:: .str n _::_=>n==q | _=>false) | _=>false)=true
  rw [zfL ne]
  exact e
 | _=>exact e
theorem zcw (h:LamC K c){f:Addr}{oc:Value}{od:Option Addr}{fd:FuncData}{sl:Array (Option Value)}(l:K.lookup f=some ⟨oc,od,.func fd,sl⟩):PySem.W.keepIn (zb1 K c) (.ref f)=true:=by
 have l':=zcG h l
 unfold PySem.W.keepIn
 show (match (zb1 K c).lookup f with | some ⟨_,_,.func _,_⟩=>true | some ⟨_,_,.cls _,_⟩=>_ | _=>false)=true
 rw [l']
theorem zfS (h:LamC K c){T:Addr}{cT:Value}{dT:Option Addr}{kT:Tok}{nT:Nat}{sT:Array (Option Value)}(v:K.lookup T=some ⟨cT,dT,.seq #[.int 1 kT] nT,sT⟩):(zb1 K c).lookup T=some ⟨cT,dT,.seq #[.int 1 kT] nT,sT⟩:=by
 rw [zfL fun z=>by rw [z,h] at v;cases v]
 exact v
end
theorem zmQ {l:ybt}{n k:Nat}{q:Program}{loose:List Str}{XP:(Str→Option Value)→Heap→Prop}{YP:World→Heap→Prop}{d:DefRec}{K:Params→PySem.W.Frag}{CX:CXT}{sp:PySem.W.Frag→Addr→Sp}{x:Str}
  (hn:l.most=some n) (hn2:n≤yK) (hdf:d.params.defaults= []) (hr:Room k callerA)
  (hY:∀ (w:World) (h:Heap),YP w h→(K w.params).In h)
  (F:∀ (w:World) (mg:Str→Option Value) (fa:Addr) (h:Heap),(K w.params).In h→h.Ns qQ mg→mg d.name=some (.ref fa)→
   ∃ (T c:Addr) (fd:FuncData),(LamC (K w.params) T∧zdh (zb1 (K w.params) T) c T=true)∧(∀ (s:Shared) (u:Value),BindsTo s fd ⟨[u],[]⟩ [(x,u)])∧
    ∀ base:Heap,(zb1 (K w.params) T).In base→base.Ns qQ mg→FnOk l.prog w (zb1 (K w.params) T) mg base CX k fa fd [x] (sp (zb1 (K w.params) T) T))
  (hsp:∀ (K:PySem.W.Frag) (T:Addr) (H:Hp) (a:Addr) (ns:List Int),ns.length≤n→SqL K H a (ns.map V.int)→H T=some (.tbl #[])→sp K T [.ref a] H (fun v _=>v= .bl true) fun _ _ _=>False)
  (hCX:∀ (H:Hp) (s:Shared) (e:Value) (s':Shared),CX [] H s (fun _ _ _=>False) e s'→False):
  PySem.W.WalkO q loose XP YP l.row.toRowW d [] (fun f vs=>ych f vs):=by
 refine Att.attach_call hn hdf fun w s₀ s₁ mg mb fa o pm cd doc a vs ns G Y ho hd hcd hmg hobj hints hlen hg=>?_
 have KX:=hY w _ Y
 obtain ⟨T,c,fd,⟨hK,hc⟩,hb,hF⟩:=F w mg fa _ KX G.T.g hmg
 exact zk7 (zkD KX) (KX _ _ hK) (zgi _) (zib hc (zkD KX)) G.T.g G.T.b G.T.builtins G.T.nolimit hg hobj hints (jY hlen hn2) hr hF hb (fun H hS hW=>hsp _ _ H a ns hlen hS hW) fun H e s'=>hCX H s₁ e s'
section
variable {X:Cx} {pins:List (Addr×Obj)} {σ :St} {H:Hp} {s:Shared}
theorem Inv.thaw {d:Addr}{ob:Obj}{k0 kvs:List (List Key×V)}(I:Inv X pins σ H s)(h0:X.H₀ d=some (.dT k0))(hd:H d=some (.frz ob (.dT kvs))):Inv X pins σ (upd H d (.dT kvs)) s:=
 ⟨I.ok,I.os,I.bare,I.base.thaw h0 (fun _ z=>by cases z) (fun _ _ z=>by cases z) (fun _ z=>by cases z),I.loc,I.cell,by rw [zah fun z=>by rw [← z,I.free] at hd;cases hd];exact I.free,
  fun x c e=>by rw [zah fun z=>by rw [← z,I.freeC x c e] at hd;cases hd];exact I.freeC x c e,
  fun p hp=>by obtain ⟨a,b,c⟩:=I.pin p hp;exact ⟨a,by rw [zah fun z=>by rw [← z,b] at hd;cases hd];exact b,c⟩,I.hok.thaw hd,I.len⟩
end
noncomputable def tThaw (H0:Hp) (t:TS):TS:=fun D σ H=>t {D with nx:=fun σ' H'=>∃ d ob k0 kvs,H0 d=some (.dT k0)∧H' d=some (.frz ob (.dT kvs))∧D.nx σ' (upd H' d (.dT kvs))} σ H
theorem zn2 {X:Cx}{st:Stmt}{t:TS}(h:PS X st t):PS X st (tThaw X.H₀ t):=by
 intro pins s σ H D I hw
 refine thn (h pins s σ H _ I hw) fun f s' q=>?_
 cases f with
 | next=>
  obtain ⟨σ',H',I',d,ob,k0,kvs,h0,hd,q⟩:=q
  exact ⟨σ',_,I'.thaw h0 hd,q⟩
 | brk=>exact q
 | cont=>exact q
 | ret u=>exact q
theorem zmE {X:Cx}{st:Stmt}{t:TS}(h:Bx (PS X st t)):Bx (PS X st (tThaw X.H₀ t)):=⟨zn2 h.1⟩
theorem zlH {g:TG}{tt:TT}{te:TE}{n0:Nat}{cap:List Nat}{σ :St}{Q:VK}{D:Addr}{H1:Hp}{d:Addr}{ob:Obj}{kvs:List (List Key×V)}(Pv:Nat→Hp→Prop)(h0:Pv 0 (upd H1 D (.lst [])))(hl:∀ i H,i≤kvs.length→Pv i H→H d=some (.frz ob (.dT kvs)))
  (hs:∀ i b p H,kvs[i]? =some p→Pv i H→RdT H b (p.1.map kV)→g (.ref b) (zbt n0 cap σ) H fun σ2 H2=>tt σ2 H2 fun b H3=>if b=true then te σ2 H3 fun y H4=>∃ xs,H4 D=some (.lst xs)∧xs.length < yK∧Pv (i+1) (upd H4 D (.lst (xs++ [y]))) else Pv (i+1) H3)
  (hd:∀ H,Pv kvs.length H→Q (.ref D) H):
  zc2 (Itk d ob) D n0 cap σ g tt te Q H1:=by
 refine ⟨fun i m H=>m=kvs.length - i∧i≤kvs.length∧Pv i H,⟨kvs.length,by simp,qM _,h0⟩,?_⟩
 rintro i m H ⟨rfl,hi,p⟩
 have q:=hl i H hi p
 by_cases hlt:i < kvs.length
 ·refine .inr ⟨⟨kvs,kvs[i],q,by simp [hlt]⟩,Pv (i+1),fun H' p'=>⟨kvs.length - (i+1),by omega,rfl,hlt,p'⟩,fun x H' y=>?_⟩
  obtain ⟨e2,b,k,z,e1,hb,y⟩:=y
  subst e1 e2
  exact hs i b (k,z) H' (y kvs q) p hb
 ·have e:i=kvs.length:=by omega
  subst e
  exact .inl ⟨⟨kvs,q,yL _⟩,hd H p⟩
noncomputable def zms (t:SetTable) (hs:List Int) (h:Int):SetTable:=
 match t.freeSlot h with
 | some (slot,_)=>if (t.put slot).1.tooFull then (match (t.put slot).1.relaid (hs++ [h]).toArray (yak (hs.length+1)) with | some (t2,_)=>t2 | none=>t) else (t.put slot).1
 | none=>t
noncomputable def hsI (cs:List Nat):List Int:=cs.map fun c=>hashInt ((c:Nat):Int)
noncomputable def zhJ (p:SetTable×List Int):List Nat→SetTable×List Int
 | []=>p
 | c::r=>zhJ (zms p.1 p.2 (hashInt ((c:Nat):Int)),p.2++ [hashInt ((c:Nat):Int)]) r
noncomputable def tabI (led:Bool) (cs:List Nat):SetTable:=(zhJ (.fresh 0 0 led,[]) cs).1
theorem ziP:∀ (cs:List Nat) (p:SetTable×List Int) (c:Nat),zhJ p (cs++ [c])=(zms (zhJ p cs).1 (zhJ p cs).2 (hashInt ((c:Nat):Int)),(zhJ p cs).2++ [hashInt ((c:Nat):Int)])
 | [],_,_=>rfl
 | _::r,_,_=>ziP r _ _
theorem zlb:∀ (cs:List Nat) (p:SetTable×List Int),(zhJ p cs).2=p.2++hsI cs
 | [],p=>by show p.2=p.2++ [];rw [jH]
 | c::r,p=>by
  show (zhJ _ r).2=_
  rw [zlb r]
  simp [hsI]
theorem zkW (led:Bool)(cs:List Nat)(c:Nat):tabI led (cs++ [c])=zms (tabI led cs) (hsI cs) (hashInt ((c:Nat):Int)):=by
 unfold tabI
 rw [ziP,zlb]
 rfl
noncomputable def okW (t:SetTable) (n:Nat) (led:Bool):Bool:=t.fits n && t.plain && (t.led==led) && (xY t.place 0==0) && (qI n).all fun i=>match t.place[i]? with
  | some j=>xY t.place (j+1)==i+1
  | none=>false
noncomputable def zjV (led:Bool) (cs:List Nat) (c:Nat):Bool:=
 match (tabI led cs).freeSlot (hashInt ((c:Nat):Int)) with
 | some (slot,wd)=>!wd && ((tabI led cs).put slot).1.plain && (((tabI led cs).put slot).2==cs.length) && ((tabI led cs).put slot).1.fits (cs.length+1) &&
   (if ((tabI led cs).put slot).1.tooFull then (match ((tabI led cs).put slot).1.relaid (hsI cs++ [hashInt ((c:Nat):Int)]).toArray (yak (cs.length+1)) with
    | some (t2,order)=>(order.toList==qI (cs.length+1)) && coversAll order (cs.length+1) && t2.fits (cs.length+1)
    | none=>false) else true)
 | none=>false
noncomputable def chkI (led:Bool):Nat→List Nat→Nat→Bool
 | 0,_,_=>true
 | f+1,cs,lo=>okW (tabI led cs) cs.length led && (qI 8).all fun c=>decide (c < lo) || (zjV led cs c && chkI led f (cs++ [c]) (c+1))
theorem zou:([true,false].all fun led=>chkI led 9 [] 0)=true:=by decide+kernel
noncomputable def UpI:Nat→List Nat→Prop
 | _,[]=>True
 | lo,c::r=>lo≤c∧c < 8∧UpI (c+1) r
theorem UpI.len:∀ {ds:List Nat} {lo:Nat},UpI lo ds→ds.length+lo≤8∨ds= []
 | [],_,_=>.inr rfl
 | c::r,lo,⟨h1,h2,h3⟩=>by
  rcases UpI.len h3 with z | z
  ·left;simp;omega
  ·left;subst z;simp;omega
theorem zns {led:Bool}:∀ (ds cs:List Nat) (f lo:Nat),chkI led (f+1+ds.length) cs lo=true→UpI lo ds→okW (tabI led (cs++ds)) (cs++ds).length led=true∧∀ c,UpI lo (ds++ [c])→zjV led (cs++ds) c=true
 | [],cs,f,lo,h,_=>by
  rw [jH]
  have h:(okW (tabI led cs) cs.length led && (qI 8).all fun c=>decide (c < lo) || (zjV led cs c && chkI led f (cs++ [c]) (c+1)))=true:=h
  rw [yW] at h
  refine ⟨h.1,fun c ⟨c1,c2,_⟩=>?_⟩
  have:=yZ.mp h.2 c (qN.mpr c2)
  rw [decide_eq_false (by omega),ybP,yW] at this
  exact this.1
 | d::r,cs,f,lo,h,⟨u1,u2,u3⟩=>by
  have h:(okW (tabI led cs) cs.length led && (qI 8).all fun c=>decide (c < lo) || (zjV led cs c && chkI led (f+1+r.length) (cs++ [c]) (c+1)))=true:=h
  rw [yW] at h
  have:=yZ.mp h.2 d (qN.mpr u2)
  rw [decide_eq_false (by omega),ybP,yW] at this
  obtain ⟨a,b⟩:=zns r (cs++ [d]) f (d+1) this.2 u3
  have e:cs++ [d]++r=cs++d::r:=by simp
  rw [e] at a b
  exact ⟨a,fun c hc=>b c hc.2.2⟩
theorem zlR {led:Bool}{cs:List Nat}(h:UpI 0 cs):okW (tabI led cs) cs.length led=true∧∀ c,UpI 0 (cs++ [c])→zjV led cs c=true:=by
 have l8:cs.length≤8:=by
  rcases h.len with z | z
  ·omega
  ·rw [z];exact qM _
 have:=yZ.mp zou led (by cases led <;> simp)
 exact zns cs [] (8 - cs.length) 0 (by rw [show 8 - cs.length+1+cs.length=9 by omega];exact this) h
noncomputable def entI (p:Nat×Tok):Int×Value:=(hashInt ((p.1:Nat):Int),.int ((p.1:Nat):Int) p.2)
noncomputable def esI (L:List (Nat×Tok)):Array (Int×Value):=(L.map entI).toArray
theorem zd1 (L:List (Nat×Tok)):(esI L).size=L.length:=by simp [esI]
noncomputable def zd9 (h:Heap) (S:Addr) (led:Bool) (L:List (Nat×Tok)):Prop:=∃ o ep,h.get? S=some o∧o.ExactSet∧o.data= .set (esI L) ep (tabI led (L.map jI))∧UpI 0 (L.map jI)
theorem zh2 {t:SetTable}{n:Nat}{led:Bool}(h:okW t n led=true):t.fits n=true∧t.plain=true∧t.led=led∧xY t.place 0=0∧∀ i,i < n→∃ j,t.place[i]? =some j∧xY t.place (j+1)=i+1:=by
 unfold okW at h
 simp only [yW,beq_iff_eq] at h
 obtain ⟨⟨⟨⟨h1,h2⟩,h3⟩,h4⟩,h5⟩:=h
 refine ⟨h1,h2,h3,h4,fun i hi=>?_⟩
 have:=yZ.mp h5 i (qN.mpr hi)
 cases e:t.place[i]? with
 | none=>rw [e] at this;cases this
 | some j=>rw [e] at this;exact ⟨j,rfl,eq_of_beq this⟩
section
variable {prog:Program} {w:World} {A:Around} {E:Value→Shared→Prop} {s:Shared}
theorem zlL (L:List (Nat×Tok)):ElemsOf (intKind prog w) (esI L).toList:=fun e he=>by
 obtain ⟨p,_,rfl⟩:=qE.mp (show e∈L.map entI by simpa [esI] using he)
 exact ⟨⟨((p.1:Nat):Int),intKind_is _ _ _ _,rfl⟩,rfl⟩
theorem zmL {S:Addr}{led:Bool}{L:List (Nat×Tok)}{c:Nat}{t:Tok}{Q:Bool→Shared→Prop}(hS:zd9 s.heap S led L)(hc:UpI 0 (L.map jI++ [c]))
  (h:∀ h' tk,qX S s.heap h'→zd9 h' S led (L++ [(c,t)])→Q true {s with heap:=h',toks:=tk}):wpAny (model prog w) A (setAdd S (.int ((c:Nat):Int) t)) Q E s:=by
 obtain ⟨o,ep,ho,hex,hd,hup⟩:=hS
 obtain ⟨ok,good⟩:=zlR (led:=led) hup
 have gd:=good c hc
 obtain ⟨o1,o2,o3,o4,o5⟩:=zh2 ok
 rw [yB] at o1
 have hf:(tabI led (L.map jI)).fits (esI L).size=true:=by rw [zd1];exact o1
 have l8:(L.map jI++ [c]).length≤8:=by
  rcases hc.len with z | z
  ·omega
  ·rw [z];exact qM _
 have hb:(esI L).size < scanBound:=by rw [zd1];rw [yI,yB] at l8;exact qB (show L.length < 9 by omega) (by decide)
 unfold setAdd
 refine wpAny_holding (yA ((intKind prog w).pyHash (k:=((c:Nat):Int)) (intKind_is _ _ _ _) ?_))
 unfold setAddHashed setAddHashedIn
 refine wpAny_holding (yA (wpAny_setState_of ho hd hf ?_))
 dsimp only
 rw [byScan_of (knd:=intKind prog w) rfl hb (zlL L)]
 simp only [↓reduceIte]
 unfold setAddByScan
 refine yA ?_
 refine yA (wpAny_rule ?_)
 refine yA (wpAny_setScan_of (knd:=intKind prog w) (k:=((c:Nat):Int)) (intKind_is _ _ _ _) ho hd hf (zlL L) ?_)
 have hno:List.findIdx? (fun e=>(intKind prog w).is ((c:Nat):Int) e.2) (esI L).toList=none:=by
  refine List.findIdx?_eq_none_iff.mpr fun e he=>?_
  obtain ⟨p,hp,rfl⟩:=qE.mp (show e∈L.map entI by simpa [esI] using he)
  have lt:∀ (ds:List Nat) (lo:Nat),UpI lo (ds++ [c])→∀ d∈ds,d < c:=by
   intro ds
   induction ds with
   | nil=>intro _ _ d z;cases z
   | cons a r ih=>
    intro lo u d hd
    have ca:∀ (r:List Nat) (lo:Nat),UpI lo (r++ [c])→lo≤c:=by
     intro r
     induction r with
     | nil=>intro lo u;exact u.1
     | cons b r ih=>intro lo u;have:=ih _ u.2.2;have:=u.1;omega
    rcases yY.mp hd with rfl | hd
    ·have:=ca _ _ u.2.2;omega
    ·exact ih _ u.2.2 d hd
  have:=lt _ _ hc p.1 (ybI hp)
  show ybG ((c:Nat):Int) (.int ((p.1:Nat):Int) p.2)=false
  simp only [ybG]
  exact beq_eq_false_iff_ne.mpr (by omega)
 rw [hno]
 dsimp only
 have esz:(esI (L++ [(c,t)]))=(esI L).push (hashInt ((c:Nat):Int),.int ((c:Nat):Int) t):=by simp [esI,entI]
 have snoc:=zkW led (L.map jI) c
 unfold zjV at gd
 unfold zms at snoc
 have hsl:(hsI (L.map jI)).length=(L.map jI).length:=by simp [hsI]
 rw [hsl] at snoc
 cases hfs:(tabI led (L.map jI)).freeSlot (hashInt ((c:Nat):Int)) with
 | none=>rw [hfs] at gd;cases gd
 | some sw=>
  obtain ⟨slot,wd⟩:=sw
  rw [hfs] at gd snoc
  dsimp only at gd snoc
  generalize hp:(tabI led (L.map jI)).put slot=tp at gd snoc
  obtain ⟨t1,p⟩:=tp
  dsimp only at gd snoc
  simp only [yW,kY,beq_iff_eq,yB] at gd
  obtain ⟨⟨⟨⟨g1,g2⟩,g3⟩,g4⟩,g5⟩:=gd
  subst g1 g3
  have ins:ybZ (esI L) L.length (hashInt ((c:Nat):Int),Value.int ((c:Nat):Int) t)=esI (L++ [(c,t)]):=by
   rw [esz]
   unfold ybZ
   apply Array.ext'
   have tk:List.take L.length (List.map entI L)=List.map entI L:=xD (by simp)
   simp [esI,tk]
  have lay:layNew (tabI led (L.map jI)) (esI L) (hashInt ((c:Nat):Int)) (.int ((c:Nat):Int) t)=(esI (L++ [(c,t)]),t1,false,false):=by
   unfold layNew
   rw [hfs]
   dsimp only
   rw [hp]
   dsimp only
   rw [ins]
   unfold SetTable.orStandIn
   rw [zd1,yI]
   show (_,if t1.fits (L.length+1)=true then t1 else _,false,!t1.fits (L.length+1))=_
   rw [g4]
   rfl
  have lay':layNew (tabI led (L.map jI)) (esI L) ((intKind prog w).hash ((c:Nat):Int)) (.int ((c:Nat):Int) t)=(esI (L++ [(c,t)]),t1,false,false):=lay
  rw [lay']
  dsimp only
  refine yA (yC ?_)
  rw [if_pos g2]
  rw [hashByValue_scannable 8 (show (Value.int ((c:Nat):Int) t).scannable=true from rfl)]
  refine yA (yC ?_)
  simp only [plainKind,↓reduceIte]
  show wpAny _ _ (storeSet S (esI (L++ [(c,t)])) t1 >>=_) _ _ _
  have ls:(esI (L++ [(c,t)])).size≤yK:=by
   rw [zd1,yI,sizeLine_eq]
   rw [yI,yB] at l8
   show L.length+1≤_
   have:([c]:List Nat).length=1:=rfl
   omega
  refine yA (wpAny_storeSet_of ho hd ?_ ls)
  have st1:=zgD (es':=esI (L++ [(c,t)])) (t':=t1) ho hex hd
  have sb1:=jS s.heap S (ycj (esI (L++ [(c,t)])) t1)
  have up':UpI 0 ((L++ [(c,t)]).map jI):=by rw [yN];exact hc
  show wpAny _ _ (if (!false && t1.tooFull)=true then _ else _) _ _ _
  by_cases tf:t1.tooFull=true
  ·rw [if_pos tf] at g5 snoc
   rw [if_pos (by rw [tf];rfl)]
   cases hrl:t1.relaid (hsI (L.map jI)++ [hashInt ((c:Nat):Int)]).toArray (yak ((L.map jI).length+1)) with
   | none=>rw [yB] at hrl;rw [hrl] at g5;cases g5
   | some to=>
    obtain ⟨t2,order⟩:=to
    rw [hrl] at snoc
    rw [yB] at hrl
    rw [hrl] at g5
    dsimp only at g5 snoc
    simp only [yW,beq_iff_eq] at g5
    obtain ⟨⟨e1,e2⟩,e3⟩:=g5
    have hm1:(esI (L++ [(c,t)])).map (·.1)=(hsI (L.map jI)++ [hashInt ((c:Nat):Int)]).toArray:=by
     simp [esI,hsI,entI,Function.comp_def]
    have fm:order.filterMap ((esI (L++ [(c,t)]))[·]?)=esI (L++ [(c,t)]):=by
     apply Array.ext'
     rw [Array.toList_filterMap,e1]
     have all:∀ (xs:List (Int×Value)),(qI xs.length).filterMap (fun i=>xs.toArray[i]?)=xs:=by
      intro xs
      have:(qI xs.length).filterMap (fun i=>xs.toArray[i]?)=(qI xs.length).filterMap (fun i=>xs[i]?):=by simp
      rw [this]
      have up:∀ n,(qI n).filterMap (fun i=>xs[i]?)=xs.take n:=by
       intro n
       induction n with
       | zero=>rfl
       | succ n ih=>
        rw [xS,List.filterMap_append,ih,yR]
        congr 1
      rw [up,yV]
     have:=all ((L++ [(c,t)]).map entI)
     rw [yB,yI] at this
     exact this
    have rel:relayAll t1 (esI (L++ [(c,t)])) (yak (esI (L++ [(c,t)])).size)=(esI (L++ [(c,t)]),t2,false):=by
     unfold relayAll
     rw [hm1,zd1,yI]
     show (match t1.relaid _ (yak (L.length+1)) with | some (t',order)=>_ | none=>_)=_
     rw [hrl]
     dsimp only
     rw [fm,zd1,yI]
     show (if (coversAll order (L.length+1) && t2.fits (L.length+1))=true then _ else _)=_
     rw [e2,e3]
     rfl
    rw [rel]
    dsimp only
    refine yA (yC ?_)
    refine yA (wpAny_storeSet_of st1 rfl ?_ ls)
    refine yC ?_
    dsimp only
    have st2:=zgD (es':=esI (L++ [(c,t)])) (t':=t2) st1 hex rfl
    refine yC (h _ _ (sb1.trans (jS _ S _)) ⟨_,ep+1+1,st2,hex,?_,up'⟩)
    rw [yN]
    show _=Data.set _ _ (tabI led (L.map jI++ [c]))
    rw [snoc]
  ·rw [if_neg tf] at snoc
   rw [if_neg (by intro z;exact tf (by simpa using z))]
   refine yC ?_
   dsimp only
   refine yC (h _ _ sb1 ⟨_,ep+1,st1,hex,?_,up'⟩)
   rw [yN]
   show _=Data.set _ _ (tabI led (L.map jI++ [c]))
   rw [snoc]
end
theorem ziJ:typeLookup (.type "set") "__len__" =pure (some (.builtin "set.__len__")):=by rw [typeLookup_type,builtinLookup_eq_fast];kernel_rfl
theorem zaY:Slot "set_iterator" "__next__" "set_iterator.__next__" :=
 .of (owner:="set_iterator") (n:="__next__") (by rw [typeLookup_type,builtinLookup_eq_fast];kernel_rfl) (by decide+kernel) (by decide+kernel) (by decide+kernel)
  (by first | exact .inl (by decide+kernel) | exact .inr (by decide+kernel)) (by rw [isSubtype_type];kernel_rfl)
theorem zcQ:Slot "set_iterator" "__iter__" "set_iterator.__iter__" :=
 .of (owner:="set_iterator") (n:="__iter__") (by rw [typeLookup_type,builtinLookup_eq_fast];kernel_rfl) (by decide+kernel) (by decide+kernel) (by decide+kernel)
  (by first | exact .inl (by decide+kernel) | exact .inr (by decide+kernel)) (by rw [isSubtype_type];kernel_rfl)
theorem zcB:entryFor table "set_iterator.__next__" =some Builtin.«set_iterator.__next__» :=entryFor_of_fast (by kernel_rfl)
theorem zej:entryFor table "set_iterator.__iter__" =some Builtin.«dict_keyiterator.__iter__» :=
 entryFor_alias (id':="dict_keyiterator.__iter__") (by kernel_rfl) rfl (by decide+kernel) (by kernel_rfl)
theorem zcL (a:Value):argsOk "set_iterator.__next__" ⟨[a],[]⟩:=by unfold argsOk;kernel_rfl
theorem zep (a:Value):argsOk "set_iterator.__iter__" ⟨[a],[]⟩:=by unfold argsOk;kernel_rfl
theorem zfy:entryFor table "set.__iter__" =some Builtin.«frozenset.__iter__» :=
 entryFor_alias (id':="frozenset.__iter__") (by kernel_rfl) rfl (by decide+kernel) (by kernel_rfl)
theorem zjv {α :Type}(next:Nat→Nat):∀ (n k:Nat) (left:List α) (out:Array α),left.length=n→vX (pickOrder.go next n k left out).toList (out.toList++left)
 | 0,k,left,out,h=>by
  have:left= []:=jQ.mp h
  subst this
  show vX out.toList _
  rw [jH]
 | n+1,k,left,out,h=>by
  have hlt:next k % left.length < left.length:=yci _ (by omega)
  show vX (match left[next k % left.length]? with
   | some x=>pickOrder.go next n (k+1) (left.eraseIdx (next k % left.length)) (out.push x)
   | none=>out).toList _
  rw [yF hlt]
  refine (zjv next n (k+1) _ _ (by rw [List.length_eraseIdx_of_lt hlt];omega)).trans ?_
  rw [Array.toList_push,xL]
  refine vX.append_left _ ?_
  rw [List.eraseIdx_eq_take_drop_succ]
  have e:left=left.take (next k % left.length)++left[next k % left.length]::left.drop (next k % left.length+1):=by
   rw [← List.drop_eq_getElem_cons hlt,vM]
  exact (yba (l₁ :=left.take (next k % left.length))).symm.trans (vX.of_eq e.symm)
theorem zjI {α :Type}(next:Nat→Nat)(xs:Array α):vX (pickOrder next xs).toList xs.toList:=by
 have:=zjv next xs.size 0 xs.toList #[] (by simp)
 simpa [pickOrder] using this
noncomputable def zbY (w:World) (S:Addr) (ep:Nat) (L:List (Int×Value)):List Value:=
 if w.params.followText "set-order" =true then (pickOrder (w.params.setOrder S ep) L.toArray).toList.map (·.2) else L.map fun p=>p.2
theorem zfA (w:World)(S:Addr)(ep:Nat)(L:List (Int×Value)):vX (zbY w S ep L) (L.map fun p=>p.2):=by
 unfold zbY
 split
 ·exact (zjI _ L.toArray).map _
 ·exact .rfl
noncomputable def zdF (w:World) (h:Heap) (I S:Addr) (ep:Nat) (t:SetTable) (L:List (Int×Value)) (i:Nat):Prop:=
 ∃ (o oS:Obj) (slot:Nat),h.get? I=some o∧o.cls= .type "set_iterator"∧o.data= .fields #[.int slot 0,.int i 0,.ref S,.int (L.length:Nat) 0,.int ep 0]∧(w.params.followText "set-order" =false→xY t.place slot=i)∧
  h.get? S=some oS∧oS.data= .set L.toArray ep t
section
variable {prog:Program} {w:World} {A:Around} {E:Value→Shared→Prop} {s:Shared}
theorem zfF {Q:Bool→Shared→Prop}(h:Q (w.params.followText "set-order") s):wpAny (model prog w) A setsByText Q E s:=by
 unfold setsByText
 exact yA (wpAny_askSetting (yC h))
theorem zlg {S:Addr}{ep slot i:Nat}{t:SetTable}{L:List (Int×Value)}{o:Obj}{Q:Option (Value×Nat)→Shared→Prop}(ho:s.heap.get? S=some o)(hd:o.data= .set L.toArray ep t)(htab:okW t L.length (zeD w)=true)(hb:w.params.followText "set-order" =false→xY t.place slot=i)
  (h1:∀ v nx,(zbY w S ep L)[i]? =some v→xY t.place nx=i+1→w.params.followText "set-order" =false→Q (some (v,nx)) s)
  (h2:∀ v,(zbY w S ep L)[i]? =some v→w.params.followText "set-order" =true→Q (some (v,slot)) s)
  (h3:(zbY w S ep L)[i]? =none→Q none s):
  wpAny (model prog w) A (setNext S slot i ep) Q E s:=by
 obtain ⟨hfit,hpl,hl,_,hwk⟩:=zh2 htab
 have hf:t.fits L.toArray.size=true:=by rw [yP];exact hfit
 unfold setNext
 refine yA (wpAny_setState_of ho hd hf ?_)
 dsimp only
 refine yA (zfF ?_)
 by_cases hx:w.params.followText "set-order" =true
 ·rw [hx]
  simp only [if_true]
  rw [if_neg (by simp)]
  refine yA ?_
  unfold setWalk
  refine yA (wpAny_setState_of ho hd hf ?_)
  dsimp only
  refine yA (zfF ?_)
  rw [hx]
  simp only [if_true]
  refine yA (wpAny_askSetting (yC ?_))
  have hv:(zbY w S ep L)[i]? =((pickOrder (w.params.setOrder S ep) L.toArray)[i]?).map (·.2):=by
   unfold zbY
   rw [if_pos hx,yJ,ybu]
  show wpAny _ _ (pure (((pickOrder (w.params.setOrder S ep) L.toArray)[i]?).map fun e=>(e.2,slot))) _ _ _
  cases hq:(pickOrder (w.params.setOrder S ep) L.toArray)[i]? with
  | none=>
   rw [hq] at hv
   exact yC (h3 hv)
  | some e=>
   rw [hq] at hv
   exact yC (h2 e.2 hv hx)
 ·have hx':w.params.followText "set-order" =false:=by simpa using hx
  rw [hx']
  simp only [jN,if_false]
  have hled':t.led=true:=by rw [hl];unfold zeD;rw [hx'];rfl
  have hv:(zbY w S ep L)[i]? =(L[i]?).map fun p=>p.2:=by
   unfold zbY
   rw [if_neg hx,yJ]
  split
  ·rename_i hdr
   have hdr':(!t.plain && decide (L.toArray.size > 1))=true:=hdr
   rw [hpl] at hdr'
   exact Bool.noConfusion hdr'
  ·refine yA ?_
   show wpAny _ _ (if (!t.led && !L.toArray.isEmpty)=true then unsupported "set:maker-not-led" else pure ()) _ _ _
   rw [hled']
   refine yC ?_
   rw [hb hx']
   cases hq:L[i]? with
   | none=>
    have e1:L.toArray[i]? =none:=by rw [ybv,hq]
    rw [hq] at hv
    rw [e1]
    exact yC (h3 hv)
   | some p=>
    have e1:L.toArray[i]? =some p:=by rw [ybv,hq]
    have hi:i < L.length:=(yE.mp hq).1
    obtain ⟨j,hj,hw2⟩:=hwk i hi
    rw [hq] at hv
    rw [e1,hj]
    exact yC (h1 _ (j+1) hv hw2 hx')
theorem zcC {I S:Addr}{ep:Nat}{t:SetTable}{L:List (Int×Value)}{i:Nat}(h:zdF w s.heap I S ep t L i):s.TypeIs (.ref I) "set_iterator" :=by
 obtain ⟨o,oS,slot,ho,hc,_⟩:=h
 exact ⟨o,ho,hc⟩
theorem zjF (w:World)(S:Addr)(ep:Nat)(L:List (Int×Value)):(zbY w S ep L).length=L.length:=by
 rw [(zfA w S ep L).length_eq,yB]
theorem zgt {I S:Addr}{ep:Nat}{t:SetTable}{L:List (Int×Value)}{i:Nat}{v:Value}{Q:Option Value→Shared→Prop}(htab:okW t L.length (zeD w)=true)(hIS:S≠I)(hit:zdF w s.heap I S ep t L i)
  (hv:(zbY w S ep L)[i]? =some v) (hQ:∀ h',zdF w h' I S ep t L (i+1)→qX I s.heap h'→Q (some v) {s with heap:=h'}):wpAny (model prog w) A (pyNext (.ref I)) Q E s:=by
 have hT:=zcC hit
 obtain ⟨o,oS,slot,ho,hc,hd,hb,hoS,hdS⟩:=hit
 have hf:t.fits L.toArray.size=true:=by rw [yP];exact (zh2 htab).1
 unfold pyNext
 refine yA (wpAny_attempt (wpAny_callSpecial?_slot (name:=xQ "__next__") hT zaY
  (wpAny_call_entry zaY hT zcB ?_ (zcL _))))
 unfold Builtin.«set_iterator.__next__»
 refine yA (yC ?_)
 refine yA (wpAny_fieldsOf ho hd ?_)
 dsimp only
 refine yA (wpAny_setEntries_of hoS hdS hf ?_)
 rw [if_neg (by rw [yP];simp)]
 simp only [jM]
 have fin:∀ nx:Nat,(w.params.followText "set-order" =false→xY t.place nx=i+1)→wpAny (model prog w) A.in1 (do
    setField (Value.ref I) 0 (rawInt ↑nx)
    setField (Value.ref I) 1 (rawInt (↑i+1))
    ret v) (fun fin s'=>∃ v,fin=Fin.done (Flow.ret v)∧wpAny (model prog w) A (pure (some v)) Q E s') (fun e s'=>wpAny (model prog w) A (do
     let __do_lift ← isInstance e (Value.type "StopIteration")
     if __do_lift=true then pure none else throw e) Q E s') s:=by
  intro nx hnx
  refine yA (wpAny_setField ho hd (by simp) ?_)
  have ho2:=xC (xO (·.setIfInBounds 0 (rawInt (nx:Int)))) ho (kU (xI hd _))
  have hd2:=xI hd (·.setIfInBounds 0 (rawInt (nx:Int)))
  refine yA (wpAny_setField ho2 hd2 (by simp) ?_)
  have ho3:=xC (xO (·.setIfInBounds 1 (rawInt ((i:Int)+1)))) ho2 (kU (xI hd2 _))
  have hd3:=xI hd2 (·.setIfInBounds 1 (rawInt ((i:Int)+1)))
  have hsb:=(jS s.heap I (xO (·.setIfInBounds 0 (rawInt (nx:Int))))).trans (jS _ I (xO (·.setIfInBounds 1 (rawInt ((i:Int)+1)))))
  refine yC ⟨v,rfl,yC (hQ _ ⟨_,oS,nx,ho3,?_,?_,hnx,(hsb.2 S hIS).trans hoS,hdS⟩ hsb)⟩
  ·exact ((yag ..).trans (yag ..)).trans hc
  ·rw [hd3];simp [rawInt]
 refine yA (zlg hoS hdS htab hb (fun v' nx hv' hnx _=>?_) (fun v' hv' hx=>?_) fun hv'=>?_)
 ·rw [hv] at hv'
  cases hv'
  exact fin nx fun _=>hnx
 ·rw [hv] at hv'
  cases hv'
  exact fin slot fun z=>by rw [hx] at z;cases z
 ·rw [hv] at hv'
  cases hv'
theorem zg0 {I S:Addr}{ep:Nat}{t:SetTable}{L:List (Int×Value)}{i:Nat}{Q:Option Value→Shared→Prop}(hh:A.handled=none)(htab:okW t L.length (zeD w)=true)(hit:zdF w s.heap I S ep t L i)
  (hv:(zbY w S ep L)[i]? =none) (hQ:∀ h',ya5 I s.heap h'→Q none {s with heap:=h'}):wpAny (model prog w) A (pyNext (.ref I)) Q E s:=by
 have hT:=zcC hit
 obtain ⟨o,oS,slot,ho,hc,hd,hb,hoS,hdS⟩:=hit
 have hf:t.fits L.toArray.size=true:=by rw [yP];exact (zh2 htab).1
 unfold pyNext
 refine yA (wpAny_attempt (wpAny_callSpecial?_slot (name:=xQ "__next__") hT zaY
  (wpAny_call_entry zaY hT zcB ?_ (zcL _))))
 unfold Builtin.«set_iterator.__next__»
 refine yA (yC ?_)
 refine yA (wpAny_fieldsOf ho hd ?_)
 dsimp only
 refine yA (wpAny_setEntries_of hoS hdS hf ?_)
 rw [if_neg (by rw [yP];simp)]
 simp only [jM]
 refine yA (zlg hoS hdS htab hb (fun v' nx hv' hnx _=>?_) (fun v' hv' hx=>?_) fun hv'=>?_)
 ·rw [hv] at hv'
  cases hv'
 ·rw [hv] at hv'
  cases hv'
 ·refine yA (wpAny_setField ho hd (by simp) ?_)
  show wpAny _ _ (newExc (.type "StopIteration") [] >>=_) _ _ _
  refine yA ?_
  simp only [newExc,newTuple]
  refine yA (wpAny_newObj_type ?_ (by size_fits))
  refine yA (m:=firstArgMember _ _) (wpAny_of_eq (a:=Value.none) (by first | rfl | (simp only [firstArgMember];rfl)) ?_)
  refine wpAny_newObj_type ?_ (by size_fits)
  simp only [raiseNew]
  refine yA (wpAny_handled ?_)
  rw [show A.in1.handled=none from hh]
  refine yA (yC (wpAny_throw ?_))
  refine yA (wpAny_isInstance (T:="StopIteration") (b:=true) ⟨_,yO _ rfl,rfl⟩ isSubtype_stop ?_)
  exact yC (hQ _ (((jS ..).extBut.push _).push _))
theorem zhm {I S:Addr}{ep:Nat}{t:SetTable}{L:List (Int×Value)}{i:Nat}{Q:Value→Shared→Prop}(hit:zdF w s.heap I S ep t L i)(h:Q (.ref I) s):
  wpAny (model prog w) A (pyIter (.ref I)) Q E s:=by
 refine wpAny_pyIter_slot (zcC hit) zcQ (wpAny_call_entry zcQ (zcC hit) zej ?_ (zep _))
 show wpAny _ _ (ret (.ref I)) _ _ s
 exact yC ⟨_,rfl,"set_iterator",_,zcC hit,zaY.lookup,h⟩
theorem zdF.at {h h':Heap}{I S:Addr}{ep:Nat}{t:SetTable}{L:List (Int×Value)}{i:Nat}(x:zdF w h I S ep t L i)(hI:∀ o,h.get? I=some o→h'.get? I=some o)(hS:∀ o,h.get? S=some o→h'.get? S=some o):zdF w h' I S ep t L i:=by
 obtain ⟨o,oS,slot,ho,hc,hd,hb,hoS,hdS⟩:=x
 exact ⟨o,oS,slot,hI _ ho,hc,hd,hb,hS _ hoS,hdS⟩
theorem zj3 (hh:A.handled=none)(I S:Addr)(hne:S≠I)(ep:Nat)(t:SetTable)(L:List (Int×Value))(htab:okW t L.length (zeD w)=true):
  Walks prog w A I [I,S] [I] (zbY w S ep L).length (fun i v=>(zbY w S ep L)[i]? =some v) (fun i h=>zdF w h I S ep t L i) where
 sub:=fun b hb=>by simp at hb;simp [hb]
 frame:=fun _ _ _ st hk=>st.at (fun o e=>hk I (by simp) o e) (fun o e=>hk S (by simp) o e)
 item:=fun i s Q E hi st hQ=>by
  refine zgt htab hne st (yF hi) fun h' hit' hs'=>?_
  exact hQ _ h' s.toks (yF hi) hit' fun b o hb e=>hs'.extBut b o (fun h=>hb (by simp [h])) e
 done:=fun s Q E st hQ=>zg0 hh htab st (vL (yL _)) fun h' he'=>hQ h' s.toks fun b o hb e=>he' b o (fun h=>hb (by simp [h])) e
 self:=fun _ _ _ _ st hQ=>zhm st hQ
end
section
variable {prog:Program} {w:World} {A:Around} {E:Value→Shared→Prop} {s:Shared}
theorem zky {S:Addr}{t:SetTable}{L:List (Int×Value)}{Q:Value→Shared→Prop}(hS:∃ o ep,s.heap.get? S=some o∧o.ExactSet∧o.data= .set L.toArray ep t)(htab:okW t L.length (zeD w)=true)
  (h:∀ ep:Nat,zdF w (s.heap.push {cls:=.type "set_iterator",data:=.fields #[.int 0 0,.int 0 0,.ref S,.int (L.length:Nat) 0,.int ep 0]}) s.heap.objs.size S ep t L 0→
   Q (.ref s.heap.objs.size) {s with heap:=s.heap.push {cls:=.type "set_iterator",data:=.fields #[.int 0 0,.int 0 0,.ref S,.int (L.length:Nat) 0,.int ep 0]}}):
  wpAny (model prog w) A (pyIter (.ref S)) Q E s:=by
 obtain ⟨o,ep,ho,hex,hd⟩:=hS
 obtain ⟨hfit,hpl,_,hwk,_⟩:=zh2 htab
 have hf:t.fits L.toArray.size=true:=by rw [yP];exact hfit
 have hT:s.TypeIs (.ref S) "set" :=⟨o,ho,hex.1⟩
 refine wpAny_pyIter_slot hT ybw (wpAny_call_entry ybw hT zfy ?_ (PySem.F.args_set_iter_1 _))
 unfold Builtin.«frozenset.__iter__»
 refine yA (m:=Builtin.Frozenset.slot0 _ _) (yC ?_)
 refine yA ?_
 unfold Builtin.Frozenset.sizeOf
 refine yA (wpAny_setEntries_of ho hd hf (yC ?_))
 refine yA ?_
 unfold setDrawn
 refine yA (wpAny_setState_of ho hd hf ?_)
 refine yA (zfF (yC ?_))
 dsimp only
 split
 ·rename_i hdr
  exfalso
  have hdr':(!w.params.followText "set-order" && (!t.plain && decide (L.toArray.size > 1)))=true:=hdr
  rw [hpl] at hdr'
  simp at hdr'
 ·refine yA (yC ?_)
  refine yA (wpAny_setEpoch_of ho hd hf ?_)
  rw [yP]
  refine yA (wpAny_newObj_type (yC ⟨_,rfl,"set_iterator",_,⟨_,yO _ rfl,rfl⟩,zaY.lookup,?_⟩))
  exact h ep ⟨_,o,0,yO _ rfl,rfl,rfl,fun _=>hwk,yD _ ho,hd⟩
theorem zhW {S:Addr}{t:SetTable}{L:List (Int×Value)}{Q:List Value→Shared→Prop}(hh:A.handled=none)(hl64:L.length≤64)(hS:∃ o ep,s.heap.get? S=some o∧o.ExactSet∧o.data= .set L.toArray ep t)(htab:okW t L.length (zeD w)=true)
  (hQ:∀ s' vs,vX vs (L.map fun p=>p.2)→Moved [] (fun a b=>b=a) s s'→Q vs s'):wpAny (model prog w) A (collect (.ref S)) Q E s:=by
 have hS0:=hS
 obtain ⟨o,ep0,ho,hex,hd⟩:=hS0
 have hlt:S < s.heap.objs.size:=yS ho
 have hSD:s.heap.objs.size≠S:=yaK hlt
 unfold collect
 refine yA (wpAny_runValue (codeAny_builtin PySem.F.entry_proto_collect ?_))
 rw [jL PySem.F.plain_proto_collect _]
 show wpAny _ A.in1 (newList [] >>=fun l=>again (.builtin "list.__iadd__" ⟨[l,.ref S],[]⟩)) _ _ s
 refine yA (wpAny_newObj_type ?_)
 refine yC ⟨plainId_quiet ya7 _,codeAny_builtin PySem.F.entry_list_iadd ?_⟩
 rw [jL ya7 _]
 have hS1:∃ o ep,(s.heap.push {cls:=.type "list",data:=.seq ([]:List Value).toArray}).get? S=some o∧o.ExactSet∧o.data= .set L.toArray ep t:=⟨o,ep0,yD _ ho,hex,hd⟩
 have hT:∀ h',h'.get? S=some o→ya4 {s with heap:=h'} (.ref S) "set" :=fun h' e=>⟨o,e,hex.1⟩
 show wpAny _ A.in1 (yaF (.ref s.heap.objs.size) (.ref S) (.ref s.heap.objs.size)) _ _ _
 unfold yaF
 have hoS1:(s.heap.push {cls:=.type "list",data:=.seq ([]:List Value).toArray}).get? S=some o:=yD _ ho
 refine yA (wpAny_typeOf (hT _ hoS1) ?_)
 have h1:yaX (.ref s.heap.objs.size) (.ref S)=false:=by simp [yaX,hSD]
 have h2:(Value.type "set" ==Value.type "list")=false:=by decide
 have h3:(Value.type "set" ==Value.type "tuple")=false:=by decide
 simp only [h1,h2,h3,Bool.or_false,jN,if_false]
 refine yA (zky (s:={s with heap:=s.heap.push {cls:=.type "list",data:=.seq ([]:List Value).toArray}}) hS1 htab fun ep hit=>?_)
 refine yA (wpAny_holding ?_)
 unfold Builtin.List.listLengthHint
 dsimp only at hit ⊢
 have hoS2:=yD {cls:=.type "set_iterator",data:=.fields #[.int 0 0,.int 0 0,.ref S,.int (L.length:Nat) 0,.int ep 0]} hoS1
 refine yA (wpAny_specialOf (hT _ hoS2) ziJ ?_)
 generalize hid:("set.__len__" :String)=id0
 wp_delta
 rw [show splitId id0=some ("set","__len__") from by subst hid;decide+kernel]
 subst hid
 refine yA (wpAny_isInstance (b:=true) (hT _ hoS2) sub_set_self ?_)
 rw [if_neg (show ¬((!true)=true) from yQ)]
 rw [if_pos (by decide+kernel)]
 refine yA (wpAny_typeOf (hT _ hoS2) ?_)
 refine yC ?_
 rw [if_pos (by decide+kernel)]
 refine yA (wpAny_rule ?_)
 have hneI:S≠(s.heap.push {cls:=.type "list",data:=.seq ([]:List Value).toArray}).objs.size:=by
  rw [vN];exact qA (yai hlt)
 have hD1:(s.heap.push {cls:=.type "list",data:=.seq ([]:List Value).toArray}).get? s.heap.objs.size=some {cls:=.type "list",data:=.seq ([]:List Value).toArray}:=yO _ rfl
 have hDI:s.heap.objs.size≠(s.heap.push {cls:=.type "list",data:=.seq ([]:List Value).toArray}).objs.size:=by
  rw [vN];exact qA (yar _)
 generalize hI:(s.heap.push {cls:=.type "list",data:=.seq ([]:List Value).toArray}).objs.size=I at hit hneI hDI ⊢
 have hD2:=yD {cls:=.type "set_iterator",data:=.fields #[.int 0 0,.int 0 0,.ref S,.int (L.length:Nat) 0,.int ep 0]} hD1
 generalize hH2:(s.heap.push {cls:=.type "list",data:=.seq ([]:List Value).toArray}).push {cls:=.type "set_iterator",data:=.fields #[.int 0 0,.int 0 0,.ref S,.int (L.length:Nat) 0,.int ep 0]}=H2 at hit hD2 hoS2 ⊢
 have keep2:∀ b ob,s.heap.get? b=some ob→H2.get? b=some ob:=fun b ob e=>by rw [← hH2];exact yD _ (yD _ e)
 refine yA ?_
 show wpAny _ A.in1 (updateSeq s.heap.objs.size (·.push .none) >>=fun _=>updateSeq s.heap.objs.size (·.pop)) _ _ _
 refine yA (wpAny_updateSeq hD2 rfl ?_)
 have hD3:=xC (vI (·.push Value.none)) hD2 rfl
 refine wpAny_updateSeq hD3 rfl ?_
 have hD4:=xC (vI (·.pop)) hD3 rfl
 have oth:∀ b o,b≠s.heap.objs.size→H2.get? b=some o→((H2.update s.heap.objs.size (vI (·.push Value.none))).update s.heap.objs.size (vI (·.pop))).get? b=some o:=
  fun b o hb e=>(qW _ _ (qR hb)).trans ((qW _ _ (qR hb)).trans e)
 have hit4:zdF w ((H2.update s.heap.objs.size (vI (·.push Value.none))).update s.heap.objs.size (vI (·.pop))) I S ep t L 0:=
  hit.at (fun o e=>oth I o (qR hDI) e) (fun o e=>oth S o (qR hSD) e)
 have hh3:A.in1.in1.handled=none:=by simp [hh]
 have W:=(zj3 (prog:=prog) (w:=w) (A:=A.in1) (by simp [hh]) I S hneI ep t L htab).toS
 have hlen4:(zbY w S ep L).length≤yK:=by rw [zjF,sizeLine_eq];omega
 refine yC ⟨plainId_quiet PySem.F.plain_extend_loop _,codeAny_extend_loopS W hlen4 s.heap.objs.size (by simp only [yY,jU,or_false,not_or];exact ⟨hDI,hSD⟩) _ (zbY w S ep L).length 0 _ _ _ rfl (qM _) hit4 hD4 (ItemsOf.nil _) fun s' acc' c' hm hS' hacc=>?_⟩
 show wpAny _ A (load s.heap.objs.size >>=_) _ _ s'
 refine yA (wpAny_load hS' ?_)
 have eacc:acc'.toList=zbY w S ep L:=by
  refine vA fun j=>?_
  by_cases hj:j < (zbY w S ep L).length
  ·have hj2:j < acc'.size:=by rw [hacc.1];exact hj
   have:=hacc.2 j acc'[j] (yaS hj2)
   rw [ybu,yaS hj2,this]
  ·exact (vL (by rw [kA,hacc.1];omega)).trans (vL (by omega)).symm
 refine yC (hQ s' acc'.toList (by rw [eacc];exact zfA w S ep L) ⟨fun b ob _ e=>?_,hm.gens,hm.drawn,hm.os,hm.toks⟩)
 have hb:b < s.heap.objs.size:=yS e
 have hb1:b≠s.heap.objs.size:=qA hb
 refine hm.heap b ob ?_ (oth b ob hb1 (keep2 b ob e))
 simp only [yY,jU,or_false,not_or]
 refine ⟨hb1,?_⟩
 rw [← hI,vN]
 exact qA (yai hb)
end
theorem UpI.cut:∀ {ds es:List Nat} {lo:Nat},UpI lo (ds++es)→UpI lo ds
 | [],_,_,_=>trivial
 | _::_,_,_,⟨a,b,c⟩=>⟨a,b,UpI.cut c⟩
theorem zd9.keep {h h':Heap}{S:Addr}{led:Bool}{L:List (Nat×Tok)}(x:zd9 h S led L)(k:∀ o,h.get? S=some o→h'.get? S=some o):zd9 h' S led L:=let ⟨o,ep,e,r⟩:=x;⟨o,ep,k o e,r⟩
section
variable {prog:Program} {w:World} {A:Around} {R:Result→Shared→Prop}
theorem ze7 {S I l:Addr}{items:Array Value}{h0:Heap}{xs:List (Nat×Tok)}{led:Bool}(hA:A.in1.handled=none)(hlI:l≠I)(hSI:S≠I)(hSl:S≠l)
  (hS0:h0.get? S=none) (hI0:h0.get? I=none) (up:UpI 0 (xs.map jI))
  (good:∀ (i:Nat) (x:Nat×Tok),xs[i]? =some x→items[i]? =some (Value.int ((x.1:Nat):Int) x.2)) (hn:items.size=xs.length):
  ∀ (k i:Nat) (s:Shared),xs.length - i=k→i≤xs.length→s.heap.IsListIter I l i→s.heap.IsList l items→zd9 s.heap S led (xs.take i)→
   (∀ b o,h0.get? b=some o→s.heap.get? b=some o)→
   (∀ h' tk,zd9 h' S led xs→(∀ b o,h0.get? b=some o→h'.get? b=some o)→R (.ok (.ret .none)) {s with heap:=h',toks:=tk})→
   codeAny (model prog w) A (.builtin "set.update.loop" ⟨[.ref S,.ref I],[]⟩) R s:=by
 have W:=yaz (prog:=prog) (w:=w) hA I l hlI items
 intro k
 induction k with
 | zero=>
  intro i s hk hi hit hl hm hkeep hR
  have hin:i=items.size:=by omega
  refine codeAny_builtin wF ?_
  rw [jL xZ _]
  show wpAny _ A.in1 (pyNext (.ref I) >>=_) _ _ s
  refine yA (W.done s _ _ (by rw [← hin];exact ⟨hit,hl⟩) fun h' tk hk'=>?_)
  have hk2:∀ b o,b≠I→s.heap.get? b=some o→h'.get? b=some o:=fun b o hb e=>hk' b o (by simpa using hb) e
  have et:xs.take i=xs:=xD (by omega)
  rw [et] at hm
  show wpAny _ A.in1 (ret Value.none) _ _ _
  exact yC (hR h' tk (hm.keep fun o e=>hk2 S o hSI e) fun b o e=>hk2 b o (fun z=>by rw [z,hI0] at e;cases e) (hkeep b o e))
 | succ k ih=>
  intro i s hk hi hit hl hm hkeep hR
  have hlt:i < xs.length:=by omega
  have hp:=good i xs[i] (yF hlt)
  have htk:xs.take (i+1)=xs.take i++ [xs[i]]:=by rw [yR,yF hlt];rfl
  refine codeAny_builtin wF ?_
  rw [jL xZ _]
  show wpAny _ A.in1 (pyNext (.ref I) >>=_) _ _ s
  refine yA (W.item i s _ _ (by omega) ⟨hit,hl⟩ fun v h' tk hP hst' hk'=>?_)
  rw [hp] at hP
  cases hP
  have hk2:∀ b o,b≠I→s.heap.get? b=some o→h'.get? b=some o:=fun b o hb e=>hk' b o (by simpa using hb) e
  have hkeep':∀ b o,h0.get? b=some o→h'.get? b=some o:=fun b o e=>hk2 b o (fun z=>by rw [z,hI0] at e;cases e) (hkeep b o e)
  have hm':=hm.keep fun o e=>hk2 S o hSI e
  have hup:UpI 0 ((xs.take i).map jI++ [xs[i].1]):=by
   have e:xs.map jI=((xs.take i).map jI++ [xs[i].1])++(xs.drop (i+1)).map jI:=by
    rw [show (xs.take i).map jI++ [xs[i].1]=(xs.take (i+1)).map jI by rw [htk,yN];rfl,← yN,vM]
   rw [e] at up
   exact up.cut
  show wpAny _ A.in1 (holding [Value.int ((xs[i].1:Nat):Int) xs[i].2] (setAdd S (.int ((xs[i].1:Nat):Int) xs[i].2)) >>=_) _ _ _
  refine yA (wpAny_holding (zmL (s:={s with heap:=h',toks:=tk}) hm' hup fun h2 tk' hsb hm2=>?_))
  have hk3:∀ b o,b≠S→h'.get? b=some o→h2.get? b=some o:=fun b o hb e=>(hsb.2 b hb).trans e
  refine yC ⟨plainId_quiet xZ _,ih (i+1) _ (by omega) (by omega) (hst'.1.at fun o e=>hk3 _ _ (qR hSI) e) (hst'.2.at fun o e=>hk3 _ _ (qR hSl) e) ?_ (fun b o e=>hk3 b o (fun z=>by rw [z,hS0] at e;cases e) (hkeep' b o e)) fun h3 tk3 a b=>hR h3 tk3 a b⟩
  rw [htk]
  exact hm2
end
section
variable {prog:Program} {w:World} {A:Around} {E:Value→Shared→Prop} {s:Shared}
set_option maxRecDepth 100000 in
set_option maxHeartbeats 3200000 in
theorem zhv {l:Addr}{items:Array Value}{xs:List (Nat×Tok)}{Q:Value→Shared→Prop}
  (hh:A.handled=none) (hl:s.heap.IsList l items) (up:UpI 0 (xs.map jI))
  (good:∀ (i:Nat) (x:Nat×Tok),xs[i]? =some x→items[i]? =some (Value.int ((x.1:Nat):Int) x.2)) (hn:items.size=xs.length)
  (h:∀ h' tk,zd9 h' s.heap.objs.size (zeD w) xs→(∀ b o,s.heap.get? b=some o→h'.get? b=some o)→Q (.ref s.heap.objs.size) {s with heap:=h',toks:=tk}):
  wpAny (model prog w) A (call (.type "set") [.ref l]) Q E s:=by
 obtain ⟨c,tl,hmro⟩:=xJ.mro
 have hmade:=xJ.made
 have hsub:=xJ.sub
 refine wpAny_call (codeAny_of_tree ?_)
 show wpAny _ _ (callAny (.type "set") _) _ _ _
 refine yC ⟨Code.quiet_builtin _ (by decide+kernel),codeAny_builtin PySem.F.entry_type_call ?_⟩
 rw [Around.under_plain (weight_type_call_type "set" [.ref l] []) rfl]
 have h1:=xJ.notType
 have h2:=xJ.canCreate
 have hct:=PySem.F.typeCall_set_1 (.ref l)
 repeat (any_goals (first | assumption | wp_step))
 refine codeAny_mono (zhg (.ref l) (E:=E) (Q₁ :=fun obj s₁ =>obj= .ref s.heap.objs.size∧s₁ = {s with heap:=s.heap.push {cls:=.type "set",dict:=none,data:=.set #[] 0 (.fresh 0 0 (zeD w))}}) ⟨rfl,rfl⟩) fun r s₁ hr=>?_
 cases r with
 | error e=>exact hr
 | ok fl=>
  cases fl with
  | ret obj=>
   obtain ⟨rfl,rfl⟩:=hr
   generalize hled:zeD w=led at h ⊢
   have hS:(s.heap.push {cls:=.type "set",dict:=none,data:=.set #[] 0 (.fresh 0 0 led)}).get? s.heap.objs.size=some {cls:=.type "set",dict:=none,data:=.set #[] 0 (.fresh 0 0 led)}:=yO _ rfl
   have hT:ya4 {s with heap:=s.heap.push {cls:=.type "set",dict:=none,data:=.set #[] 0 (.fresh 0 0 led)}} (.ref s.heap.objs.size) "set" :=⟨_,hS,rfl⟩
   have hli:=xJ.init.lookup
   have hbi:=xJ.init.bind (.ref s.heap.objs.size)
   repeat (any_goals (first | assumption | wp_step))
   refine codeAny_mono (codeAny_call_builtin (R:=wants (fun r s₂ =>r= .none∧∃ h' tk,s₂ = {s with heap:=h',toks:=tk}∧
     zd9 h' s.heap.objs.size led xs∧
     (∀ b o,s.heap.get? b=some o→h'.get? b=some o)) E) xJ.init.plain PySem.F.entry_set_init (check_set_init_1 hT ?_)) fun r₂ s₂ hr₂ =>?_
   ·obtain ⟨ol,hol,hcl,nl,hdl⟩:=hl
    obtain ⟨ocls,odict,odata,oslots⟩:=ol
    simp only at hcl hdl
    subst hcl;subst hdl
    have hol':(s.heap.push {cls:=.type "set",dict:=none,data:=.set #[] 0 (.fresh 0 0 led)}).get? l=some {cls:=.type "list",dict:=odict,data:=.seq items nl,slots:=oslots}:=yD _ hol
    have hsls:=PySem.F.sub_list_set
    have hslf:=PySem.F.sub_list_frozenset
    have hne:(Value.type "list" ==Value.type "dict")=false:=by decide
    have hl1:(s.heap.push {cls:=.type "set",dict:=none,data:=.set #[] 0 (.fresh 0 0 led)}).IsList l items:=⟨_,hol',rfl,nl,rfl⟩
    unfold Builtin.«set.__init__» noKeywords Builtin.Frozenset.updateFrom
    generalize hPI:pyIter=PI
    wp_walk
    subst hPI
    refine wpAny_pyIter_list hl1 ?_
    refine yA (wpAny_runValue ?_)
    have hlS:l < s.heap.objs.size:=yS hol
    have hh3:A.in1.in1.in1.handled=none:=by simp [hh]
    have hneI:l≠(s.heap.push {cls:=.type "set",dict:=none,data:=.set #[] 0 (.fresh 0 0 led)}).objs.size:=by
     rw [vN];exact qA (yai hlS)
    refine ze7 (h0:=s.heap) (xs:=xs) (led:=led) hh3 hneI ?hSI (yaK hlS) ?hS0 ?hI0 up good hn (xs.length - 0) 0 _ (by omega) (qM _)
     ⟨_,yO _ rfl,rfl,rfl⟩ (hl1.push _) ?hP ?hK ?hR
    case hSI=>rw [vN];exact qA (yar _)
    case hS0=>
     cases hq:s.heap.get? s.heap.objs.size with
     | none=>rfl
     | some o'=>exact absurd (yS hq) (vJ _)
    case hI0=>
     cases hq:s.heap.get? (s.heap.push {cls:=.type "set",dict:=none,data:=.set #[] 0 (.fresh 0 0 led)}).objs.size with
     | none=>rfl
     | some o'=>
      have:=yS hq
      rw [vN] at this
      exact absurd (Nat.lt_of_succ_lt this) (vJ _)
    case hP=>exact ⟨_,0,yD _ hS,⟨rfl,rfl,rfl⟩,rfl,trivial⟩
    case hK=>exact fun b o e=>yD _ (yD _ e)
    case hR=>
     intro h' tk' hP hK
     show wpAny _ _ _ _ _ _
     refine yC ?_
     show wpAny _ _ (ret Value.none) _ _ _
     exact yC ⟨rfl,h',tk',rfl,hP,hK⟩
   ·cases r₂ with
    | error e=>exact hr₂
    | ok fl₂ =>
     cases fl₂ with
     | ret r=>
      obtain ⟨rfl,h',tk,rfl,hP,hK⟩:=hr₂
      repeat (any_goals (first | assumption | wp_step))
      exact h _ _ hP hK
     | _=>exact hr₂.elim
  | _=>exact hr.elim
theorem ziw {S:Addr}{L:List (Nat×Tok)}{Q:Value→Shared→Prop}(hh:A.handled=none)(hS:zd9 s.heap S (zeD w) L)
  (h:∀ (out:List Value) (ns:List Int) (D:Addr) s' n',IntsAre out ns→ns.Perm (L.map fun p=>((p.1:Nat):Int))→ns.Pairwise (·≤·)→S < D→s'.heap.get? D=some (seqObj "list" out.toArray n')→Moved [] (fun a b=>b=a) s s'→Q (.ref D) s'):
  wpAny (model prog w) A (call (.builtin "sorted") [.ref S]) Q E s:=by
 obtain ⟨o,ep,ho,hex,hd,up⟩:=hS
 have ok:=(zlR (led:=zeD w) up).1
 have l8:L.length≤8:=by
  rcases up.len with z | z
  ·rw [yB] at z;omega
  ·have:=congrArg wI z;rw [yB] at this;rw [this];exact qM _
 refine Calls.call_function_entry kind_sorted plain_sorted entry_sorted (args_sorted1 _) ?_
 unfold Builtin.«sorted»
 refine yA (m:=checkCount "sorted" 1 1 _) (yC ?_)
 refine yA (zhW (A:=A.in1) (L:=L.map entI) (t:=tabI (zeD w) (L.map jI)) (by simp [hh]) (by rw [yB];omega) ⟨o,ep,ho,hex,hd⟩ (by rw [yB] at ok ⊢;exact ok) fun s1 vs hp hm=>?_)
 have hp':vs.Perm (L.map fun p=>Value.int ((p.1:Nat):Int) p.2):=by
  rw [kR] at hp
  exact hp
 obtain ⟨L2,p2,rfl⟩:=zf3 hp'
 have hI:IntsAre (L2.map fun p=>Value.int ((p.1:Nat):Int) p.2) (L2.map fun p=>((p.1:Nat):Int)):=by
  clear hp hp' p2
  induction L2 with
  | nil=>exact .nil
  | cons a r ih=>exact .cons _ _ ih
 have hl2:L2.length≤8:=by rw [p2.length_eq];exact l8
 refine yA (wpAny_newList ?_ (by rw [yB,sizeLine_eq];omega))
 have hoD:(s1.heap.push (seqObj "list" (L2.map fun p=>Value.int ((p.1:Nat):Int) p.2).toArray 0)).get? s1.heap.objs.size=some (seqObj "list" (L2.map fun p=>Value.int ((p.1:Nat):Int) p.2).toArray 0):=yO _ rfl
 have hD0:s.heap.get? s1.heap.objs.size=none:=by
  cases hq:s.heap.get? s1.heap.objs.size with
  | none=>rfl
  | some o'=>exact absurd (yS (hm.heap _ _ jU hq)) (vJ _)
 refine yA (wpAny_holding (wpAny_call_entry slot_list_sort ⟨_,hoD,rfl⟩ entry_list_sort (list_sort_tree hoD hI (by rw [yB];omega) fun out ns' a1 a2 a3=>⟨_,rfl,?_⟩) (args_list_sort _)))
 obtain ⟨n',en⟩:∃ n',(sortedHeap (s1.heap.push (seqObj "list" (L2.map fun p=>Value.int ((p.1:Nat):Int) p.2).toArray 0)) s1.heap.objs.size (L2.map fun p=>Value.int ((p.1:Nat):Int) p.2) out).get? s1.heap.objs.size=some (seqObj "list" out n'):=by
  unfold sortedHeap
  exact ⟨_,get?_update_seq (yD _ (yD _ (get?_update_seq hoD fun _=>#[]))) fun _=>out⟩
 refine yC ⟨_,rfl,h out.toList ns' s1.heap.objs.size _ n' a1 (a2.trans (p2.map _)) a3 (yS (hm.heap _ _ jU ho)) (by rw [ybC];exact en) ⟨fun b ob _ e=>?_,hm.gens,hm.drawn,hm.os,hm.toks⟩⟩
 have nb:b≠s1.heap.objs.size:=fun z=>by rw [z,hD0] at e;cases e
 show (sortedHeap _ _ _ _).get? b=_
 unfold sortedHeap
 refine (qW _ _ (qR nb)).trans (yD _ (yD _ ?_))
 exact (qW _ _ (qR nb)).trans (yD _ (hm.heap _ _ jU e))
end
noncomputable def zf1 (K:PySem.W.Frag) (te:TE):TE:=fun σ H Q=>te σ H fun v H1=>∃ (l:Addr) (cs:List Nat),v= .ref l∧SqL K H1 l (cs.map fun c=>V.int ((c:Nat):Int))∧UpI 0 cs∧∀ D,H1 D=none→Q (.ref D) (upd H1 D (.lst (cs.map fun c=>V.int ((c:Nat):Int))))
theorem UpI.low:∀ {cs:List Nat} {lo:Nat},UpI lo cs→∀ c∈cs,lo≤c
 | _::_,_,⟨h1,_,h3⟩,c,hc=>by
  rcases yY.mp hc with rfl | hc
  ·exact h1
  ·have:=UpI.low h3 c hc;omega
theorem UpI.pw:∀ {cs:List Nat} {lo:Nat},UpI lo cs→(cs.map fun c=>((c:Nat):Int)).Pairwise (·≤·)
 | [],_,_=>.nil
 | c::r,lo,⟨h1,h2,h3⟩=>by
  refine yaO.mpr ⟨fun x hx=>?_,UpI.pw h3⟩
  obtain ⟨d,hd,rfl⟩:=qE.mp hx
  have:=UpI.low h3 d hd
  show ((c:Nat):Int)≤((d:Nat):Int)
  omega
theorem zii:∀ {xs ys:List Int},xs.Perm ys→xs.Pairwise (·≤·)→ys.Pairwise (·≤·)→xs=ys:=fun p a b=>p.eq_of_pairwise (fun _ _ _ _ h1 h2=>Int.le_antisymm h1 h2) a b
theorem zl7:∀ {cs:List Nat} {us:List Value},Vals (cs.map fun c=>V.int ((c:Nat):Int)) us→∃ xs:List (Nat×Tok),xs.map jI=cs∧us=xs.map fun p=>Value.int ((p.1:Nat):Int) p.2
 | [],_,h=>by cases h;exact ⟨[],rfl,rfl⟩
 | c::cs,_,h=>by
  cases h with
  | cons a r=>
   obtain ⟨t,rfl⟩:=a
   obtain ⟨xs,e1,e2⟩:=zl7 r
   exact ⟨(c,t)::xs,by rw [← e1];rfl,by rw [e2];rfl⟩
section
variable {X:Cx} {e:Expr} {te:TE} {p p' pos pos':Pos}
theorem zhd (hc:X.calm=true)(hg:Gl X "sorted")(hm:X.mg "sorted" =none)(hg':Gl X "set")(hm':X.mg "set" =none)(ha:PE X e te)
  (he:starEach [e] X.env= [(false,eval e X.env)]:=by rfl)
  (he':starEach [Expr.Call (.Name "set" p') [e] [] pos'] X.env= [(false,eval (Expr.Call (.Name "set" p') [e] [] pos') X.env)]:=by rfl):
  PE X (.Call (.Name "sorted" p) [.Call (.Name "set" p') [e] [] pos'] [] pos) (zf1 X.K te):=by
 intro pins s σ H Q I h
 refine wpAny_Call_Name_kw (zec I hg hm (by rfl) ?_ (by decide) (by decide))
 refine yal (id:="sorted") ?_ he' rfl
 rw [he']
 show wpAny _ _ (spliced ((false,eval (Expr.Call (.Name "set" p') [e] [] pos') X.env)::backTo pos [])) _ _ s
 refine kM ?_
 refine wpAny_Call_Name_kw (zec I hg' hm' (by rfl) ?_ (by decide) (by decide))
 refine jZ (T:="set") ?_ he rfl
 rw [he]
 show wpAny _ _ (spliced ((false,eval e X.env)::backTo pos' [])) _ _ s
 refine kM (thn (ha pins s σ H _ I h) fun u s1 ⟨x,H1,I1,r1,l,cs,ex,hl,hup,q⟩=>?_)
 subst ex
 cases r1
 refine yae ?_
 obtain ⟨its,rv,pl,hz⟩:=I1.list hl
 obtain ⟨xs,ecs,eits⟩:=zl7 rv
 subst eits ecs
 have hA:=I1.ok.hd hc
 refine zhv (xs:=xs) hA pl.isList hup (fun i y hy=>?_) (by simp) fun h' tk hP hK=>?_
 ·simp [hy]
 refine yae ?_
 refine ziw (s:={s1 with heap:=h',toks:=tk}) hA hP fun out ns D s2 n' a1 a2 a3 hSD e3 hmv=>?_
 obtain ⟨h2,g2,d2,tk2,os2⟩:=s2
 have eg:g2=s1.gens:=hmv.gens
 have ed:d2=s1.drawn:=hmv.drawn
 have eo:os2=s1.os:=hmv.os
 subst eg;subst ed;subst eo
 have hf:H1 D=none:=I1.hok.fresh (wP hSD)
 have en:ns=(xs.map jI).map fun c=>((c:Nat):Int):=by
  refine zii (a2.trans (.of_eq ?_)) a3 hup.pw
  rw [kR]
  rfl
 subst en
 have vo:Vals ((xs.map jI).map fun c=>V.int ((c:Nat):Int)) out:=by
  have:=zfX a1
  rw [kR] at this
  exact this
 refine ⟨.ref D,_,I1.laid (a:=D) (o:=.lst ((xs.map jI).map fun c=>V.int ((c:Nat):Int))) (t':=tk2) (fun b ob eb=>hmv.heap b ob jU (hK b ob eb)) (wP hSD) ⟨?_,out,n',vo,e3⟩,rfl,q D hf⟩
 have:=hz
 simpa using this
theorem zgk (hc:X.calm=true)(hg:Gl X "sorted")(hm:X.mg "sorted" =none)(hg':Gl X "set")(hm':X.mg "set" =none)(ha:Bx (PE X e te))
  (he:starEach [e] X.env= [(false,eval e X.env)]:=by rfl)
  (he':starEach [Expr.Call (.Name "set" p') [e] [] pos'] X.env= [(false,eval (Expr.Call (.Name "set" p') [e] [] pos') X.env)]:=by rfl):
  Bx (PE X (.Call (.Name "sorted" p) [.Call (.Name "set" p') [e] [] pos'] [] pos) (zf1 X.K te)):=⟨zhd hc hg hm hg' hm' ha.1 he he'⟩
end
end L2
set_option exponentiation.threshold 3000
namespace My
open PySem L2
open PySem.W (Dat kqdP kqdPs kqdOk)
theorem zeF {us:List Value}(h:us.length=1):∃ x0,us= [x0]:=match us,h with | [x0],_=>⟨x0,rfl⟩
theorem zeR {us:List Value}(h:us.length=2):∃ x0 x1,us= [x0,x1]:=match us,h with | [x0,x1],_=>⟨x0,x1,rfl⟩
theorem zke {us:List Value}(h:us.length=3):∃ x0 x1 x2,us= [x0,x1,x2]:=match us,h with | [x0,x1,x2],_=>⟨x0,x1,x2,rfl⟩
theorem lenV4 {us:List Value}(h:us.length=4):∃ x0 x1 x2 x3,us= [x0,x1,x2,x3]:=match us,h with | [x0,x1,x2,x3],_=>⟨x0,x1,x2,x3,rfl⟩
set_option genInjectivity false
structure Def (K:PySem.W.Frag) (mg:Str→Option Value) (x:Str) (st:Stmt) (ps:List Str) (f:Addr) (fd:FuncData):Prop where
 F:Fun K x x st f fd
 b:zgp K fd ps []
 m:mg x=some (.ref f)
structure DefD (K:PySem.W.Frag) (mg:Str→Option Value) (x:Str) (st:Stmt) (ps:List Str) (f:Addr) (fd:FuncData) (T:Addr) (tk:Tok):Prop where
 F:FunD K x x st f fd T
 b:zgp K fd ps []
 b1:zgp K fd ps [.int 1 tk]
 m:mg x=some (.ref f)
structure Adr where
 f_every_row:Addr
 fd_every_row:FuncData
 f_check_row:Addr
 fd_check_row:FuncData
 f_gate_worth:Addr
 fd_gate_worth:FuncData
 dt_gate_worth:Addr
 tk_gate_worth:Tok
 f_every_fault:Addr
 fd_every_fault:FuncData
 f_worths_with:Addr
 fd_worths_with:FuncData
 dt_worths_with:Addr
 tk_worths_with:Tok
 f_leg_worths:Addr
 fd_leg_worths:FuncData
 f_outputs_with:Addr
 fd_outputs_with:FuncData
 dt_outputs_with:Addr
 tk_outputs_with:Tok
 f_outputs_seen:Addr
 fd_outputs_seen:FuncData
 f_rows_at_once:Addr
 fd_rows_at_once:FuncData
 f_seen_of_each:Addr
 fd_seen_of_each:FuncData
 f_unlike_numbers:Addr
 fd_unlike_numbers:FuncData
 f_finding_rows:Addr
 fd_finding_rows:FuncData
 f_finds_all:Addr
 fd_finds_all:FuncData
 f_fewest_rows:Addr
 fd_fewest_rows:FuncData
 f_need_paper:Addr
 fd_need_paper:FuncData
 f_need_shows:Addr
 fd_need_shows:FuncData
 f_check_inputs:Addr
 fd_check_inputs:FuncData
 f_meets_each:Addr
 fd_meets_each:FuncData
 f_meet:Addr
 fd_meet:FuncData
 f_fewest_numbers:Addr
 fd_fewest_numbers:FuncData
 f_longer_choices:Addr
 fd_longer_choices:FuncData
 f_need_behind:Addr
 fd_need_behind:FuncData
 f_is_need_let_by:Addr
 fd_is_need_let_by:FuncData
 f_law_cell_at:Addr
 fd_law_cell_at:FuncData
 f_law_digits:Addr
 fd_law_digits:FuncData
 f_law_gate:Addr
 fd_law_gate:FuncData
 f_law_works_of:Addr
 fd_law_works_of:FuncData
 f_law_works:Addr
 fd_law_works:FuncData
 f_law_worth:Addr
 fd_law_worth:FuncData
 f_law_outs:Addr
 fd_law_outs:FuncData
 f_law_faults:Addr
 fd_law_faults:FuncData
 f_law_all_rows:Addr
 fd_law_all_rows:FuncData
 f_law_answers:Addr
 fd_law_answers:FuncData
 f_law_finding:Addr
 fd_law_finding:FuncData
 f_law_open:Addr
 fd_law_open:FuncData
 f_law_copy:Addr
 fd_law_copy:FuncData
 f_law_walk:Addr
 fd_law_walk:FuncData
 f_law:Addr
 fd_law:FuncData
 k_MOST_INPUTS:Tok
 lp:Addr
 lb:Addr
structure Txt (K:PySem.W.Frag) (mg:Str→Option Value) (t:Adr):Prop where
 d_every_row:Def K mg "every_row" zdq ["works"] t.f_every_row t.fd_every_row
 d_check_row:Def K mg "check_row" zdf ["works","row"] t.f_check_row t.fd_check_row
 d_gate_worth:DefD K mg "gate_worth" zci ["kind","worths","ones"] t.f_gate_worth t.fd_gate_worth t.dt_gate_worth t.tk_gate_worth
 d_every_fault:Def K mg "every_fault" zcv ["works"] t.f_every_fault t.fd_every_fault
 d_worths_with:DefD K mg "worths_with" zbX ["works","stuck","row","ones"] t.f_worths_with t.fd_worths_with t.dt_worths_with t.tk_worths_with
 d_leg_worths:Def K mg "leg_worths" zcT ["stuck","gate","worths"] t.f_leg_worths t.fd_leg_worths
 d_outputs_with:DefD K mg "outputs_with" zbC ["works","stuck","row","ones"] t.f_outputs_with t.fd_outputs_with t.dt_outputs_with t.tk_outputs_with
 d_outputs_seen:Def K mg "outputs_seen" zcg ["works","stuck"] t.f_outputs_seen t.fd_outputs_seen
 d_rows_at_once:Def K mg "rows_at_once" zb6 ["inputs"] t.f_rows_at_once t.fd_rows_at_once
 d_seen_of_each:Def K mg "seen_of_each" zb9 ["works"] t.f_seen_of_each t.fd_seen_of_each
 d_unlike_numbers:Def K mg "unlike_numbers" zbF ["seen","others"] t.f_unlike_numbers t.fd_unlike_numbers
 d_finding_rows:Def K mg "finding_rows" zca ["works"] t.f_finding_rows t.fd_finding_rows
 d_finds_all:Def K mg "finds_all" zdp ["works","rows"] t.f_finds_all t.fd_finds_all
 d_fewest_rows:Def K mg "fewest_rows" zco ["works"] t.f_fewest_rows t.fd_fewest_rows
 d_need_paper:Def K mg "need_paper" zcW ["works"] t.f_need_paper t.fd_need_paper
 d_need_shows:Def K mg "need_shows" zcN ["works","k","paper"] t.f_need_shows t.fd_need_shows
 d_check_inputs:Def K mg "check_inputs" zb3 ["works"] t.f_check_inputs t.fd_check_inputs
 d_meets_each:Def K mg "meets_each" zcP ["taken","finding"] t.f_meets_each t.fd_meets_each
 d_meet:Def K mg "meet" ziS ["numbers","others"] t.f_meet t.fd_meet
 d_fewest_numbers:Def K mg "fewest_numbers" zbG ["count","finding"] t.f_fewest_numbers t.fd_fewest_numbers
 d_longer_choices:Def K mg "longer_choices" zbE ["choices","count"] t.f_longer_choices t.fd_longer_choices
 d_need_behind:Def K mg "need_behind" zbW ["finding","taken","k"] t.f_need_behind t.fd_need_behind
 d_is_need_let_by:Def K mg "is_need_let_by" zbJ ["finding","taken","k","paper"] t.f_is_need_let_by t.fd_is_need_let_by
 d_law_cell_at:Def K mg "_law_cell_at" zcr ["script","k"] t.f_law_cell_at t.fd_law_cell_at
 d_law_digits:Def K mg "_law_digits" zcJ ["cell","many","top"] t.f_law_digits t.fd_law_digits
 d_law_gate:Def K mg "_law_gate" zdZ ["cell","wires"] t.f_law_gate t.fd_law_gate
 d_law_works_of:Def K mg "_law_works_of" zb7 ["script","inputs","most"] t.f_law_works_of t.fd_law_works_of
 d_law_works:Def K mg "_law_works" zdg ["script","most"] t.f_law_works t.fd_law_works
 d_law_worth:Def K mg "_law_worth" zdo ["kind","legs"] t.f_law_worth t.fd_law_worth
 d_law_outs:Def K mg "_law_outs" zdY ["works","fault","row"] t.f_law_outs t.fd_law_outs
 d_law_faults:Def K mg "_law_faults" zcR ["works"] t.f_law_faults t.fd_law_faults
 d_law_all_rows:Def K mg "_law_all_rows" zcf ["inputs"] t.f_law_all_rows t.fd_law_all_rows
 d_law_answers:Def K mg "_law_answers" zcq ["works"] t.f_law_answers t.fd_law_answers
 d_law_finding:Def K mg "_law_finding" zcu ["works"] t.f_law_finding t.fd_law_finding
 d_law_open:Def K mg "_law_open" zdX ["finding","taken"] t.f_law_open t.fd_law_open
 d_law_copy:Def K mg "_law_copy" zdS ["works"] t.f_law_copy t.fd_law_copy
 d_law_walk:Def K mg "_law_walk" zd4 ["finding","taken","k","paper"] t.f_law_walk t.fd_law_walk
 d_law:Def K mg "law" zhz ["script"] t.f_law t.fd_law
 z_all:mg "all" =none
 z_any:mg "any" =none
 z_dict:mg "dict" =none
 z_enumerate:mg "enumerate" =none
 z_int:mg "int" =none
 z_isinstance:mg "isinstance" =none
 z_len:mg "len" =none
 z_list:mg "list" =none
 z_min:mg "min" =none
 z_range:mg "range" =none
 z_set:mg "set" =none
 z_sorted:mg "sorted" =none
 z_sum:mg "sum" =none
 z_tuple:mg "tuple" =none
 z_zip:mg "zip" =none
 g_MOST_INPUTS:mg "MOST_INPUTS" =some (.int 3 t.k_MOST_INPUTS)
 kl:lamK K t.f_need_behind t.lp=true
 kb:BltK K mg t.lb
noncomputable def zkV (x:Str):Prop:=x="and"∨x="or"∨x="odd"∨x="not"∨x="choose"∨x="zero"∨x="one"
theorem joinP {A:Prop}{C P:Hp→Prop}(h:(∀ H4,C H4→P H4)→A)(r:∀ H4,C H4→P H4):A:=h r
theorem zoh {A:Prop}{C:V→Prop}{st:V→St}{H:Hp}{P:St→Hp→Prop}(h:(∀ v,C v→P (st v) H)→A)(r:∀ v,C v→P (st v) H):A:=h r
theorem joinX {α :Type}{A:Prop}{C: α→Hp→Prop}{st: α→St}{P:St→Hp→Prop}(h:(∀ v H4,C v H4→P (st v) H4)→A)(r:∀ v H4,C v H4→P (st v) H4):A:=h r
noncomputable def hole (pd:Addr) (H:Hp):Hp:=fun z=>if z=pd then none else H z
theorem zaL {pd z:Addr}{H:Hp}(h:z≠pd):hole pd H z=H z:=if_neg h
theorem zcp {pd:Addr}{H:Hp}{o:HO}(e:H pd=some o):Off [pd] (hole pd H) H:=⟨fun b v q=>by
  by_cases z:b=pd
  ·unfold hole at q
   rw [if_pos z] at q
   cases q
  ·rw [zaL z] at q
   exact q,
 fun m hm=>by rw [yG.mp hm];exact if_pos rfl,fun m hm=>by rw [yG.mp hm];exact ⟨o,e⟩⟩
theorem zdP {pd:Addr}{G H:Hp}(s:Same G H)(g:G pd=none):Same G (hole pd H):=fun b v q=>by
 rw [zaL (zai q g)]
 exact s b v q
theorem zk9 {K:PySem.W.Frag}{H:Hp}{p a:Addr}{xs ts:List V}(h:SqT K H a xs)(e:H p=some (.lst ts)):SqT K (hole p H) a xs:=by
 rcases h with h | h
 ·have ne:a≠p:=by
   rintro rfl
   rcases h with h | ⟨o,h⟩ <;> rw [e] at h <;> cases h
  refine .inl ?_
  rcases h with h | ⟨o,h⟩
  ·exact .inl (by rw [zaL ne];exact h)
  ·exact .inr ⟨o,by rw [zaL ne];exact h⟩
 ·exact .inr h
theorem zlV {K:PySem.W.Frag}{H:Hp}{p a:Addr}{xs:List V}(h:SqL K H a xs)(ne:a≠p):SqL K (hole p H) a xs:=by
 rcases h with h | h
 ·refine .inl ?_
  rcases h with h | ⟨o,h⟩
  ·exact .inl (by rw [zaL ne];exact h)
  ·exact .inr ⟨o,by rw [zaL ne];exact h⟩
 ·exact .inr h
theorem zhQ {K:PySem.W.Frag}{H:Hp}{p:Addr}{ts:List V}(e:H p=some (.lst ts)):∀ {fs:List Flt} {vs:List V},Reps K H vs (fs.map fltD)→Reps K (hole p H) vs (fs.map fltD)
 | [],_,h=>by cases h;exact .nil
 | f::fs,_,h=>by
  cases h with
  | cons h1 h2=>
   obtain ⟨a,rfl,ha⟩:=flt_at h1
   exact .cons (ziL (zk9 ha e)) (zhQ e h2)
theorem zgM.hole {K:PySem.W.Frag}{w:zas}{m:Nat}{H:Hp}{fa p:Addr}{fs:List Flt}{ts:List V}(h:zgM K w m H (.ref fa) fs)(ne:fa≠p)(e:H p=some (.lst ts)):zgM K w m (My.hole p H) (.ref fa) fs:=by
 refine ⟨?_,h.good,h.apart,h.few⟩
 have z:=h.rep
 cases z with
 | lst h r=>exact .lst (zlV h ne) (zhQ e r)
noncomputable def sp_gwI (K:PySem.W.Frag):Sp:=fun vs H Q _=>∃ (x:Str) (p:Addr) (ns:List Int) (o:Int),vs= [.str x,.ref p,.int o]∧SqL K H p (ns.map V.int)∧zbU x ns.length∧∀ H',Same H H'→Q (.int (zey o x ns)) H'
noncomputable def sp_cr (K:PySem.W.Frag):Sp:=fun vs H Q _=>∃ (a ga oa p:Addr) (i:Int) (row:List Int),vs= [.ref a,.ref p]∧SqT K H a [.int i,.ref ga,.ref oa]∧SqL K H p (row.map V.int)∧(row.length:Int)=i∧Bits row∧row.length≤100∧∀ H',Same H H'→Q .non H'
noncomputable def sp_er (K:PySem.W.Frag):Sp:=fun vs H Q _=>∃ (a ga oa:Addr) (i:Int),vs= [.ref a]∧SqT K H a [.int i,.ref ga,.ref oa]∧0≤i∧i≤6∧∀ (R:Addr) (qs:List Addr) (H':Hp),Rows H R qs (zaT i.toNat) H'→Q (.ref R) H'
noncomputable def sp_lgw (K:PySem.W.Frag):Sp:=fun vs H Q _=>∃ (d p:Addr) (k:Int) (fs:List Flt) (ns:List Int),vs= [.ref d,.int k,.ref p]∧H d=some (.dT (tabV fs))∧SqL K H p (ns.map V.int)∧ns.length≤4∧
 ∀ (r:Addr) (H':Hp),Same H H'→H r=none→H' r=some (.lst ((zb0 fs k ns).map V.int))→Q (.ref r) H'
noncomputable def sp_wwG (K:PySem.W.Frag):Sp:=fun vs H Q _=>∃ (x:V) (d p:Addr) (w:zas) (fs:List Flt) (row:List Int) (o:Int),vs= [x,.ref d,.ref p,.int o]∧Rep K H x (zbA w)∧WF 20 w∧H d=some (.dT (tabV fs))∧SqL K H p (row.map V.int)∧(row.length:Int)=w.ins∧
 ∀ (r:Addr) (H':Hp),Same H H'→H r=none→H' r=some (.lst ((zck o fs w.gates row w.gates.length).map V.int))→Q (.ref r) H'
noncomputable def sp_owG (K:PySem.W.Frag):Sp:=fun vs H Q _=>∃ (x:V) (d p:Addr) (w:zas) (fs:List Flt) (row:List Int) (o:Int),vs= [x,.ref d,.ref p,.int o]∧Rep K H x (zbA w)∧WF 20 w∧H d=some (.dT (tabV fs))∧SqL K H p (row.map V.int)∧(row.length:Int)=w.ins∧
 ∀ (r:Addr) (H':Hp),Same H H'→H r=none→H' r=some (.lst ((zel w (zck o fs w.gates row w.gates.length)).map V.int))→Q (.ref r) H'
noncomputable def sp_gw2 (K:PySem.W.Frag):Sp:=fun vs H Q _=>∃ (x:Str) (p:Addr) (ns:List Int),vs= [.str x,.ref p]∧SqL K H p (ns.map V.int)∧Bits ns∧zbU x ns.length∧Q (.int (zbS x ns)) H
noncomputable def sp_ca (K:PySem.W.Frag):Sp:=fun vs H Q _=>∃ (a:Addr) (ns:List Int) (k:Nat),vs= [.ref a,.int k]∧SqL K H a (ns.map V.int)∧∀ r:Int,Q (.int r) H
noncomputable def sp_lr:Sp:=fun vs H Q _=>∃ (i:Int),vs= [.int i]∧0≤i∧i≤6∧∀ (R:Addr) (qs:List Addr) (H':Hp),Same H H'→H' R=some (.lst (qs.map V.ref))→At H' qs (zaT i.toNat)→Q (.ref R) H'
noncomputable def sp_rao:Sp:=fun vs H Q _=>∃ n:Nat,vs= [.int n]∧n≤6∧∀ (r L:Addr) (H':Hp),Same H H'→H r=none→H L=none→H' r=some (.tup [.ref L,.int (zaX (2 ^ n))])→H' L=some (.lst ((zdl n).map V.int))→Q (.ref r) H'
theorem zja {R:Nat}{x:Int}(h:za3 R x)(hR:R≤64):qK x≤2 ^ 20:=by
 obtain ⟨n,rfl,hn⟩:=zbo h
 have h1:n < 2 ^ 64:=qB hn (xX (by decide) hR)
 exact zhf (k:=64) (by decide) (by omega) (by omega)
theorem pow6 {n:Nat}(h:n≤6): 2 ^ n≤64:=xX (n:=2) (by decide) h
noncomputable def zjz (u:Int):List Nat:=(qI (qK u)).filter fun j=>decide (bitI j u=1)
noncomputable def sp_un:Sp:=fun vs H Q _=>∃ (a b:Addr) (xs ys:List Int) (R:Nat),vs= [.ref a,.ref b]∧H a=some (.lst (xs.map V.int))∧H b=some (.lst (ys.map V.int))∧xs.length=ys.length∧xs.length≤1000∧R≤64∧(∀ v∈xs,za3 R v)∧(∀ v∈ys,za3 R v)∧
 ∀ (r:Addr) (H':Hp),Same H H'→H r=none→H' r=some (.lst ((zjz (zcH xs ys)).map fun j:Nat=>V.int (j:Int)))→Q (.ref r) H'
theorem znO {R:Nat}{u:Int}(h:za3 R u)(j:Nat):(V.int (qT (u / 2 ^ ((j:Int)).toNat) 1)=V.int 1)↔bitI j u=1:=by
 obtain ⟨m,rfl,hm⟩:=zbo h
 rw [jM,za9]
 have e:(m:Int) / 2 ^ j=((m / 2 ^ j:Nat):Int):=by
  rw [Int.natCast_ediv]
  congr 1
 have e1:qT ((m / 2 ^ j:Nat):Int) 1=((m / 2 ^ j % 2:Nat):Int):=by
  have:=ziI (m / 2 ^ j) 1
  rw [Nat.and_one_is_mod] at this
  exact this
 rw [e,e1,Nat.testBit_eq_decide_div_mod_eq]
 constructor
 ·intro z
  have:=V.int.inj z
  rw [if_pos (decide_eq_true (by omega))]
 ·intro z
  by_cases c:m / 2 ^ j % 2=1
  ·rw [c]
   rfl
  ·rw [if_neg (by simpa using c)] at z
   cases z
noncomputable def zbi (w:zas) (fs:List Flt):List Int:=zel w (zck (zaX (2 ^ w.ins.toNat)) (zcn (2 ^ w.ins.toNat) fs) w.gates (zdl w.ins.toNat) w.gates.length)
theorem zjK {R:Nat}{fs:List Flt}(h:zek fs):zek (zcn R fs):=by
 unfold zek zcn at *
 rw [kR]
 exact h
theorem zl4 {j:Nat}{w:zas}{ws:List Int}:(zel w ws).map (bitI j)=zel w (ws.map (bitI j)):=by
 unfold zel
 rw [kR]
 refine xM fun o _=>?_
 exact zdb j ws o.toNat
theorem zex {fs:List Flt}(fb:∀ f∈fs,f.worth=0∨f.worth=1){m:Nat}{w:zas}(wf:WF m w):(∀ v∈zbi w fs,za3 (2 ^ w.ins.toNat) v)∧(zbi w fs).length=w.outs.length∧
  ∀ (j:Nat) row,(zaT w.ins.toNat)[j]? =some row→(zbi w fs).map (bitI j)=zel w (zaV fs w.gates row w.gates.length):=by
 have i1:=wf.i1
 obtain ⟨c1,c2,c3⟩:=zeO w.ins.toNat
 obtain ⟨w1,w2⟩:=zgz fb wf (cols:=zdl w.ins.toNat) (by rw [c2];omega) c1 w.gates.length (yL _)
 refine ⟨fun v hv=>?_,by unfold zbi zel;rw [yB],fun j row hj=>?_⟩
 ·unfold zbi zel at hv
  obtain ⟨o,_,rfl⟩:=qE.mp hv
  exact ze1 w1 _
 ·have lj:j < 2 ^ w.ins.toNat:=by
   have:=(yE.mp hj).1
   rw [zaS] at this
   exact this
  rw [c3 j lj] at hj
  cases hj
  unfold zbi
  rw [zl4,w2 j lj]
noncomputable def sp_osR (K:PySem.W.Frag):Sp:=fun vs H Q _=>∃ (x:V) (d:Addr) (w:zas) (fs:List Flt) (G:Hp),vs= [x,.ref d]∧Off [d] G H∧Rep K G x (zbA w)∧WF 20 w∧H d=some (.dT (tabV fs))∧(∀ f∈fs,f.worth=0∨f.worth=1)∧zek fs∧fs.length≤1000∧
 ∀ (r:Addr) (ob:vS) (H':Hp),Same G H'→G r=none→H' d=some (.frz ob (.dT (tabV fs)))→H' r=some (.lst ((zbi w fs).map V.int))→Q (.ref r) H'
noncomputable def sp_osT (K:PySem.W.Frag):Sp:=fun vs H Q _=>∃ (x:V) (d:Addr) (w:zas) (fs:List Flt),vs= [x,.ref d]∧Rep K H x (zbA w)∧WF 20 w∧H d=some (.dT (tabV fs))∧(∀ f∈fs,f.worth=0∨f.worth=1)∧zek fs∧fs.length≤1000∧
 ∀ (r:Addr) (H':Hp),Same H H'→H r=none→H' r=some (.lst ((zbi w fs).map V.int))→Q (.ref r) H'
theorem zkj {K:PySem.W.Frag}{H:Hp}{p a:Addr}{xs:List V}{kvs:List (List Key×V)}(h:SqT K H a xs)(e:H p=some (.dT kvs)):SqT K (hole p H) a xs:=by
 rcases h with h | h
 ·left
  rcases h with h | ⟨o,h⟩
  ·exact .inl (by rw [zaL (fun z=>by rw [z,e] at h;cases h)];exact h)
  ·exact .inr ⟨o,by rw [zaL (fun z=>by rw [z,e] at h;cases h)];exact h⟩
 ·exact .inr h
theorem zfW {K:PySem.W.Frag}{H:Hp}{p a:Addr}{xs:List V}{kvs:List (List Key×V)}(h:SqL K H a xs)(e:H p=some (.dT kvs)):SqL K (hole p H) a xs:=by
 rcases h with h | h
 ·left
  rcases h with h | ⟨o,h⟩
  ·exact .inl (by rw [zaL (fun z=>by rw [z,e] at h;cases h)];exact h)
  ·exact .inr ⟨o,by rw [zaL (fun z=>by rw [z,e] at h;cases h)];exact h⟩
 ·exact .inr h
mutual
theorem zje {K:PySem.W.Frag}{H:Hp}{d:Addr}{kvs:List (List Key×V)}(e:H d=some (.dT kvs)):∀ {v:V} {D:Dat},Rep K H v D→Rep K (hole d H) v D
 | _,_,.non=>.non
 | _,_,.bl b=>.bl b
 | _,_,.int i=>.int i
 | _,_,.str x=>.str x
 | _,_,.tup h r=>.tup (zkj h e) (zfQ e r)
 | _,_,.lst h r=>.lst (zfW h e) (zfQ e r)
theorem zfQ {K:PySem.W.Frag}{H:Hp}{d:Addr}{kvs:List (List Key×V)}(e:H d=some (.dT kvs)):∀ {vs:List V} {Ds:List Dat},Reps K H vs Ds→Reps K (hole d H) vs Ds
 | _,_,.nil=>.nil
 | _,_,.cons h r=>.cons (zje e h) (zfQ e r)
end
noncomputable def zmA (H H':Hp) (o:Option (List Int)) (v:V):Prop:=match o with
 | none=>v= .non
 | some row=>∃ q,v= .ref q∧H q=none∧H' q=some (.lst (row.map V.int))
noncomputable def zh9 (H':Hp) (o:Option (List Int)) (v:V):Prop:=match o with
 | none=>v= .non
 | some row=>∃ q,v= .ref q∧H' q=some (.lst (row.map V.int))
theorem zh9.mono {H H':Hp}{o:Option (List Int)}{v:V}(h:zh9 H o v)(s:Same H H'):zh9 H' o v:=by
 unfold zh9 at *
 cases o with
 | none=>exact h
 | some row=>
  obtain ⟨q,a,b⟩:=h
  exact ⟨q,a,s _ _ b⟩
theorem zh9.hole {H:Hp}{o:Option (List Int)}{v:V}{p:Addr}{ts:List V}(h:zh9 H o v)(ne:∀ row,o=some row→row≠[])(e:H p=some (.lst ts))(rf:∀ t∈ts,∃ a,t= .ref a):zh9 (My.hole p H) o v:=by
 unfold zh9 at *
 cases o with
 | none=>exact h
 | some row=>
  obtain ⟨q,a,b⟩:=h
  refine ⟨q,a,?_⟩
  by_cases z:q=p
  ·subst z
   rw [e] at b
   have b2:ts=row.map V.int:=HO.lst.inj (qF b)
   cases row with
   | nil=>exact absurd rfl (ne [] rfl)
   | cons n row=>
    obtain ⟨a2,e2⟩:=rf (.int n) (by rw [b2];exact .head _)
    cases e2
  ·rw [zaL z]
   exact b
theorem zmA.any {G H':Hp}{o:Option (List Int)}{v:V}{H:Hp}(h:zmA H H' o v)(s:Same G H):zmA G H' o v:=by
 unfold zmA at *
 cases o with
 | none=>exact h
 | some row=>
  obtain ⟨q,a,b,c⟩:=h
  exact ⟨q,a,s.free b,c⟩
noncomputable def FAt (H:Hp) (f:Flt) (v:V):Prop:=∃ b,v= .ref b∧H b=some (.tup (f.place.map kV++ [.int f.worth]))
noncomputable abbrev FAll (H:Hp):List V→List Flt→Prop:=Paired fun v f=>FAt H f v
theorem FAt.mono {H H':Hp}{f:Flt}{v:V}(h:FAt H f v)(s:Same H H'):FAt H' f v:=let ⟨b,e,q⟩:=h;⟨b,e,s _ _ q⟩
theorem FAt.write {H:Hp}{f:Flt}{v:V}{p:Addr}{xs:List V}(h:FAt H f v)(e:H p=some (.lst xs))(o:HO):FAt (upd H p o) f v:=by
 obtain ⟨b,rfl,q⟩:=h
 refine ⟨b,rfl,?_⟩
 rw [zah (fun z=>by rw [z,e] at q;cases q)]
 exact q
theorem FAt.put {H:Hp}{f:Flt}{v:V}{p:Addr}{kvs:List (List Key×V)}(h:FAt H f v)(e:H p=some (.dT kvs))(o:HO):FAt (upd H p o) f v:=by
 obtain ⟨b,rfl,q⟩:=h
 refine ⟨b,rfl,?_⟩
 rw [zah (fun z=>by rw [z,e] at q;cases q)]
 exact q
theorem FAll.mono {H H':Hp}{vs:List V}{fs:List Flt}(h:FAll H vs fs)(s:Same H H'):FAll H' vs fs:=Paired.mapP h fun _ _ z=>z.mono s
theorem FAll.new {H:Hp}{vs:List V}{fs:List Flt}{T:Addr}(h:FAll H vs fs)(e:H T=none)(o:HO):FAll (upd H T o) vs fs:=FAll.mono h (zaf e o)
theorem FAll.write {H:Hp}{vs:List V}{fs:List Flt}{p:Addr}{xs:List V}(h:FAll H vs fs)(e:H p=some (.lst xs))(o:HO):FAll (upd H p o) vs fs:=Paired.mapP h fun _ _ z=>z.write e o
theorem FAll.put {H:Hp}{vs:List V}{fs:List Flt}{p:Addr}{kvs:List (List Key×V)}(h:FAll H vs fs)(e:H p=some (.dT kvs))(o:HO):FAll (upd H p o) vs fs:=Paired.mapP h fun _ _ z=>z.put e o
theorem FAll.app {H:Hp}{vs us:List V}{fs gs:List Flt}(h:FAll H vs fs)(g:FAll H us gs):FAll H (vs++us) (fs++gs):=by
 unfold FAll at *
 induction h with
 | nil=>exact g
 | cons a _ ih=>exact .cons a ih
theorem FAt.rep {K:PySem.W.Frag}{H:Hp}{f:Flt}{v:V}(h:FAt H f v):Rep K H v (fltD f):=by
 obtain ⟨b,rfl,q⟩:=h
 exact ziL (.of q)
theorem FAll.reps {K:PySem.W.Frag}{H:Hp}:∀ {vs:List V} {fs:List Flt},FAll H vs fs→Reps K H vs (fs.map fltD)
 | _,_,.nil=>.nil
 | _,_,.cons a r=>.cons a.rep (FAll.reps r)
noncomputable def zjQ (K:PySem.W.Frag):Sp:=fun vs H Q _=>∃ (x:V) (w:zas),vs= [x]∧Rep K H x (zbA w)∧WF 20 w∧∀ (r:Addr) (xs:List V) (H':Hp),Same H H'→H r=none→H' r=some (.lst xs)→FAll H' xs (allF w)→Q (.ref r) H'
noncomputable def fkK (f:Flt):List Key:=f.place++ [Sum.inl f.worth]
theorem zhD (f:Flt):(fkK f).map kV=f.place.map kV++ [.int f.worth]:=by unfold fkK;rw [yN];rfl
theorem zhu {f g:Flt}(h:fkK f=fkK g):f=g:=by
 unfold fkK at h
 obtain ⟨h1,h2⟩:=List.append_inj' h rfl
 obtain ⟨p,v⟩:=f
 obtain ⟨p',v'⟩:=g
 simp at h1 h2
 rw [h1,h2]
theorem zcc {w:zas}(wf:WF 20 w):(allF w).length≤400:=by
 have e:=congrArg wI (allF_D w)
 rw [yB,← zcK,zfM] at e
 have g1:=zda wf w.gates.length
 have i6:=wf.i6
 have few:=wf.few
 unfold za8 at e
 rw [yI,zcy] at e
 omega
theorem zfe:∀ ps:List (List Key),ps.Nodup→(ps.flatMap fun p=>[(⟨p,0⟩:Flt),⟨p,1⟩]).Nodup
 | [],_=>xN
 | p::ps,h=>by
  obtain ⟨h1,h2⟩:=xA.mp h
  rw [yaj,jB]
  refine ⟨by simp,zfe ps h2,fun a ha b hb e=>?_⟩
  subst e
  obtain ⟨q,hq,hb⟩:=kJ.mp hb
  have e1:a.place=p:=by
   rcases yY.mp ha with z | z
   ·rw [z]
   ·rw [yG.mp z]
  have e2:a.place=q:=by
   rcases yY.mp hb with z | z
   ·rw [z]
   ·rw [yG.mp z]
  exact h1 (by rw [← e1,e2];exact hq)
theorem zc9 (w:zas):(allF w).Nodup:=zfe _ (zj5 w)
noncomputable abbrev zeq (H:Hp) (w:zas):List (List Key×V)→List Flt→Prop:=Paired fun kv f=>kv.1=fkK f∧∃ l,kv.2= .ref l∧H l=some (.lst ((zbi w [f]).map V.int))
theorem zeq.mono {H H':Hp}{w:zas}{kvs:List (List Key×V)}{fs:List Flt}(h:zeq H w kvs fs)(s:Same H H'):zeq H' w kvs fs:=Paired.mapP h fun _ _ ⟨a,l,b,c⟩=>⟨a,l,b,s _ _ c⟩
theorem zeq.put {H:Hp}{w:zas}{kvs kvs':List (List Key×V)}{fs:List Flt}{d:Addr}(h:zeq H w kvs fs)(e:H d=some (.dT kvs'))(o:HO):zeq (upd H d o) w kvs fs:=
 Paired.mapP h fun _ _ ⟨a,l,b,c⟩=>⟨a,l,b,by rw [zah (fun z=>by rw [z,e] at c;cases c)];exact c⟩
theorem zeq.miss {H:Hp}{w:zas}{f:Flt}:∀ {kvs:List (List Key×V)} {fs:List Flt},zeq H w kvs fs→f∉fs→valV kvs (fkK f)=none
 | _,_,.nil,_=>rfl
 | _,_,.cons h r,n=>by
  rw [zb8 (fun z=>n (by rw [zhu (h.1.symm.trans z)];exact .head _))]
  exact zeq.miss r fun z=>n (.tail _ z)
theorem zeg {α β :Type}{r: α→β→Prop}{xs:List α}{ys:List β}{x: α}{y: β}(h:Paired r xs ys)(q:r x y):Paired r (xs++ [x]) (ys++ [y]):=kF h q
noncomputable def sp_soe (K:PySem.W.Frag):Sp:=fun vs H Q _=>∃ (x:V) (w:zas),vs= [x]∧Rep K H x (zbA w)∧WF 20 w∧∀ (d:Addr) (kvs:List (List Key×V)) (H':Hp),Same H H'→H d=none→H' d=some (.dT kvs)→zeq H' w kvs (allF w)→Q (.ref d) H'
noncomputable def hitG {S:Type} [DecidableEq S] (sg:Flt→S) (f:Flt):List Flt→Bool
 | []=>false
 | x::_=>decide (sg x=sg f)
noncomputable def putG {S:Type} [DecidableEq S] (sg:Flt→S) (f:Flt):List (List Flt)→List (List Flt)
 | []=>[[f]]
 | g::r=>if hitG sg f g then (g++ [f])::r else g::putG sg f r
noncomputable def sigK (ns:List Int):List Key:=ns.map Sum.inl
theorem zm1 {a b:List Int}(h:sigK a=sigK b):a=b:=by
 unfold sigK at h
 exact wW (fun x y e=>yaY e) |>.mp h
noncomputable abbrev KvG (w:zas):List (List Key×V)→List (Addr×List Flt)→Prop:=Paired fun kv ag=>kv.2= .ref ag.1∧∃ x r,ag.2=x::r∧kv.1=sigK (zbi w [x])
theorem KvG.miss {w:zas}{f:Flt}:∀ {kvs:List (List Key×V)} {gas:List (Addr×List Flt)},KvG w kvs gas→valV kvs (sigK (zbi w [f]))=none→putG (fun f=>zbi w [f]) f (gas.map (·.2))=gas.map (·.2)++ [[f]]
 | _,_,.nil,_=>rfl
 | _,_,.cons (a:=kv) (b:=ag) h r,e=>by
  obtain ⟨_,x,rr,e1,e2⟩:=h
  have ne:¬kv.1=sigK (zbi w [f]):=fun z=>by rw [zcO z] at e;cases e
  rw [zb8 ne] at e
  have n2:zbi w [x]≠zbi w [f]:=fun z=>ne (by rw [e2,z])
  rw [qJ,e1,List.cons_append]
  show (if hitG _ f (x::rr) then _ else _)=_
  rw [if_neg (by unfold hitG;simpa using n2),KvG.miss r e]
theorem KvG.hit {w:zas}{f:Flt}{v:V}:∀ {kvs:List (List Key×V)} {gas:List (Addr×List Flt)},KvG w kvs gas→valV kvs (sigK (zbi w [f]))=some v→
  ∃ j ag,gas[j]? =some ag∧v= .ref ag.1∧putG (fun f=>zbi w [f]) f (gas.map (·.2))=(gas.set j (ag.1,ag.2++ [f])).map (·.2)
 | _,_,.nil,e=>by cases e
 | _,_,.cons (a:=kv) (b:=ag) (l₁ :=kvs) (l₂ :=gas) h r,e=>by
  obtain ⟨e0,x,rr,e1,e2⟩:=h
  by_cases z:kv.1=sigK (zbi w [f])
  ·rw [zcO z] at e
   cases e
   refine ⟨0,ag,rfl,e0,?_⟩
   have n2:zbi w [x]=zbi w [f]:=zm1 (e2.symm.trans z)
   rw [List.set_cons_zero,qJ,qJ,e1]
   show (if hitG _ f (x::rr) then _ else _)=_
   rw [if_pos (by unfold hitG;simpa using n2)]
  ·rw [zb8 z] at e
   obtain ⟨j,ag',h1,h2,h3⟩:=KvG.hit r e
   have n2:zbi w [x]≠zbi w [f]:=fun y=>z (by rw [e2,y])
   refine ⟨j+1,ag',h1,h2,?_⟩
   rw [List.set_cons_succ,qJ,qJ,← h3,e1]
   show (if hitG _ f (x::rr) then _ else _)=_
   rw [if_neg (by unfold hitG;simpa using n2)]
theorem KvG.set {w:zas}{f:Flt}{ag:Addr×List Flt}:∀ {kvs:List (List Key×V)} {gas:List (Addr×List Flt)} {j:Nat},KvG w kvs gas→gas[j]? =some ag→KvG w kvs (gas.set j (ag.1,ag.2++ [f]))
 | _,_,_,.nil,e=>by cases e
 | _,_,0,.cons h r,e=>by
  cases e
  obtain ⟨e0,x,rr,e1,e2⟩:=h
  exact .cons ⟨e0,x,rr++ [f],by rw [e1];rfl,e2⟩ r
 | _,_,j+1,.cons h r,e=>.cons h (KvG.set (j:=j) r e)
theorem KvG.vals {w:zas}:∀ {kvs:List (List Key×V)} {gas:List (Addr×List Flt)},KvG w kvs gas→kvs.map (·.2)=gas.map fun ag=>V.ref ag.1
 | _,_,.nil=>rfl
 | _,_,.cons h r=>by rw [qJ,qJ,KvG.vals r,h.1]
noncomputable def GAt (H:Hp) (ag:Addr×List Flt):Prop:=∃ xs,H ag.1=some (.lst xs)∧FAll H xs ag.2
theorem GAt.mono {H H':Hp}{ag:Addr×List Flt}(h:GAt H ag)(s:Same H H'):GAt H' ag:=let ⟨xs,a,b⟩:=h;⟨xs,s _ _ a,b.mono s⟩
theorem GAt.write {H:Hp}{ag:Addr×List Flt}{p:Addr}{ys:List V}(h:GAt H ag)(n:ag.1≠p)(e:H p=some (.lst ys))(o:HO):GAt (upd H p o) ag:=let ⟨xs,a,b⟩:=h;⟨xs,by rw [zah n];exact a,b.write e o⟩
theorem GAt.put {H:Hp}{ag:Addr×List Flt}{p:Addr}{kvs:List (List Key×V)}(h:GAt H ag)(e:H p=some (.dT kvs))(o:HO):GAt (upd H p o) ag:=let ⟨xs,a,b⟩:=h;⟨xs,by rw [zah (fun z=>by rw [z,e] at a;cases a)];exact a,b.put e o⟩
noncomputable def zaA (ns:List Nat):List V:=ns.map fun j:Nat=>V.int (j:Int)
theorem zaU (ns:List Nat):(zaA ns).length=ns.length:=by unfold zaA;rw [yB]
theorem zcj {ns:List Nat}{i:Nat}{v:V}(h:(zaA ns)[i]? =some v):∃ j,ns[i]? =some j∧v= .int (j:Int):=by
 unfold zaA at h
 rw [yJ] at h
 cases hz:ns[i]? with
 | none=>rw [hz] at h;cases h
 | some j=>rw [hz] at h;cases h;exact ⟨j,rfl,rfl⟩
theorem zfq (j:Nat)(ns:List Nat):inV (.int (j:Int)) (zaA ns)=decide (j∈ns):=by
 unfold inV zaA
 rw [ybx,xG,xV,decide_eq_true_eq]
 constructor
 ·rintro ⟨i,hi,e⟩
  have e':((i:Int)==(j:Int))=true:=e
  have:i=j:=Int.ofNat.inj (eq_of_beq e')
  rw [← this];exact hi
 ·intro h
  exact ⟨j,h,show ((j:Int)==(j:Int))=true by simp⟩
theorem zes (ns:List Nat):(zaA ns).all zgv=true:=by
 unfold zaA
 rw [vZ,yZ]
 exact fun _ _=>rfl
noncomputable def za7 (ns ts:List Nat):Bool:=ns.any fun j=>decide (j∈ts)
noncomputable def sp_mt (K:PySem.W.Frag):Sp:=fun vs H Q _=>∃ (a b:Addr) (ns ts:List Nat),vs= [.ref a,.ref b]∧SqL K H a (zaA ns)∧SqL K H b (zaA ts)∧ns.length≤1000∧∀ H',Same H H'→Q (.bl (za7 ns ts)) H'
noncomputable abbrev zf2 (H:Hp):List (List Key×V)→List (List Nat)→Prop:=Paired fun kv ns=>∃ l,kv.2= .ref l∧H l=some (.lst (zaA ns))
theorem zf2.mono {H H':Hp}{kvs:List (List Key×V)}{nss:List (List Nat)}(h:zf2 H kvs nss)(s:Same H H'):zf2 H' kvs nss:=Paired.mapP h fun _ _ ⟨l,b,c⟩=>⟨l,b,s _ _ c⟩
theorem zf2.put {H:Hp}{kvs kvs':List (List Key×V)}{nss:List (List Nat)}{d:Addr}(h:zf2 H kvs nss)(e:H d=some (.dT kvs'))(o:HO):zf2 (upd H d o) kvs nss:=
 Paired.mapP h fun _ _ ⟨l,b,c⟩=>⟨l,b,by rw [zah (fun z=>by rw [z,e] at c;cases c)];exact c⟩
noncomputable def sp_meR (K:PySem.W.Frag):Sp:=fun vs H Q _=>∃ (a d:Addr) (ts:List Nat) (kvs:List (List Key×V)) (nss:List (List Nat)),vs= [.ref a,.ref d]∧SqL K H a (zaA ts)∧H d=some (.dT kvs)∧zf2 H kvs nss∧nss.length≤1000∧(∀ ns∈nss,ns.length≤1000)∧
 ∀ (ob:vS) (H':Hp),Same (hole d H) H'→H' d=some (.frz ob (.dT kvs))→Q (.bl (nss.all fun ns=>za7 ns ts)) H'
noncomputable def sp_me (K:PySem.W.Frag):Sp:=fun vs H Q _=>∃ (a d:Addr) (ts:List Nat) (kvs:List (List Key×V)) (nss:List (List Nat)),vs= [.ref a,.ref d]∧SqL K H a (zaA ts)∧H d=some (.dT kvs)∧zf2 H kvs nss∧nss.length≤1000∧(∀ ns∈nss,ns.length≤1000)∧
 ∀ (H':Hp),Same H H'→Q (.bl (nss.all fun ns=>za7 ns ts)) H'
noncomputable def zaC (w:zas) (f:Flt):List Nat:=zjz (zcH (zbi w [f]) (zbi w []))
noncomputable def zaF (w:zas):List Flt:=(allF w).filter fun f=>decide (zaC w f≠[])
noncomputable abbrev zbe (H:Hp) (w:zas):List (List Key×V)→List Flt→Prop:=Paired fun kv f=>kv.1=fkK f∧∃ l,kv.2= .ref l∧H l=some (.lst (zaA (zaC w f)))
theorem zbe.mono {H H':Hp}{w:zas}{kvs:List (List Key×V)}{fs:List Flt}(h:zbe H w kvs fs)(s:Same H H'):zbe H' w kvs fs:=Paired.mapP h fun _ _ ⟨a,l,b,c⟩=>⟨a,l,b,s _ _ c⟩
theorem zbe.put {H:Hp}{w:zas}{kvs kvs':List (List Key×V)}{fs:List Flt}{d:Addr}(h:zbe H w kvs fs)(e:H d=some (.dT kvs'))(o:HO):zbe (upd H d o) w kvs fs:=
 Paired.mapP h fun _ _ ⟨a,l,b,c⟩=>⟨a,l,b,by rw [zah (fun z=>by rw [z,e] at c;cases c)];exact c⟩
theorem zbe.miss {H:Hp}{w:zas}{f:Flt}:∀ {kvs:List (List Key×V)} {fs:List Flt},zbe H w kvs fs→f∉fs→valV kvs (fkK f)=none
 | _,_,.nil,_=>rfl
 | _,_,.cons h r,n=>by
  rw [zb8 (fun z=>n (by rw [zhu (h.1.symm.trans z)];exact .head _))]
  exact zbe.miss r fun z=>n (.tail _ z)
theorem zbe.nums {H:Hp}{w:zas}:∀ {kvs:List (List Key×V)} {fs:List Flt},zbe H w kvs fs→zf2 H kvs (fs.map (zaC w))
 | _,_,.nil=>.nil
 | _,_,.cons h r=>.cons h.2 (zbe.nums r)
noncomputable def sp_fr (K:PySem.W.Frag):Sp:=fun vs H Q _=>∃ (x:V) (w:zas),vs= [x]∧Rep K H x (zbA w)∧WF 20 w∧∀ (d:Addr) (kvs:List (List Key×V)) (H':Hp),Same H H'→H d=none→H' d=some (.dT kvs)→zbe H' w kvs (zaF w)→Q (.ref d) H'
noncomputable def zfb (n:Nat) (rs:List (List Int)):List Nat:=(qI (zaT n).length).filter fun j=>decide ((zaT n).getD j []∈rs)
noncomputable def sp_fa (K:PySem.W.Frag):Sp:=fun vs H Q _=>∃ (x y:V) (w:zas) (rs:List (List Int)),vs= [x,y]∧Rep K H x (zbA w)∧WF 20 w∧Rep K H y (.list (rs.map rowD))∧(∀ row∈rs,(row.length:Int)=w.ins∧Bits row)∧rs.length≤1000∧
 ∀ H',Same H H'→Q (.bl ((zaF w).all fun f=>za7 (zaC w f) (zfb w.ins.toNat rs))) H'
noncomputable def zbb (w:zas) (fs:List Flt):List (List Int):=(zaT w.ins.toNat).map fun row=>zel w (zaV fs w.gates row w.gates.length)
theorem zdx {p:Nat→Bool}{B:Nat}(h:∀ j,B≤j→p j=false):∀ k,(qI (B+k)).filter p=(qI B).filter p
 | 0=>rfl
 | k+1=>by
  rw [← Nat.add_assoc,xS,qP,zdx h k,qZ (by rw [h _ (xT _ _)];exact yQ)]
  simp
noncomputable def zmS (w:zas) (f:Flt):List Nat:=(qI (2 ^ w.ins.toNat)).filter fun j=>decide ((zbb w [f]).getD j []≠(zbb w []).getD j [])
theorem zdJ {w:zas}{f:Flt}(gf:zeC w f)(wf:WF 20 w):zaC w f=zmS w f:=by
 have fb1:∀ h∈[f],h.worth=0∨h.worth=1:=fun h hh=>by rw [yG.mp hh];exact gf.2
 obtain ⟨f1,f2,f3⟩:=zex fb1 wf
 obtain ⟨g1,g2,g3⟩:=zex (fs:=[]) (fun f hf=>nomatch hf) wf
 obtain ⟨u1,u2⟩:=zei (R:=2 ^ w.ins.toNat) (zbi w [f]) (zbi w []) (f2.trans g2.symm) f1 g1 (zc7 _)
 unfold zaC zmS
 obtain ⟨u,eu⟩:∃ u,zcH (zbi w [f]) (zbi w [])=u:=⟨_,rfl⟩
 have b0:za3 (2 ^ w.ins.toNat) u:=by rw [← eu];exact u1
 have hi:∀ j,2 ^ w.ins.toNat≤j→decide (bitI j u=1)=false:=fun j h=>by
  obtain ⟨k,rfl,hk⟩:=zbo b0
  rw [za9,ybe (qB hk (xX (by decide) h))]
  rfl
 have hb:∀ j,qK u≤j→decide (bitI j u=1)=false:=fun j h=>by
  obtain ⟨k,rfl,hk⟩:=zbo b0
  rw [za9,ybe (qB (zow k) (xX (by decide) h))]
  rfl
 rw [eu]
 unfold zjz
 rw [← zdx hb (2 ^ w.ins.toNat),Nat.add_comm,zdx hi]
 refine List.filter_congr fun j hj=>?_
 have lj:=qN.mp hj
 obtain ⟨row,hrow⟩:∃ row,(zaT w.ins.toNat)[j]? =some row:=⟨_,yF (by rw [zaS];exact lj)⟩
 have z:bitI j (zcH (zbi w [f]) (zbi w []))=1↔_:=u2 j
 rw [eu,zfn,f3 j row hrow,g3 j row hrow] at z
 have e1:∀ fs,(zbb w fs).getD j []=zel w (zaV fs w.gates row w.gates.length):=fun fs=>by
  unfold zbb
  rw [yM,yJ,hrow]
  rfl
 rw [e1,e1,decide_eq_decide]
 refine z.trans ?_
 simp
theorem zdR {w:zas}{f:Flt}(gf:zeC w f)(wf:WF 20 w):(zaC w f).length≤1000:=by
 rw [zdJ gf wf]
 unfold zmS
 have:=qU (fun j=>decide ((zbb w [f]).getD j []≠(zbb w []).getD j [])) (qI (2 ^ w.ins.toNat))
 rw [xH] at this
 have h64:=pow6 (n:=w.ins.toNat) (by have:=wf.i6;omega)
 omega
noncomputable def sp_dg:Sp:=fun vs H Q _=>∃ (c:Int) (many:Nat) (top:Int),vs= [.int c,.int many,.int top]∧many≤100∧0 < top∧top≤1000000000000∧
 ∀ (r:Addr) (row:List Int) (H':Hp),Same H H'→H r=none→H' r=some (.lst (row.map V.int))→row.length=many→(∀ z∈row,0≤z∧z < top)→Q (.ref r) H'
noncomputable def sp_gt:Sp:=fun vs H Q _=>∃ (c wires:Int),vs= [.int c,.int wires]∧1≤wires∧wires < 1073741824∧
 ∀ (r la:Addr) (x:Str) (ls:List Int) (H':Hp),Same H H'→H r=none→H la=none→H' r=some (.tup [.str x,.ref la])→H' la=some (.tup (ls.map V.int))→zbU x ls.length→(∀ l∈ls,0≤l∧l < wires)→Q (.ref r) H'
noncomputable def sp_wko (K:PySem.W.Frag):Sp:=fun vs H Q _=>∃ (a:Addr) (ns:List Int) (inp:Int) (most:Nat),vs= [.ref a,.int inp,.int most]∧SqL K H a (ns.map V.int)∧1≤inp∧inp≤6∧most≤20∧
 ∀ (r:Addr) (w:zas) (H':Hp),Same H H'→Rep K H' (.ref r) (zbA w)→WF 20 w→w.ins=inp→Q (.ref r) H'
noncomputable def sp_wk3 (K:PySem.W.Frag):Sp:=fun vs H Q _=>∃ (a:Addr) (ns:List Int) (most:Nat),vs= [.ref a,.int most]∧SqL K H a (ns.map V.int)∧most≤20∧
 ∀ (r:Addr) (w:zas) (H':Hp),Same H H'→Rep K H' (.ref r) (zbA w)→WF 20 w→w.ins≤3→Q (.ref r) H'
theorem zme (ns:List Int){m:Nat}:∃ ms:List Int,cutV (ns.map V.int) (some 3) (some (3+(m:Int)))=ms.map V.int∧ms.length≤m:=by
 have e1:HT.sIx (ns.map V.int).length 0 (some 3)=min 3 ns.length:=by
  simp only [HT.sIx,yB]
  rw [if_neg (by decide)]
  omega
 have e2:HT.sIx (ns.map V.int).length (ns.map V.int).length (some (3+(m:Int)))=min (3+m) ns.length:=by
  simp only [HT.sIx,yB]
  rw [if_neg (by omega)]
  omega
 refine ⟨(ns.drop (min 3 ns.length)).take (min (3+m) ns.length - min 3 ns.length),?_,?_⟩
 ·unfold cutV
  rw [e1,e2,List.map_take,List.map_drop]
 ·rw [yU]
  omega
theorem bits40 {n:Int}(h: 0≤n∧n < 2 ^ 40):qK n≤2 ^ 20:=zhf (k:=40) (by decide) (by omega) (by omega)
noncomputable def zmU (cc j:Int):Int:=(cc+977 * j+1) * 48271 % 2147483647
noncomputable def stirB (cc j:Int):Int:=(zmU cc j * zmU cc j % 2147483629+40692 * (j+3)) * 69621 % 2147483423 / 8
theorem kindsD {c:Int}(h0: 0≤c)(h1:c < 10):∃ x,atI [V.str "and",V.str "or",V.str "and",V.str "or",V.str "odd",V.str "not",V.str "choose",V.str "odd",V.str "zero",V.str "one"] c=some (.str x)∧zkV x:=by
 have:c=0∨c=1∨c=2∨c=3∨c=4∨c=5∨c=6∨c=7∨c=8∨c=9:=by omega
 unfold zkV
 rcases this with rfl | rfl | rfl | rfl | rfl | rfl | rfl | rfl | rfl | rfl
 ·exact ⟨_,rfl,.inl rfl⟩
 ·exact ⟨_,rfl,.inr (.inl rfl)⟩
 ·exact ⟨_,rfl,.inl rfl⟩
 ·exact ⟨_,rfl,.inr (.inl rfl)⟩
 ·exact ⟨_,rfl,.inr (.inr (.inl rfl))⟩
 ·exact ⟨_,rfl,.inr (.inr (.inr (.inl rfl)))⟩
 ·exact ⟨_,rfl,.inr (.inr (.inr (.inr (.inl rfl))))⟩
 ·exact ⟨_,rfl,.inr (.inr (.inl rfl))⟩
 ·exact ⟨_,rfl,.inr (.inr (.inr (.inr (.inr (.inl rfl)))))⟩
 ·exact ⟨_,rfl,.inr (.inr (.inr (.inr (.inr (.inr rfl)))))⟩
theorem manyD {x:Str}(k:zkV x){m:Int}(h0: 2≤m∧m≤4):∃ n:Nat,(valV (zed [] [(Sum.inr "not",V.int 1),(Sum.inr "choose",.int 3),(Sum.inr "zero",.int 0),(Sum.inr "one",.int 0)]:List (Key×V)) (Sum.inr x)).getD (.int m)= .int (n:Int)∧zbU x n:=by
 unfold zbU
 rcases k with rfl | rfl | rfl | rfl | rfl | rfl | rfl
 ·exact ⟨m.toNat,by rw [wN (by omega)];rfl,.inl ⟨.inl rfl,by omega,by omega⟩⟩
 ·exact ⟨m.toNat,by rw [wN (by omega)];rfl,.inl ⟨.inr (.inl rfl),by omega,by omega⟩⟩
 ·exact ⟨m.toNat,by rw [wN (by omega)];rfl,.inl ⟨.inr (.inr rfl),by omega,by omega⟩⟩
 ·exact ⟨1,rfl,.inr (.inl ⟨rfl,rfl⟩)⟩
 ·exact ⟨3,rfl,.inr (.inr (.inl ⟨rfl,rfl⟩))⟩
 ·exact ⟨0,rfl,.inr (.inr (.inr ⟨.inl rfl,rfl⟩))⟩
 ·exact ⟨0,rfl,.inr (.inr (.inr ⟨.inr rfl,rfl⟩))⟩
theorem zn1 {ns:List Int}(b:Bits ns):(if (!inV (.int 0) (ns.map V.int))=true then (1:Int) else 0)=zbS "and" ns:=by
 rw [zlX]
 have e:(!inV (.int 0) (ns.map V.int))=ns.all (· ==1):=by
  unfold inV
  rw [ybx,xG,kY,vU,yZ]
  constructor
  ·intro h n hn
   have:¬((n==(0:Int))=true):=h n hn
   rcases b n hn with e | e
   ·rw [e] at this;exact absurd rfl this
   ·rw [e];rfl
  ·intro h n hn
   have:=h n hn
   show ¬((n==(0:Int))=true)
   rw [eq_of_beq this]
   decide
 rw [e]
theorem int_or {ns:List Int}:(if (inV (.int 1) (ns.map V.int))=true then (1:Int) else 0)=zbS "or" ns:=by
 rw [zoi]
 have e:inV (.int 1) (ns.map V.int)=ns.any (· ==1):=by
  unfold inV
  rw [ybx]
  rfl
 rw [e]
theorem zhP (ns:List Int):(ns.map V.int).all zgv=true:=by
 rw [vZ,yZ]
 exact fun _ _=>rfl
noncomputable def sp_lf (K:PySem.W.Frag):Sp:=fun vs H Q _=>∃ (x:V) (w:zas),vs= [x]∧Rep K H x (zbA w)∧WF 20 w∧∀ (r:Addr) (xs:List V) (H':Hp),Same H H'→H r=none→H' r=some (.lst xs)→FAll H' xs (allF w)→Q (.ref r) H'
noncomputable def sp_cpy (K:PySem.W.Frag):Sp:=fun vs H Q _=>∃ (x:V) (w:zas),vs= [x]∧Rep K H x (zbA w)∧WF 20 w∧∀ (r:Addr) (H':Hp),Same H H'→Rep K H' (.ref r) (zbA w)→Q (.ref r) H'
theorem zf9:∀ n,zaT (n+1)=(zaT n).flatMap (fun r=>[r++ [0],r++ [1]])
 | 0=>rfl
 | n+1=>by
  have e:∀ (c:Int) (rs:List (List Int)),(rs.map (c:: ·)).flatMap (fun r=>[r++ [0],r++ [1]])=(rs.flatMap (fun r=>[r++ [0],r++ [1]])).map (c:: ·):=fun c rs=>by
   induction rs with
   | nil=>rfl
   | cons r rs ih=>simp only [qJ,yaj,yN,ih];rfl
  rw [zaT,zf9 n]
  conv=>rhs;rw [← zf9 n,zaT,vE,e,e]
noncomputable def zeQ (ps:List (List Key)):List Flt:=ps.flatMap fun p=>[⟨p,0⟩,⟨p,1⟩]
theorem zeh (ps:List (List Key))(p:List Key):zeQ (ps++ [p])=zeQ ps++ [⟨p,0⟩,⟨p,1⟩]:=by unfold zeQ;rw [vE];simp
theorem FAll.two {H:Hp}{xs:List V}{fs:List Flt}{a b:Addr}{p:List Key}(h:FAll H xs fs)(ha:H a=some (.tup (p.map kV++ [.int 0])))(hb:H b=some (.tup (p.map kV++ [.int 1]))):FAll H (xs++ [.ref a,.ref b]) (fs++ [⟨p,0⟩,⟨p,1⟩]):=
 FAll.app h (.cons ⟨a,rfl,ha⟩ (.cons ⟨b,rfl,hb⟩ .nil))
theorem zgL:∀ ps:List (List Key),(zeQ ps).length=2 * ps.length
 | []=>rfl
 | p::ps=>by
  have:=zgL ps
  unfold zeQ at *
  rw [yaj,yI,this]
  simp only [jE,vD]
  omega
theorem W_in (fs:List Flt)(gs:List (Str×List Int))(row:List Int){i:Nat}(h:i < row.length)(L:Nat):(zaV fs gs row L)[i]? =some (pick fs (zbn i) (row.getD i 0)):=by
 rw [zdy fs gs row (n:=0) (by omega) L (qM _)]
 show (rowS fs row)[i]? =_
 unfold rowS
 rw [xK,yM,yF h]
 rfl
theorem znq (fs:List Flt){gs:List (Str×List Int)}{row:List Int}{k L:Nat}{g:Str×List Int}(hg:gs[k]? =some g)(hk:k < L)(lb:∀ l∈g.2,0≤l∧l < ((row.length+k:Nat):Int)):
  (zaV fs gs row L)[row.length+k]? =some (pick fs (zbn ((row.length+k:Nat):Int)) (zbS g.1 (zb0 fs k (g.2.map fun l=>(zaV fs gs row L).getD l.toNat 0)))):=by
 rw [zdy fs gs row (n:=k+1) (by omega) L (by omega),zaV,hg,jJ (by rw [zbN];exact yL _),zbN,ybp]
 have e:(g.2.map fun l=>(zaV fs gs row k).getD l.toNat 0)=g.2.map fun l=>(zaV fs gs row L).getD l.toNat 0:=xM fun l hl=>by
  have:=lb l hl
  rw [yM,yM,zdy fs gs row (i:=l.toNat) (n:=k) (by omega) L (by omega)]
 simp only [List.getElem?_cons_zero,ybX]
 rw [← e]
noncomputable def FC (K:PySem.W.Frag) (H:Hp) (w:zas) (b:Addr) (fs:List Flt):Prop:=(fs= []∧SqT K H b [.str "well"])∨
 (∃ (i0:Nat) (u:Int),fs= [⟨zbn i0,u⟩]∧(u=0∨u=1)∧SqT K H b [.str "wire",.int i0,.int u])∨
 ∃ (g0 p0:Nat) (u:Int) (gt:Str×List Int),fs= [⟨legK g0 p0,u⟩]∧(u=0∨u=1)∧w.gates[g0]? =some gt∧p0 < gt.2.length∧SqT K H b [.str "leg",.int g0,.int p0,.int u]
theorem FC.mono {K:PySem.W.Frag}{H H':Hp}{w:zas}{b:Addr}{fs:List Flt}(h:FC K H w b fs)(s:Same H H'):FC K H' w b fs:=by
 rcases h with ⟨a,c⟩ | ⟨i0,u,a,d,c⟩ | ⟨g0,p0,u,gt,a,d,e,f,c⟩
 ·exact .inl ⟨a,s.seqT c⟩
 ·exact .inr (.inl ⟨i0,u,a,d,s.seqT c⟩)
 ·exact .inr (.inr ⟨g0,p0,u,gt,a,d,e,f,s.seqT c⟩)
theorem FC.bits {K:PySem.W.Frag}{H:Hp}{w:zas}{b:Addr}{fs:List Flt}(h:FC K H w b fs):∀ f∈fs,f.worth=0∨f.worth=1:=by
 rcases h with ⟨a,c⟩ | ⟨i0,u,a,d,c⟩ | ⟨g0,p0,u,gt,a,d,e,f,c⟩ <;> subst a <;> intro x hx
 ·cases hx
 ·rw [yG.mp hx];exact d
 ·rw [yG.mp hx];exact d
theorem FC.of {K:PySem.W.Frag}{H:Hp}{w:zas}{b:Addr}{f:Flt}(gf:zeC w f)(h:H b=some (.tup (f.place.map kV++ [.int f.worth]))):FC K H w b [f]:=by
 obtain ⟨p,u⟩:=f
 rcases zka gf with ⟨i,_,e⟩ | ⟨g,p',gt,e1,e2,e⟩
 ·cases e
  exact .inr (.inl ⟨i,u,rfl,gf.2,.of h⟩)
 ·cases e
  exact .inr (.inr ⟨g,p',u,gt,rfl,gf.2,e1,e2,.of h⟩)
noncomputable def sp_lou (K:PySem.W.Frag):Sp:=fun vs H Q _=>∃ (x:V) (b p:Addr) (w:zas) (fs:List Flt) (row:List Int),vs= [x,.ref b,.ref p]∧Rep K H x (zbA w)∧WF 20 w∧FC K H w b fs∧SqL K H p (row.map V.int)∧(row.length:Int)=w.ins∧Bits row∧
 ∀ (r:Addr) (H':Hp),Same H H'→H r=none→H' r=some (.lst ((zel w (zaV fs w.gates row w.gates.length)).map V.int))→Q (.ref r) H'
noncomputable def zfU (H:Hp) (m:Addr) (rows:List (List Int)):Prop:=∃ xs,H m=some (.lst xs)∧Paired (fun v row=>∃ q,v= .ref q∧H q=some (.lst (row.map V.int))) xs rows
theorem zfU.mono {H H':Hp}{m:Addr}{rows:List (List Int)}(h:zfU H m rows)(s:Same H H'):zfU H' m rows:=by
 obtain ⟨xs,a,b⟩:=h
 exact ⟨xs,s _ _ a,Paired.mapP b fun _ _ ⟨q,c,d⟩=>⟨q,c,s _ _ d⟩⟩
noncomputable def zkz (H:Hp) (w:zas) (v:V) (f:Flt):Prop:=∃ t b m,v= .ref t∧H t=some (.tup [.ref b,.ref m])∧H b=some (.tup (f.place.map kV++ [.int f.worth]))∧zfU H m (zbb w [f])
theorem zkz.mono {H H':Hp}{w:zas}{v:V}{f:Flt}(h:zkz H w v f)(s:Same H H'):zkz H' w v f:=by
 obtain ⟨t,b,m,e,a,c,d⟩:=h
 exact ⟨t,b,m,e,s _ _ a,s _ _ c,d.mono s⟩
noncomputable def sp_la (K:PySem.W.Frag):Sp:=fun vs H Q _=>∃ (x:V) (w:zas),vs= [x]∧Rep K H x (zbA w)∧WF 20 w∧∀ (r t0 b0 m0:Addr) (xs:List V) (H':Hp),Same H H'→H r=none→H' r=some (.lst (.ref t0::xs))→H' t0=some (.tup [.ref b0,.ref m0])→zfU H' m0 (zbb w [])→Paired (zkz H' w) xs (allF w)→Q (.ref r) H'
theorem zhw {F:Addr}{H H':Hp}{o:HO}(s:Same H H')(e:H F=some o)(o':HO):Same (hole F H) (hole F (upd H' F o')):=fun b v h=>by
 by_cases z:b=F
 ·unfold hole at h
  rw [if_pos z] at h
  cases h
 ·rw [zaL z] at h ⊢
  rw [zah z]
  exact s _ _ h
theorem zgE {w:zas}{fs:List Flt}{i:Nat}{row:List Int}(hrow:(zaT w.ins.toNat)[i]? =some row):(zbb w fs).take (i+1)=(zbb w fs).take i++ [zel w (zaV fs w.gates row w.gates.length)]:=by
 unfold zbb
 rw [yR,yJ,hrow]
 rfl
theorem zkk (v:V)(xs:List V):cutV (v::xs) (some 1) none=xs:=by
 have e1:HT.sIx (v::xs).length 0 (some 1)=1:=by
  simp only [HT.sIx]
  rw [if_neg (by decide),jE]
  exact Nat.min_eq_left (Nat.le_add_left _ _)
 have e2:HT.sIx (v::xs).length (v::xs).length none=(v::xs).length:=rfl
 unfold cutV
 rw [e1,e2,List.drop_one,List.tail_cons]
 exact xD (by simp)
noncomputable def sp_lfd (K:PySem.W.Frag):Sp:=fun vs H Q _=>∃ (x:V) (w:zas),vs= [x]∧Rep K H x (zbA w)∧WF 20 w∧∀ (d:Addr) (kvs:List (List Key×V)) (H':Hp),Same H H'→H d=none→H' d=some (.dT kvs)→zbe H' w kvs (allF w)→Q (.ref d) H'
theorem zln (w:zas)(fs:List Flt):(zbb w fs).length=2 ^ w.ins.toNat:=by unfold zbb;rw [yB,zaS]
noncomputable def zj6 (w:zas) (ts:List Nat):List Flt:=(allF w).filter fun f=>decide (zaC w f≠[]) && !za7 (zaC w f) ts
theorem znc (w:zas)(ts:List Nat):zj6 w ts= []↔((zaF w).all fun f=>za7 (zaC w f) ts)=true:=by
 unfold zj6 zaF
 rw [ybf,yZ]
 constructor
 ·intro h f hf
  obtain ⟨h1,h2⟩:=yT.mp hf
  have:=h f h1
  rw [h2,yaw,kY,Bool.not_eq_false] at this
  exact this
 ·intro h f hf z
  rw [yW] at z
  have:=h f (yT.mpr ⟨hf,z.1⟩)
  rw [this] at z
  exact absurd z.2 (by decide)
theorem zbe.hit {H:Hp}{w:zas}{f:Flt}{p:List Key×V}:∀ {kvs:List (List Key×V)} {fs:List Flt} {i:Nat},zbe H w kvs fs→fs.Nodup→kvs[i]? =some p→fs[i]? =some f→valV kvs (fkK f)=some p.2
 | _,_,0,.cons h _,_,e1,e2=>by
  cases e1
  cases e2
  exact zcO h.1
 | _,_,i+1,.cons (a:=a) (b:=b) h r,nd,e1,e2=>by
  have nd':=xA.mp nd
  rw [zb8 (fun z=>nd'.1 (by rw [zhu (h.1.symm.trans z)];exact yH e2))]
  exact zbe.hit r nd'.2 e1 e2
theorem zc8 {K:PySem.W.Frag}{H:Hp}(ns:List Nat):Reps K H (zaA ns) ((ns.map fun j:Nat=>(j:Int)).map Dat.int):=by
 have:=Reps.ints (K:=K) (H:=H) (ns.map fun j:Nat=>(j:Int))
 rw [kR] at this
 exact this
theorem zdW (ns:List Nat):(Dat.list ((ns.map fun j:Nat=>(j:Int)).map Dat.int)=Dat.list [])↔ns= []:=by
 constructor
 ·intro e
  have:=Dat.list.inj e
  cases ns with
  | nil=>rfl
  | cons a b=>cases this
 ·rintro rfl;rfl
noncomputable def FAtR (H:Hp) (f:Flt) (v:V):Prop:=∃ b,v= .ref b∧RdT H b (f.place.map kV++ [.int f.worth])
noncomputable abbrev zbT (H:Hp):List V→List Flt→Prop:=Paired fun v f=>FAtR H f v
theorem FAtR.mono {H H':Hp}{f:Flt}{v:V}(h:FAtR H f v)(s:Same H H'):FAtR H' f v:=let ⟨b,e,q⟩:=h;⟨b,e,q.same s⟩
theorem FAtR.write {H:Hp}{f:Flt}{v:V}{p:Addr}{xs:List V}(h:FAtR H f v)(e:H p=some (.lst xs))(o:HO):FAtR (upd H p o) f v:=let ⟨b,e1,q⟩:=h;⟨b,e1,q.write e⟩
theorem FAtR.put {H:Hp}{f:Flt}{v:V}{p:Addr}{kvs:List (List Key×V)}(h:FAtR H f v)(e:H p=some (.dT kvs))(o:HO):FAtR (upd H p o) f v:=let ⟨b,e1,q⟩:=h;⟨b,e1,q.put (fun z=>by rcases q with h | ⟨_,h⟩ <;> (rw [z,e] at h;cases h))⟩
theorem zbT.mono {H H':Hp}{vs:List V}{fs:List Flt}(h:zbT H vs fs)(s:Same H H'):zbT H' vs fs:=Paired.mapP h fun _ _ z=>z.mono s
theorem zbT.write {H:Hp}{vs:List V}{fs:List Flt}{p:Addr}{xs:List V}(h:zbT H vs fs)(e:H p=some (.lst xs))(o:HO):zbT (upd H p o) vs fs:=Paired.mapP h fun _ _ z=>z.write e o
theorem zbT.put {H:Hp}{vs:List V}{fs:List Flt}{p:Addr}{kvs:List (List Key×V)}(h:zbT H vs fs)(e:H p=some (.dT kvs))(o:HO):zbT (upd H p o) vs fs:=Paired.mapP h fun _ _ z=>z.put e o
theorem FAtR.rep {K:PySem.W.Frag}{H:Hp}{f:Flt}{v:V}(h:FAtR H f v):Rep K H v (fltD f):=by
 obtain ⟨b,rfl,q⟩:=h
 exact ziL q.tup
theorem zbT.reps {K:PySem.W.Frag}{H:Hp}:∀ {vs:List V} {fs:List Flt},zbT H vs fs→Reps K H vs (fs.map fltD)
 | _,_,.nil=>.nil
 | _,_,.cons a r=>.cons a.rep (zbT.reps r)
noncomputable def GAtR (H:Hp) (ag:Addr×List Flt):Prop:=∃ xs,H ag.1=some (.lst xs)∧zbT H xs ag.2
theorem GAtR.mono {H H':Hp}{ag:Addr×List Flt}(h:GAtR H ag)(s:Same H H'):GAtR H' ag:=let ⟨xs,a,b⟩:=h;⟨xs,s _ _ a,b.mono s⟩
theorem GAtR.write {H:Hp}{ag:Addr×List Flt}{p:Addr}{ys:List V}(h:GAtR H ag)(n:ag.1≠p)(e:H p=some (.lst ys))(o:HO):GAtR (upd H p o) ag:=let ⟨xs,a,b⟩:=h;⟨xs,by rw [zah n];exact a,b.write e o⟩
theorem GAtR.put {H:Hp}{ag:Addr×List Flt}{p:Addr}{kvs:List (List Key×V)}(h:GAtR H ag)(e:H p=some (.dT kvs))(o:HO):GAtR (upd H p o) ag:=let ⟨xs,a,b⟩:=h;⟨xs,by rw [zah (fun z=>by rw [z,e] at a;cases a)];exact a,b.put e o⟩
theorem zgH:∀ n,(zaT n).Nodup
 | 0=>by simp [zaT]
 | n+1=>by
  rw [zaT,jB]
  have h:=zgH n
  refine ⟨yb0 _ (fun a b ne e=>ne (ya8 e).2) h,yb0 _ (fun a b ne e=>ne (ya8 e).2) h,fun a ha b hb e=>?_⟩
  obtain ⟨x,_,rfl⟩:=qE.mp ha
  obtain ⟨y,_,rfl⟩:=qE.mp hb
  cases (ya8 e).1
noncomputable def zbZ (w:zas) (k:Nat):List Int:=(zaT w.ins.toNat).getD k []
theorem zhU {w:zas}{j k:Nat}(hj:j < 2 ^ w.ins.toNat)(hk:k < 2 ^ w.ins.toNat)(e:zbZ w j=zbZ w k):j=k:=by
 have hj':j < (zaT w.ins.toNat).length:=by rw [zaS];exact hj
 have hk':k < (zaT w.ins.toNat).length:=by rw [zaS];exact hk
 unfold zbZ at e
 rw [yM,yM,yF hj',yF hk'] at e
 exact (yb4 (zgH _)).mp e
theorem zdV {w:zas}{f:Flt}(gf:zeC w f)(wf:WF 20 w){j:Nat}(h:j∈zaC w f):j < 2 ^ w.ins.toNat:=by
 rw [zdJ gf wf] at h
 exact qN.mp (yT.mp h).1
theorem zgP {w:zas}{f:Flt}(gf:zeC w f)(wf:WF 20 w){ts:List Nat}(ht:∀ j∈ts,j < 2 ^ w.ins.toNat):za7 (zaC w f) (zfb w.ins.toNat (ts.map (zbZ w)))=za7 (zaC w f) ts:=by
 unfold za7
 rw [xG,xV,xV]
 have key:∀ j∈zaC w f,(j∈zfb w.ins.toNat (ts.map (zbZ w))↔j∈ts):=fun j hj=>by
  have lj:=zdV gf wf hj
  unfold zfb
  rw [yT,qN,zaS,decide_eq_true_eq]
  constructor
  ·rintro ⟨_,h⟩
   obtain ⟨k,hk,e⟩:=qE.mp h
   rw [← zhU (ht k hk) lj e]
   exact hk
  ·intro h
   exact ⟨lj,qE.mpr ⟨j,h,rfl⟩⟩
 constructor
 ·rintro ⟨j,hj,e⟩
  exact ⟨j,hj,decide_eq_true ((key j hj).mp (of_decide_eq_true e))⟩
 ·rintro ⟨j,hj,e⟩
  exact ⟨j,hj,decide_eq_true ((key j hj).mpr (of_decide_eq_true e))⟩
theorem zk0 {w:zas}(wf:WF 20 w){ts:List Nat}(ht:∀ j∈ts,j < 2 ^ w.ins.toNat):((zaF w).all fun f=>za7 (zaC w f) (zfb w.ins.toNat (ts.map (zbZ w))))=((zaF w).all fun f=>za7 (zaC w f) ts):=by
 rw [xG,yZ,yZ]
 constructor
 ·intro h f hf
  rw [← zgP (zaW (yT.mp hf).1) wf ht]
  exact h f hf
 ·intro h f hf
  rw [zgP (zaW (yT.mp hf).1) wf ht]
  exact h f hf
theorem zhO {K:PySem.W.Frag}{H:Hp}:∀ {xs:List V} {rs:List (List Int)},Paired (fun v row=>∃ q,v= .ref q∧H q=some (.lst (row.map V.int))) xs rs→Reps K H xs (rs.map rowD)
 | _,_,.nil=>.nil
 | _,_,.cons ⟨_,e,h⟩ r=>by
  subst e
  exact .cons (.lst (.of h) (Reps.ints _)) (zhO r)
theorem zfZ {w:zas}{f:Flt}(h:f∈zaF w):zaC w f≠[]:=by simpa using (yT.mp h).2
noncomputable def zbD (cs:List Nat):Nat:=match cs.getLast? with | none=>0 | some x=>x+1
noncomputable def zm6 (count:Nat) (cs:List Nat):List (List Nat):=(qI (count - zbD cs)).map fun i=>cs++ [zbD cs+i]
noncomputable def risV (count:Nat):Nat→List (List Nat)
 | 0=>[[]]
 | n+1=>(risV count n).flatMap (zm6 count)
theorem zjc {a:List Nat}{x:Nat}(h:∀ y∈a,y < x):zbD a≤x:=by
 unfold zbD
 cases e:a.getLast? with
 | none=>exact qM _
 | some y=>exact h y (List.mem_of_getLast? e)
theorem ziq {a:List Nat}(h:a.Pairwise (· < ·)){y:Nat}(hy:y∈a):y < zbD a:=by
 rcases yao a with e | ⟨i,l,e⟩
 ·rw [e] at hy;cases hy
 ·rw [yap] at e
  subst e
  have el:zbD (i++ [l])=l+1:=by unfold zbD;rw [ybD];rfl
  rw [el]
  rcases qG.mp hy with z | z
  ·have:=(yau.mp h).2.2 y z l (yG.mpr rfl)
   omega
  ·rw [yG.mp z];omega
theorem zcm {count:Nat}:∀ {n:Nat} {cs:List Nat},cs∈risV count n↔cs.Pairwise (· < ·)∧(∀ j∈cs,j < count)∧cs.length=n
 | 0,cs=>by
  rw [risV,yG]
  constructor
  ·rintro rfl
   exact ⟨.nil,(fun _ z=>nomatch z),rfl⟩
  ·rintro ⟨_,_,e⟩
   exact jQ.mp e
 | n+1,cs=>by
  rw [risV,kJ]
  constructor
  ·rintro ⟨a,ha,hc⟩
   obtain ⟨p,b,l⟩:=zcm.mp ha
   obtain ⟨i,hi,rfl⟩:=qE.mp hc
   have hi:=qN.mp hi
   refine ⟨yau.mpr ⟨p,List.pairwise_singleton _ _,fun y hy x hx=>?_⟩,fun j hj=>?_,by rw [yI,qC,l]⟩
   ·rw [yG.mp hx]
    have:=ziq p hy
    omega
   ·rcases qG.mp hj with z | z
    ·exact b j z
    ·rw [yG.mp z];omega
  ·rintro ⟨p,b,l⟩
   rcases yao cs with e | ⟨a,x,e⟩
   ·rw [e] at l;cases l
   ·rw [yap] at e
    subst e
    have pa:=yau.mp p
    rw [yI,qC] at l
    have le:=zjc fun y hy=>pa.2.2 y hy x (yG.mpr rfl)
    have lx:=b x (jA _ (yG.mpr rfl))
    refine ⟨a,zcm.mpr ⟨pa.1,fun j hj=>b j (vP _ hj),by omega⟩,qE.mpr ⟨x - zbD a,qN.mpr (by omega),?_⟩⟩
    rw [show zbD a+(x - zbD a)=x by omega]
theorem zlv:∀ c < 9,∀ n < 9,(risV c n).length≤70:=by decide+kernel
theorem zll (c:Nat):qI c∈risV c c:=zcm.mpr ⟨ybg,fun j hj=>qN.mp hj,xH⟩
noncomputable def metV (nss:List (List Nat)) (ts:List Nat):Bool:=nss.all fun ns=>za7 ns ts
noncomputable def zjW (nss:List (List Nat)) (count:Nat) (cs:List Nat):Prop:=∃ n,1≤n∧n≤count∧((risV count n).filter (metV nss)).head? =some cs∧∀ m,1≤m→m < n→(risV count m).filter (metV nss)= []
noncomputable abbrev zgZ (H:Hp):List V→List (List Nat)→Prop:=Paired fun v cs=>∃ q,v= .ref q∧H q=some (.lst (zaA cs))
theorem zgZ.mono {H H':Hp}{xs:List V}{css:List (List Nat)}(h:zgZ H xs css)(s:Same H H'):zgZ H' xs css:=Paired.mapP h fun _ _ ⟨q,a,b⟩=>⟨q,a,s _ _ b⟩
theorem zgO {α β :Type}{r: α→β→Prop}:∀ {xs xs':List α} {ys ys':List β},Paired r xs ys→Paired r xs' ys'→Paired r (xs++xs') (ys++ys')
 | _,_,_,_,.nil,h=>h
 | _,_,_,_,.cons a t,h=>.cons a (zgO t h)
theorem zk1 (cs:List Nat)(ne:cs≠[]):atI (zaA cs) (-1)=some (.int (((zbD cs:Nat):Int) - 1)):=by
 rcases yao cs with e | ⟨i,l,e⟩
 ·exact absurd e ne
 ·rw [yap] at e
  subst e
  have el:zbD (i++ [l])=l+1:=by unfold zbD;rw [ybD];rfl
  have en:zaA (i++ [l])=zaA i++ [.int (l:Int)]:=by unfold zaA;rw [yN];rfl
  rw [en,zmJ,el]
  congr 2
  omega
noncomputable def sp_lc:Sp:=fun vs H Q _=>∃ (a:Addr) (xs:List V) (css:List (List Nat)) (count:Nat),vs= [.ref a,.int count]∧H a=some (.lst xs)∧zgZ H xs css∧count≤8∧css.length≤1000∧(∀ cs∈css,cs.length≤100)∧(∀ cs∈css,zbD cs≤count)∧
 ∀ (r:Addr) (ys:List V) (H':Hp),Same H H'→H r=none→H' r=some (.lst ys)→zgZ H' ys (css.flatMap (zm6 count))→Q (.ref r) H'
noncomputable def sp_fn:Sp:=fun vs H Q _=>∃ (count:Nat) (d:Addr) (kvs:List (List Key×V)) (nss:List (List Nat)),vs= [.int count,.ref d]∧1≤count∧count≤8∧H d=some (.dT kvs)∧zf2 H kvs nss∧nss.length≤1000∧(∀ ns∈nss,ns.length≤1000)∧metV nss (qI count)=true∧
 ∀ (r:Addr) (cs:List Nat) (H':Hp),Same H H'→H' r=some (.lst (zaA cs))→zjW nss count cs→Q (.ref r) H'
noncomputable def sp_ci (K:PySem.W.Frag):Sp:=fun vs H Q _=>∃ (a ga oa:Addr) (i:Int),vs= [.ref a]∧SqT K H a [.int i,.ref ga,.ref oa]∧i≤3∧Q .non H
noncomputable def sp_fw (K:PySem.W.Frag):Sp:=fun vs H Q _=>∃ (x:V) (w:zas),vs= [x]∧Rep K H x (zbA w)∧WF 20 w∧w.ins≤3∧
 ∀ (r:Addr) (qs:List Addr) (cs:List Nat) (H':Hp),Same H H'→H r=none→H' r=some (.lst (qs.map V.ref))→At H' qs (cs.map (zbZ w))→(∀ q∈qs,H q=none∧q≠r)→zjW ((zaF w).map (zaC w)) (2 ^ w.ins.toNat) cs→Q (.ref r) H'
inductive Pap where
 | none (f:List Key)
 | of (f:List Key) (ps:List Pap)
noncomputable def zdA (H:Hp):Nat→V→Pap→Prop
 | 0,_,_=>False
 | _+1,v,.none f=>∃ a b:Addr,v= .ref a∧H a=some (.tup [.str "none",.ref b])∧RdT H b (f.map kV)
 | n+1,v,.of f ps=>∃ (a b l:Addr) (xs:List V),v= .ref a∧H a=some (.tup [.str "of",.ref b,.ref l])∧RdT H b (f.map kV)∧H l=some (.lst xs)∧Paired (zdA H n) xs ps∧xs.length≤200+n
theorem zdA.mono {H H':Hp}(s:Same H H'):∀ {n:Nat} {v:V} {p:Pap},zdA H n v p→zdA H' n v p
 | _+1,_,.none _,⟨a,b,e,h1,h2⟩=>⟨a,b,e,s _ _ h1,h2.same s⟩
 | _+1,_,.of _ _,⟨a,b,l,xs,e,h1,h2,h3,p,z⟩=>⟨a,b,l,xs,e,s _ _ h1,h2.same s,s _ _ h3,Paired.mapP p fun _ _ q=>zdA.mono s q,z⟩
theorem zdA.up {H:Hp}:∀ {n:Nat} {v:V} {p:Pap},zdA H n v p→zdA H (n+1) v p
 | _+1,_,.none _,h=>h
 | _+1,_,.of _ _,⟨a,b,l,xs,e,h1,h2,h3,p,z⟩=>⟨a,b,l,xs,e,h1,h2,h3,Paired.mapP p fun _ _ q=>zdA.up q,by omega⟩
theorem zdA.upto {H:Hp}{n:Nat}{v:V}{p:Pap}(h:zdA H n v p):∀ {m:Nat},n≤m→zdA H m v p
 | m,hm=>by
  obtain ⟨k,rfl⟩:∃ k,m=n+k:=⟨m - n,by omega⟩
  clear hm
  induction k with
  | zero=>exact h
  | succ k ih=>exact ih.up
noncomputable def zbB (fd:List Key→List Nat):Nat→List Nat→Int→Pap→Bool
 | 0,_,_,_=>false
 | _+1,tk,k,.none f=>decide (fd f≠[]) && !za7 (fd f) tk && decide (k=0)
 | n+1,tk,k,.of f ps=>decide (fd f≠[]) && !za7 (fd f) tk && decide (1≤k) && decide (ps.length=(fd f).length) && ((fd f).zip ps).all fun jp=>zbB fd n (tk++ [jp.1]) (k - 1) jp.2
noncomputable def fdW (w:zas) (f:List Key):List Nat:=match (allF w).find? (fun g=>decide (fkK g=f)) with | some g=>zaC w g | none=>[]
theorem zd2 {w:zas}{g:Flt}(h:g∈allF w):fdW w (fkK g)=zaC w g:=by
 unfold fdW
 cases e:(allF w).find? (fun x=>decide (fkK x=fkK g)) with
 | none=>exact absurd (yaN.mp e g h) (by simp)
 | some x=>
  have z:=ycd e
  have:fkK x=fkK g:=of_decide_eq_true z
  rw [zhu this]
theorem zho {w:zas}{f:List Key}(h:∀ g∈allF w,fkK g≠f):fdW w f= []:=by
 unfold fdW
 rw [yaN.mpr fun g hg=>by simpa using h g hg]
theorem zbe.look {H:Hp}{w:zas}(f:List Key):∀ {kvs:List (List Key×V)} {fs:List Flt},zbe H w kvs fs→(valV kvs f=none∧∀ g∈fs,fkK g≠f)∨∃ g∈fs,fkK g=f∧∃ l,valV kvs f=some (.ref l)∧H l=some (.lst (zaA (zaC w g)))
 | _,_,.nil=>.inl ⟨rfl,fun _ z=>nomatch z⟩
 | _,_,.cons (a:=a) (b:=g) h r=>by
  obtain ⟨h1,l,h2,h3⟩:=h
  by_cases c:fkK g=f
  ·exact .inr ⟨g,.head _,c,l,by rw [zcO (h1.trans c),h2],h3⟩
  ·rw [zb8 (fun z=>c (h1.symm.trans z))]
   rcases zbe.look f r with ⟨e,n⟩ | ⟨g',hg',e⟩
   ·exact .inl ⟨e,fun x hx=>by
     rcases yY.mp hx with z | z
     ·rw [z];exact c
     ·exact n x z⟩
   ·exact .inr ⟨g',.tail _ hg',e⟩
theorem ze0 {H:Hp}{w:zas}{kvs:List (List Key×V)}(h:zbe H w kvs (zaF w))(f:List Key):(valV kvs f=none∧fdW w f= [])∨(fdW w f≠[]∧∃ l,valV kvs f=some (.ref l)∧H l=some (.lst (zaA (fdW w f)))):=by
 rcases zbe.look f h with ⟨e,n⟩ | ⟨g,hg,e,l,h1,h2⟩
 ·refine .inl ⟨e,?_⟩
  by_cases c:∃ g∈allF w,fkK g=f
  ·obtain ⟨g,hg,e2⟩:=c
   rw [← e2,zd2 hg]
   cases z:zaC w g with
   | nil=>rfl
   | cons a b=>exact absurd e2 (n g (yT.mpr ⟨hg,decide_eq_true (by rw [z];exact fun q=>nomatch q)⟩))
  ·exact zho fun g hg z=>c ⟨g,hg,z⟩
 ·have hm:=yT.mp hg
  have ef:fdW w f=zaC w g:=by rw [← e];exact zd2 hm.1
  rw [ef]
  exact .inr ⟨of_decide_eq_true hm.2,l,h1,h2⟩
theorem ziX {H:Hp}{w:zas}{kvs:List (List Key×V)}(h:zbe H w kvs (allF w))(f:List Key):(valV kvs f=none∧fdW w f= [])∨∃ l,valV kvs f=some (.ref l)∧H l=some (.lst (zaA (fdW w f))):=by
 rcases zbe.look f h with ⟨e,n⟩ | ⟨g,hg,e,l,h1,h2⟩
 ·exact .inl ⟨e,zho n⟩
 ·refine .inr ⟨l,h1,?_⟩
  rw [← e,zd2 hg]
  exact h2
theorem ziz {w:zas}(wf:WF 20 w)(f:List Key):(fdW w f).length≤1000:=by
 by_cases c:∃ g∈allF w,fkK g=f
 ·obtain ⟨g,hg,e⟩:=c
  rw [← e,zd2 hg]
  exact zdR (zaW hg) wf
 ·rw [zho fun g hg z=>c ⟨g,hg,z⟩]
  exact qM _
noncomputable def zm4 (n:Nat):Sp:=fun vs H Q _=>∃ (d ta:Addr) (k:Int) (v:V) (w:zas) (kvs:List (List Key×V)) (ts:List Nat) (p:Pap),vs= [.ref d,.ref ta,.int k,v]∧H d=some (.dT kvs)∧zbe H w kvs (zaF w)∧WF 20 w∧H ta=some (.lst (zaA ts))∧ts.length+n≤1000∧zdA H n v p∧
 ∀ H',Same H H'→Q (.bl (zbB (fdW w) n ts k p)) H'
theorem zeX {α β :Type}{r: α→β→Prop}:∀ {xs us:List α} {ys vs:List β},Paired r xs ys→Paired r us vs→Paired r (xs++us) (ys++vs)
 | _,_,_,_,.nil,h=>h
 | _,_,_,_,.cons a t,h=>.cons a (zeX t h)
noncomputable def zm5 (H:Hp) (v:V):Prop:=∃ (b:Addr) (f:List Key),v= .ref b∧RdT H b (f.map kV)
theorem zm5.mono {H H':Hp}{v:V}(h:zm5 H v)(s:Same H H'):zm5 H' v:=let ⟨b,f,e,h⟩:=h;⟨b,f,e,h.same s⟩
theorem zbT.keys {H:Hp}:∀ {xs:List V} {fs:List Flt},zbT H xs fs→∀ v∈xs,zm5 H v
 | _,_,.cons ⟨b,e,h⟩ r,v,hv=>by
  rcases yY.mp hv with rfl | hv
  ·exact ⟨b,_,e,by rw [← zhD] at h;exact h⟩
  ·exact zbT.keys r v hv
theorem zbT.app {H:Hp}{xs ys:List V}{fs gs:List Flt}(h:zbT H xs fs)(q:zbT H ys gs):zbT H (xs++ys) (fs++gs):=zeX h q
theorem DGet.r {H:Hp}{a b:Addr}{kvs:List (List Key×V)}{k:List Key}(e:H a=some (.dT kvs))(eb:RdT H b (k.map kV)):DGet H a (.ref b) (valV kvs k):=.inr ⟨kvs,k,b,.inl e,rfl,eb,rfl⟩
noncomputable def zmC (K:PySem.W.Frag):Sp:=fun vs H Q _=>∃ (d a:Addr) (w:zas) (kvs:List (List Key×V)) (ts:List Nat),vs= [.ref d,.ref a]∧H d=some (.dT kvs)∧zbe H w kvs (allF w)∧WF 20 w∧SqL K H a (zaA ts)∧
 ∀ (r:Addr) (ob:vS) (ys:List V) (H':Hp),Same (hole d H) H'→H' d=some (.frz ob (.dT kvs))→H r=none→H' r=some (.lst ys)→zbT H' ys (zj6 w ts)→Q (.ref r) H'
noncomputable def zoa (K:PySem.W.Frag):Sp:=fun vs H Q _=>∃ (d a:Addr) (w:zas) (kvs:List (List Key×V)) (ts:List Nat),vs= [.ref d,.ref a]∧H d=some (.dT kvs)∧zbe H w kvs (allF w)∧WF 20 w∧SqL K H a (zaA ts)∧
 ∀ (r:Addr) (ys:List V) (H':Hp),Same H H'→H' r=some (.lst ys)→zbT H' ys (zj6 w ts)→Q (.ref r) H'
noncomputable def zkv (H:Hp) (m:Nat) (v:V):Prop:=∃ (q:Addr) (ts:List Nat),v= .ref q∧H q=some (.lst (zaA ts))∧(∀ j∈ts,j < m)∧ts.length≤128
theorem zkv.mono {H H':Hp}{m:Nat}{v:V}(h:zkv H m v)(s:Same H H'):zkv H' m v:=let ⟨q,ts,a,b,c⟩:=h;⟨q,ts,a,s _ _ b,c⟩
theorem zok (w:zas)(ts:List Nat):kqdOk 8 (.list ((zj6 w ts).map fltD))=true:=zng (n:=6) fun f hf=>zaW (yT.mp hf).1
theorem zm8 {w:zas}{f:Flt}(h:zeC w f):f∈allF w:=by
 obtain ⟨p,u⟩:=f
 refine kJ.mpr ⟨p,h.1,?_⟩
 rcases h.2 with e | e
 ·have e':u=0:=e
  rw [e'];exact .head _
 ·have e':u=1:=e
  rw [e'];exact .tail _ (.head _)
theorem zjM {w:zas}(wf:WF 20 w){row:List Int}(hl:(row.length:Int)=w.ins){i:Nat}(hi:i < w.ins.toNat+w.gates.length)(u:Int):(zaV [⟨zbn i,u⟩] w.gates row w.gates.length).getD i 0=u:=by
 rw [yM]
 by_cases c:i < row.length
 ·rw [W_in _ _ _ c,zfG]
  rfl
 ·obtain ⟨k,ek⟩:∃ k,i=row.length+k:=⟨i - row.length,by omega⟩
  subst ek
  have hk:k < w.gates.length:=by omega
  have hg:w.gates[k]? =some w.gates[k]:=yF hk
  rw [znq _ hg hk (fun l hl'=>by have:=(wf.legs k _ hg).2 l hl';omega),zfG]
  rfl
theorem zkb {w:zas}(wf:WF 20 w):zaF w≠[]:=by
 obtain ⟨o,os,eo⟩:∃ o os,w.outs=o::os:=by
  cases e:w.outs with
  | nil=>have:=wf.o1;rw [e] at this;exact absurd this (by decide)
  | cons o os=>exact ⟨o,os,rfl⟩
 have bo:=wf.outs o (by rw [eo];exact .head _)
 have i1:=wf.i1
 have p0: 0 < 2 ^ w.ins.toNat:=Nat.pow_pos (by decide)
 obtain ⟨row,hrow⟩:∃ row,(zaT w.ins.toNat)[0]? =some row:=⟨_,yF (by rw [zaS];exact p0)⟩
 obtain ⟨l1,b1⟩:=zcl _ _ (yH hrow)
 have hl:(row.length:Int)=w.ins:=by rw [l1];omega
 have bits:=zdk (fs:=[]) (fun f hf=>nomatch hf) wf hl b1 _ (yL _)
 have lw:=zbN [] w.gates row w.gates.length
 have hb:=zbH bits (i:=o.toNat) (by omega)
 obtain ⟨b,eb⟩:∃ b,(zaV [] w.gates row w.gates.length).getD o.toNat 0=b:=⟨_,rfl⟩
 rw [eb] at hb
 have ho:o.toNat < w.ins.toNat+w.gates.length:=by omega
 have gf:zeC w ⟨zbn o.toNat,1 - b⟩:=zkQ ho (by omega)
 have st:=zjM wf hl ho (1 - b)
 have e1:∀ fs,(zbb w fs).getD 0 []=zel w (zaV fs w.gates row w.gates.length):=fun fs=>by
  unfold zbb
  rw [yM,yJ,hrow]
  rfl
 have hin: 0∈zaC w ⟨zbn o.toNat,1 - b⟩:=by
  rw [zdJ gf wf]
  refine yT.mpr ⟨qN.mpr p0,decide_eq_true fun z=>?_⟩
  rw [e1,e1] at z
  unfold zel at z
  rw [eo,qJ,qJ] at z
  have:=(ya8 z).1
  rw [st,eb] at this
  omega
 have:(⟨zbn o.toNat,1 - b⟩:Flt)∈zaF w:=yT.mpr ⟨zm8 gf,decide_eq_true fun z=>by rw [z] at hin;cases hin⟩
 exact List.ne_nil_of_mem this
theorem zoN {w:zas}(wf:WF 20 w):metV ((zaF w).map (zaC w)) []=false:=by
 unfold metV
 cases e:zaF w with
 | nil=>exact absurd e (zkb wf)
 | cons f fs=>
  have:za7 (zaC w f) []=false:=by unfold za7;rw [vU];intro x _;simp
  rw [qJ,ybN,this]
  rfl
theorem zi1:∀ {T S:List Nat},T.Nodup→(∀ x∈T,x∈S)→T.length≤S.length
 | [],_,_,_=>qM _
 | a::T,S,nd,h=>by
  obtain ⟨na,nd'⟩:=xA.mp nd
  have ha:=h a (.head _)
  have:=zi1 (T:=T) (S:=S.erase a) nd' fun x hx=>(List.mem_erase_of_ne (fun z=>na (by rw [← z];exact hx))).mpr (h x (.tail _ hx))
  rw [List.length_erase_of_mem ha] at this
  have:=ybh ha
  rw [jE]
  omega
noncomputable def zkT (H:Hp) (w:zas) (cs:List Nat) (v:V):Prop:=∃ (p:Addr) (ps:List Addr) (rs:List (List Int)),v= .ref p∧H p=some (.lst (ps.map V.ref))∧At H ps rs∧(∀ k∈cs,zbZ w k∈rs)∧(∀ row∈rs,row∈zaT w.ins.toNat)∧rs.length≤20
theorem zkT.mono {H H':Hp}{w:zas}{cs:List Nat}{v:V}(h:zkT H w cs v)(s:Same H H'):zkT H' w cs v:=let ⟨p,ps,rs,a,b,c,d⟩:=h;⟨p,ps,rs,a,s _ _ b,At.mono s c,d⟩
noncomputable def zgQ (K:PySem.W.Frag) (P:Addr):Sp:=fun vs H Q _=>∃ (a:Addr) (ns:List Int),vs= [.ref a]∧SqL K H a (ns.map V.int)∧ns.length≤63∧H P=some (.tbl #[])∧∀ H',Q (.bl true) H'
noncomputable def LowV (w:zas) (ts:List Nat) (k:Nat):Prop:=∀ us:List Nat,us.length≤k→metV ((zaF w).map (zaC w)) (ts++us)=false
theorem zne {w:zas}{ts:List Nat}{k:Nat}(h:LowV w ts (k+1))(j:Nat):LowV w (ts++ [j]) k:=fun us hu=>by
 have:=h (j::us) (by rw [jE];omega)
 rwa [xL]
theorem znI {w:zas}{ts:List Nat}{k:Nat}(h:LowV w ts k):∃ f∈zaF w,za7 (zaC w f) ts=false:=by
 have:=h [] (qM _)
 rw [jH] at this
 unfold metV at this
 rw [vZ,yb1] at this
 obtain ⟨f,hf,e⟩:=this
 exact ⟨f,hf,by simpa using e⟩
theorem zoo {w:zas}(wf:WF 20 w){cs:List Nat}(few:zjW ((zaF w).map (zaC w)) (2 ^ w.ins.toNat) cs):∃ k,cs.length=k+1∧k≤7+2 ^ w.ins.toNat∧LowV w [] k:=by
 obtain ⟨n,n1,n2,hc,mn⟩:=few
 have ln:=(zcm.mp (yT.mp (vB hc)).1).2.2
 refine ⟨n - 1,by omega,by omega,fun us hu=>?_⟩
 rw [List.nil_append]
 cases z:metV ((zaF w).map (zaC w)) us with
 | false=>rfl
 | true=>
  exfalso
  have same:metV ((zaF w).map (zaC w)) ((qI (2 ^ w.ins.toNat)).filter fun j=>decide (j∈us))=true:=by
   unfold metV at z ⊢
   rw [vZ,yZ] at z ⊢
   intro f hf
   have gf:=zaW (yT.mp hf).1
   have:=z f hf
   show za7 (zaC w f) _=true
   have this:za7 (zaC w f) us=true:=this
   unfold za7 at this ⊢
   rw [xV] at this ⊢
   obtain ⟨j,hj,e⟩:=this
   exact ⟨j,hj,decide_eq_true (yT.mpr ⟨qN.mpr (zdV gf wf hj),e⟩)⟩
  obtain ⟨m,em⟩:∃ m,((qI (2 ^ w.ins.toNat)).filter fun j=>decide (j∈us)).length=m:=⟨_,rfl⟩
  have le:m≤us.length:=by
   rw [← em]
   exact zi1 (List.nodup_range.sublist yaG) fun x hx=>of_decide_eq_true (yT.mp hx).2
  have m1: 1≤m:=by
   cases m with
   | zero=>
    rw [jQ.mp em,zoN wf] at same
    cases same
   | succ m=>omega
  have:=mn m m1 (by omega)
  have hin:((qI (2 ^ w.ins.toNat)).filter fun j=>decide (j∈us))∈(risV (2 ^ w.ins.toNat) m).filter (metV ((zaF w).map (zaC w))):=
   yT.mpr ⟨zcm.mpr ⟨ybg.sublist yaG,fun j hj=>qN.mp (yT.mp hj).1,em⟩,same⟩
  rw [this] at hin
  cases hin
theorem ziQ {fd:List Key→List Nat}:∀ (p:Pap) (n m:Nat) (ts:List Nat) (k k':Int),zbB fd n ts k p=true→zbB fd m ts k' p=true→k=k'
 | _,0,_,_,_,_,h,_=>by cases h
 | _,_+1,0,_,_,_,_,h=>by cases h
 | .none f,n+1,m+1,ts,k,k',h,h'=>by
  unfold zbB at h h'
  simp only [yW,decide_eq_true_eq] at h h'
  rw [h.2,h'.2]
 | .of f ps,n+1,m+1,ts,k,k',h,h'=>by
  unfold zbB at h h'
  simp only [yW,decide_eq_true_eq,yZ] at h h'
  obtain ⟨⟨⟨⟨a1,a2⟩,a3⟩,a4⟩,a5⟩:=h
  obtain ⟨⟨⟨⟨b1,b2⟩,b3⟩,b4⟩,b5⟩:=h'
  cases e1:fd f with
  | nil=>exact absurd e1 a1
  | cons j js=>
   cases ps with
   | nil=>rw [e1] at a4;cases a4
   | cons q qs=>
    have hm:(j,q)∈(fd f).zip (q::qs):=by rw [e1];exact .head _
    have:=ziQ q n m (ts++ [j]) (k - 1) (k' - 1) (a5 _ hm) (b5 _ hm)
    omega
theorem zht {fd:List Key→List Nat}:∀ (n m:Nat) (ts:List Nat) (k:Int) (p:Pap),n≤m→zbB fd n ts k p=true→zbB fd m ts k p=true
 | 0,_,_,_,_,_,h=>by cases h
 | n+1,0,_,_,_,le,_=>by omega
 | n+1,m+1,ts,k,.none f,_,h=>h
 | n+1,m+1,ts,k,.of f ps,le,h=>by
  unfold zbB at h ⊢
  simp only [yW,decide_eq_true_eq,yZ] at h ⊢
  exact ⟨h.1,fun jp hj=>zht n m _ _ _ (by omega) (h.2 jp hj)⟩
noncomputable def PapF (H0 H:Hp):Nat→V→Pap→Prop
 | 0,_,_=>False
 | _+1,v,.none f=>∃ a b:Addr,v= .ref a∧H a=some (.tup [.str "none",.ref b])∧RdT H b (f.map kV)
 | n+1,v,.of f ps=>∃ (a b l:Addr) (xs:List V),v= .ref a∧H a=some (.tup [.str "of",.ref b,.ref l])∧RdT H b (f.map kV)∧H l=some (.lst xs)∧H0 l=none∧Paired (PapF H0 H n) xs ps∧xs.length≤200
theorem PapF.at {H0 H:Hp}:∀ {n:Nat} {v:V} {p:Pap},PapF H0 H n v p→zdA H n v p
 | _+1,_,.none _,h=>h
 | n+1,_,.of _ _,⟨a,b,l,xs,e,h1,h2,h3,_,pr,z⟩=>⟨a,b,l,xs,e,h1,h2,h3,Paired.mapP pr fun _ _ q=>PapF.at q,by omega⟩
theorem PapF.keep {H0 H1 H H':Hp}(k1:∀ b xs,H b=some (.tup xs)→H' b=some (.tup xs))(k2:∀ b xs,RdT H b xs→RdT H' b xs)(k3:∀ l xs,H0 l=none→H l=some (.lst xs)→H' l=some (.lst xs)∧H1 l=none):∀ {n:Nat} {v:V} {p:Pap},PapF H0 H n v p→PapF H1 H' n v p
 | _+1,_,.none _,⟨a,b,e,h1,h2⟩=>⟨a,b,e,k1 _ _ h1,k2 _ _ h2⟩
 | n+1,_,.of _ _,⟨a,b,l,xs,e,h1,h2,h3,h4,pr,z⟩=>⟨a,b,l,xs,e,k1 _ _ h1,k2 _ _ h2,(k3 _ _ h4 h3).1,(k3 _ _ h4 h3).2,Paired.mapP pr fun _ _ q=>PapF.keep k1 k2 k3 q,z⟩
theorem zdm {P:Addr}{lp:Pos}{qual:Str}{H H':Hp}(s:SamP P H H')(t:zbO P lp qual H){b:Addr}{o:HO}(h:H b=some o)(n:∀ ps,o≠.tbl ps):H' b=some o:=by
 obtain ⟨ps,hP,_⟩:=t
 exact s _ _ (fun z=>by rw [z,hP] at h;exact n ps (qF h).symm) h
theorem zi0 {P:Addr}{lp:Pos}{qual:Str}{H H':Hp}(s:SamP P H H')(t:zbO P lp qual H){b:Addr}{xs:List V}(h:RdT H b xs):RdT H' b xs:=by
 rcases h with h | ⟨o,h⟩
 ·exact .inl (zdm s t h fun _ z=>nomatch z)
 ·exact .inr ⟨o,zdm s t h fun _ z=>nomatch z⟩
noncomputable def Kp (H H':Hp):Prop:=∀ b o,H b=some o→(∀ ps,o≠.tbl ps)→H' b=some o
theorem zhi {P:Addr}{lp:Pos}{qual:Str}{H H':Hp}(s:SamP P H H')(t:zbO P lp qual H):Kp H H':=fun _ _ h n=>zdm s t h n
theorem zge {H H':Hp}(s:Same H H'):Kp H H':=fun _ _ h _=>s _ _ h
theorem Kp.trans {H H1 H2:Hp}(a:Kp H H1)(b:Kp H1 H2):Kp H H2:=fun _ _ h n=>b _ _ (a _ _ h n) n
theorem Kp.seq {K:PySem.W.Frag}{H H':Hp}{a:Addr}{xs:List V}(s:Kp H H')(h:SqL K H a xs):SqL K H' a xs:=by
 rcases h with (h | ⟨o,h⟩) | h
 ·exact .inl (.inl (s _ _ h fun _ z=>nomatch z))
 ·exact .inl (.inr ⟨o,s _ _ h fun _ z=>nomatch z⟩)
 ·exact .inr h
theorem Kp.seqT {K:PySem.W.Frag}{H H':Hp}{a:Addr}{xs:List V}(s:Kp H H')(h:SqT K H a xs):SqT K H' a xs:=by
 rcases h with (h | ⟨o,h⟩) | h
 ·exact .inl (.inl (s _ _ h fun _ z=>nomatch z))
 ·exact .inl (.inr ⟨o,s _ _ h fun _ z=>nomatch z⟩)
 ·exact .inr h
mutual
theorem zdD {K:PySem.W.Frag}{H H':Hp}(s:Kp H H'):∀ {v:V} {d:Dat},Rep K H v d→Rep K H' v d
 | _,_,.non=>.non
 | _,_,.bl b=>.bl b
 | _,_,.int i=>.int i
 | _,_,.str x=>.str x
 | _,_,.tup h r=>.tup (s.seqT h) (ziN s r)
 | _,_,.lst h r=>.lst (s.seq h) (ziN s r)
theorem ziN {K:PySem.W.Frag}{H H':Hp}(s:Kp H H'):∀ {vs:List V} {ds:List Dat},Reps K H vs ds→Reps K H' vs ds
 | _,_,.nil=>.nil
 | _,_,.cons h r=>.cons (zdD s h) (ziN s r)
end
theorem zbe.kp {H H':Hp}{w:zas}{kvs:List (List Key×V)}{fs:List Flt}(h:zbe H w kvs fs)(s:Kp H H'):zbe H' w kvs fs:=Paired.mapP h fun _ _ ⟨a,l,b,c⟩=>⟨a,l,b,s _ _ c fun _ z=>nomatch z⟩
theorem at_kp {H H':Hp}{qs:List Addr}{rs:List (List Int)}(h:At H qs rs)(s:Kp H H'):At H' qs rs:=by
 induction h with
 | nil=>exact .nil
 | cons e _ ih=>exact .cons (s _ _ e fun _ z=>nomatch z) ih
theorem zie {nss:List (List Nat)}{count:Nat}{a b:List Nat}(ha:zjW nss count a)(hb:zjW nss count b):a=b:=by
 obtain ⟨n,n1,_,h1,b1⟩:=ha
 obtain ⟨m,m1,_,h2,b2⟩:=hb
 have e:n=m:=by
  rcases Nat.lt_trichotomy n m with z | z | z
  ·rw [b2 n n1 z] at h1;cases h1
  ·exact z
  ·rw [b1 m m1 z] at h2;cases h2
 subst e
 rw [h1] at h2
 exact qF h2
theorem up_of:∀ (cs:List Nat) (lo:Nat),cs.Pairwise (· < ·)→(∀ j∈cs,lo≤j∧j < 8)→UpI lo cs
 | [],_,_,_=>trivial
 | c::r,lo,h,b=>⟨(b c (.head _)).1,(b c (.head _)).2,up_of r (c+1) (yaO.mp h).2 fun j hj=>⟨(yaO.mp h).1 j hj,(b j (.tail _ hj)).2⟩⟩
theorem znj {a b:List Int}(h:rowD a=rowD b):a=b:=by
 unfold rowD at h
 have e:=Dat.list.inj h
 exact (wW (fun x y z=>Dat.int.inj z)).mp e
noncomputable def zfd:Pos:=⟨128,26,128,55⟩
noncomputable def lamQ:Str:=("need_behind" :Str)++".<locals>." ++"<lambda>"
noncomputable def znl (P:Addr) (m:Nat):Sp:=fun vs H Q _=>∃ (d ta:Addr) (k:Nat) (w:zas) (kvs:List (List Key×V)) (ts:List Nat),vs= [.ref d,.ref ta,.int k]∧H d=some (.dT kvs)∧zbe H w kvs (zaF w)∧WF 20 w∧w.ins≤3∧H ta=some (.lst (zaA ts))∧ts.length+k≤100∧k < m∧LowV w ts k∧zbO P zfd lamQ H∧
 ∀ (v:V) (p:Pap) (H':Hp),SamP P H H'→zbO P zfd lamQ H'→PapF H H' (k+1) v p→zbB (fdW w) (k+1) ts k p=true→Q v H'
noncomputable def sp_np (K:PySem.W.Frag) (P:Addr):Sp:=fun vs H Q _=>∃ (x:V) (w:zas),vs= [x]∧Rep K H x (zbA w)∧WF 20 w∧w.ins≤3∧zbO P zfd lamQ H∧
 ∀ (v:V) (p:Pap) (cs:List Nat) (k:Nat) (H':Hp),SamP P H H'→zbO P zfd lamQ H'→zjW ((zaF w).map (zaC w)) (2 ^ w.ins.toNat) cs→cs.length=k+1→k < 8→PapF H H' (k+1) v p→zbB (fdW w) (k+1) [] k p=true→Q v H'
noncomputable def ziU (n:Nat):Sp:=fun vs H Q _=>∃ (d ta:Addr) (k:Int) (v:V) (w:zas) (kvs:List (List Key×V)) (ts:List Nat) (p:Pap),vs= [.ref d,.ref ta,.int k,v]∧H d=some (.dT kvs)∧zbe H w kvs (allF w)∧WF 20 w∧H ta=some (.lst (zaA ts))∧ts.length+n≤1000∧zdA H n v p∧zbB (fdW w) n ts k p=true∧
 ∀ H',Same H H'→Q (.bl true) H'
noncomputable def sp_ns8 (K:PySem.W.Frag):Sp:=fun vs H Q _=>∃ (x v:V) (k:Int) (w:zas) (p:Pap),vs= [x,.int k,v]∧Rep K H x (zbA w)∧WF 20 w∧zdA H 8 v p∧∀ H',Same H H'→Q (.bl (zbB (fdW w) 8 [] k p)) H'
section
variable {P:Program} {w:World} {K:PySem.W.Frag} {mg:Str→Option Value} {base:Heap} {t:Adr}
theorem zbx:zaw ["kind","worths","ones","told","worth"] ["kind","worths","ones"] (zak zci):=⟨rfl,rfl,rfl,by decide+kernel,rfl,by decide+kernel,by decide+kernel⟩
theorem zgr (T:Txt K mg t):FnOk P w K mg base CX0 1 t.f_gate_worth t.fd_gate_worth ["kind","worths","ones"] (sp_gwI K):=by
 refine T.d_gate_worth.F.okB zbx (fun vs H Q E h=>?_) (fun cdv A outer s H vs Q E hr h=>?_)
 ·obtain ⟨x,p,ns,o,rfl,_⟩:=h
  rfl
 obtain ⟨x,p,ns,o,rfl,hS,lk,q⟩:=h
 refine ⟨_,(zad (zaP (zap zct (bpv 0) zau (zaB _)) (zag (zar (zan zi6 (bpv 2) (zao zaR (bpv 1) zae (fun _ _=>rfl))))) zax)
  (zad (zaP (zap zct (bpv 0) zau (zaB _)) (zag (zar (zan znV (zan zjw (zao zaR (bpv 1) zae (fun _ _=>rfl)) (zao zaR (bpv 1) zae (fun _ _=>rfl))) (zan zjw (zan zi6 (bpv 2) (zao zaR (bpv 1) zae (fun _ _=>rfl))) (zao zaR (bpv 1) zae (fun _ _=>rfl)))))) zax)
  (zad (zal (k:=3) zbx.nd rfl (Or.inl rfl) (zhE (zap zf0 (bpv 0) (za0 (zaa zau (zaa zau (zac)))) rfl) (bpv 2) zae))
  (zad (zaQ qH rfl (zaH (bpv 1)) (zaj (k:=4) zbx.nd rfl (Or.inl rfl)) (zag (zaP (zap zct (bpv 0) zau (zaB _)) (zag (zal (k:=3) zbx.nd rfl (Or.inl rfl) (zan zjw (bpv 3) (bpv 4)))) (zag (zaP (zap zct (bpv 0) zau (zaB _)) (zag (zal (k:=3) zbx.nd rfl (Or.inl rfl) (zan znV (bpv 3) (bpv 4)))) (zag (zal (k:=3) zbx.nd rfl (Or.inl rfl) (zan zi6 (bpv 3) (bpv 4)))))))))
  (zag (zar (bpv 3))))))),?_⟩
 by_cases hn:x="not"
 ·subst hn
  have l1:=zno lk
  refine ⟨_,rfl,rfl,_,rfl,ifY rfl ⟨_,rfl,_,rfl,p,_,0,_,rfl,rfl,hS,zbw (kI 0) (by omega),_,_,rfl,rfl,?_⟩⟩
  rw [gi_not] at q
  exact q H (.refl H)
 refine ⟨_,rfl,rfl,_,rfl,ifN hn ?_⟩
 by_cases hc:x="choose"
 ·subst hc
  have l1:=zil lk
  refine ⟨_,rfl,rfl,_,rfl,ifY rfl ?_⟩
  rw [zlx] at q
  exact ⟨_,rfl,p,_,0,_,rfl,rfl,hS,zbw (kI 0) (by omega),_,rfl,p,_,1,_,rfl,rfl,hS,zbw (by decide) (by omega),_,_,rfl,rfl,_,rfl,_,rfl,p,_,0,_,rfl,rfl,hS,zbw (kI 0) (by omega),_,_,rfl,rfl,
   _,rfl,p,_,2,_,rfl,rfl,hS,zbw (by decide) (by omega),_,_,rfl,rfl,_,_,rfl,rfl,q H (.refl H)⟩
 refine ⟨_,rfl,rfl,_,rfl,ifN hc ?_⟩
 rw [znK hn hc] at q
 refine ⟨_,rfl,(by show 2≤yK;decide),fun T1 h1=>⟨T1,_,rfl,.inr (.of zab),rfl,rfl,?_⟩⟩
 have s1:=zaf h1 (.tup [.str "and",.str "one"])
 refine ⟨_,rfl,?_⟩
 have hin:(if false=true then !inV (V.str x) [.str "and",.str "one"] else inV (V.str x) [.str "and",.str "one"])=decide (x="and"∨x="one"):=in_two x "and" "one"
 rw [hin]
 generalize hf:(fun a b:Int=>if x="and" then qT a b else if x="or" then qY a b else qO a b)=f at q
 have hf1:x="and"→∀ a b,f a b=qT a b:=fun e a b=>by rw [← hf];exact if_pos e
 have hf2:x≠"and"→x="or"→∀ a b,f a b=qY a b:=fun e e2 a b=>by rw [← hf];show (if x="and" then _ else _)=_;rw [if_neg e,if_pos e2]
 have hf3:x≠"and"→x≠"or"→∀ a b,f a b=qO a b:=fun e e2 a b=>by rw [← hf];show (if x="and" then _ else _)=_;rw [if_neg e,if_neg e2]
 refine ite2 (fun c=>?_) (fun c=>?_)
 ·rw [if_pos (of_decide_eq_true c)] at q
  refine ⟨_,rfl,?_⟩
  refine ⟨_,rfl,p,rfl,⟨_,s1.seq hS⟩,zce (K:=K) (a:=p) (xs:=ns.map V.int)
   (fun i σ H3=>∃ o4:Option V,σ = [some (.str x),some (.ref p),some (.int o),some (.int ((ns.take i).foldl f o)),o4]∧Same H H3) ⟨_,rfl,s1⟩ (fun i σ H3 _ ⟨_,_,s3⟩=>s3.seq hS) ?_ ?_⟩
  ·rintro i y σ H3 hy ⟨o4,rfl,s3⟩
   rw [yJ] at hy
   cases hz:ns[i]? with
   | none=>rw [hz] at hy;cases hy
   | some n=>
    rw [hz] at hy
    cases hy
    have ef:(ns.take (i+1)).foldl f o=f ((ns.take i).foldl f o) n:=by rw [yR,hz];show (ns.take i++ [n]).foldl f o=_;rw [yaf];rfl
    rw [ef]
    refine ⟨_,rfl,rfl,_,rfl,?_⟩
    by_cases e1:x="and"
    ·rw [hf1 e1]
     exact ifY e1 ⟨_,rfl,_,rfl,_,_,rfl,rfl,_,rfl,s3⟩
    ·refine ifN e1 ⟨_,rfl,rfl,_,rfl,?_⟩
     by_cases e2:x="or"
     ·rw [hf2 e1 e2]
      exact ifY e2 ⟨_,rfl,_,rfl,_,_,rfl,rfl,_,rfl,s3⟩
     ·rw [hf3 e1 e2]
      exact ifN e2 ⟨_,rfl,_,rfl,_,_,rfl,rfl,_,rfl,s3⟩
  ·rintro σ H3 ⟨o4,rfl,s3⟩
   have et:ns.take (ns.map V.int).length=ns:=by rw [yB,yV]
   rw [et]
   exact ⟨_,rfl,q H3 s3⟩
 ·rw [if_neg (fun z=>c (decide_eq_true z))] at q
  refine ⟨_,rfl,p,rfl,⟨_,s1.seq hS⟩,zce (K:=K) (a:=p) (xs:=ns.map V.int)
   (fun i σ H3=>∃ o4:Option V,σ = [some (.str x),some (.ref p),some (.int o),some (.int ((ns.take i).foldl f 0)),o4]∧Same H H3) ⟨_,rfl,s1⟩ (fun i σ H3 _ ⟨_,_,s3⟩=>s3.seq hS) ?_ ?_⟩
  ·rintro i y σ H3 hy ⟨o4,rfl,s3⟩
   rw [yJ] at hy
   cases hz:ns[i]? with
   | none=>rw [hz] at hy;cases hy
   | some n=>
    rw [hz] at hy
    cases hy
    have ef:(ns.take (i+1)).foldl f 0=f ((ns.take i).foldl f 0) n:=by rw [yR,hz];show (ns.take i++ [n]).foldl f 0=_;rw [yaf];rfl
    rw [ef]
    refine ⟨_,rfl,rfl,_,rfl,?_⟩
    by_cases e1:x="and"
    ·rw [hf1 e1]
     exact ifY e1 ⟨_,rfl,_,rfl,_,_,rfl,rfl,_,rfl,s3⟩
    ·refine ifN e1 ⟨_,rfl,rfl,_,rfl,?_⟩
     by_cases e2:x="or"
     ·rw [hf2 e1 e2]
      exact ifY e2 ⟨_,rfl,_,rfl,_,_,rfl,rfl,_,rfl,s3⟩
     ·rw [hf3 e1 e2]
      exact ifN e2 ⟨_,rfl,_,rfl,_,_,rfl,rfl,_,rfl,s3⟩
  ·rintro σ H3 ⟨o4,rfl,s3⟩
   have et:ns.take (ns.map V.int).length=ns:=by rw [yB,yV]
   rw [et]
   exact ⟨_,rfl,q H3 s3⟩
theorem zhX:zaw ["works","row"] ["works","row"] (zak zdf):=⟨rfl,rfl,rfl,by decide+kernel,rfl,by decide+kernel,by decide+kernel⟩
theorem zhC (T:Txt K mg t):FnOk P w K mg base CX0 1 t.f_check_row t.fd_check_row ["works","row"] (sp_cr K):=by
 refine T.d_check_row.F.okB zhX (fun vs H Q E h=>?_) (fun cdv A outer s H vs Q E hr h=>?_)
 ·obtain ⟨a,ga,oa,p,i,row,rfl,_⟩:=h
  rfl
 obtain ⟨a,ga,oa,p,i,row,rfl,ha,hS,hl,b,few,q⟩:=h
 refine ⟨_,(zad (zaP (zap zkZ (zat zaq rfl T.z_len qL (zaa (bpv 1) (zac))) (zao zay (bpv 0) zae (fun _ _=>rfl)) (zaB _)) (zag zf5) zax)
  (zag (zaP (zdG (zc1 (zat (zic rfl) rfl T.z_all yby (zaa (zaM rfl (N:=["worth"]) (n:=1) (cap:=[]) (za5 rfl rfl) (zaH (bpv 1)) (zaz (by decide)) (fun _ _ _ _=>(zaj (k:=0) (show (["worth"]:List Str).Nodup by decide+kernel) rfl (Or.inl rfl))) (fun _ _ _ _=>zaN) (fun _ _ _ _=>(zcs (zdU (K:=K)) (bpv 0) (za0 (zaa zae (zaa zae (zac)))) rfl))) (zac))))) (zag zf5) zax))),?_⟩
 have el:(((row.map V.int).length:Nat):Int)=i:=by rw [yB];exact hl
 refine ⟨_,rfl,p,_,rfl,.inl hS,_,rfl,a,_,_,_,rfl,rfl,ha,rfl,rfl,_,rfl,iteNS (congrArg V.int el) ?_⟩
 refine ⟨_,rfl,p,rfl,⟨_,hS⟩,fun D hD=>zaO (K:=K) (a:=p) (xs:=row.map V.int) (fun j H2=>Same H H2∧H2 D=some (.lst ((kK j true).map V.bl))) ⟨zaf hD _,zab⟩
  (fun j H2 _ z=>z.1.seq hS) ?_ ?_⟩
 ·rintro j x H2 hx ⟨s2,eD⟩
  obtain ⟨n,hn,rfl⟩:∃ n,n∈row∧x= .int n:=by
   obtain ⟨n,h1,h2⟩:=qE.mp (yH hx)
   exact ⟨n,h1,h2.symm⟩
  have hj:j < (row.map V.int).length:=(yE.mp hx).1
  rw [yB] at hj
  refine ⟨_,rfl,(by show 2≤yK;decide),fun T1 h1=>⟨T1,_,rfl,.inr (.of zab),rfl,rfl,?_⟩⟩
  have dT:D≠T1:=zai eD h1
  refine ⟨_,by rw [zah dT];exact eD,big (by simp;omega),(s2.upd h1 _).write hD _,?_⟩
  have e1:(if false=true then !inV (V.int n) [.int 0,.int 1] else inV (V.int n) [.int 0,.int 1])=true:=by
   rcases b n hn with e | e <;> (rw [e];decide)
  rw [zab,e1,List.replicate_succ',yN]
  rfl
 ·rintro H2 ⟨s2,eD⟩
  refine ⟨D,kK (row.map V.int).length true,rfl,.of eD,_,rfl,?_⟩
  have e2:(kK (row.map V.int).length true).all id=true:=by
   refine yZ.mpr fun z hz=>?_
   rw [(List.mem_replicate.mp hz).2]
   rfl
  rw [e2]
  exact iteF (q H2 s2)
theorem zcM:zaw ["works","rows","place"] ["works"] (zak zdq):=⟨rfl,rfl,rfl,by decide+kernel,rfl,by decide+kernel,by decide+kernel⟩
theorem zdC (T:Txt K mg t):FnOk P w K mg base CX0 1 t.f_every_row t.fd_every_row ["works"] (sp_er K):=by
 refine T.d_every_row.F.okB zcM (fun vs H Q E h=>?_) (fun cdv A outer s H vs Q E hr h=>?_)
 ·obtain ⟨a,ga,oa,i,rfl,_⟩:=h
  rfl
 obtain ⟨a,ga,oa,i,rfl,ha,i0,i6,q⟩:=h
 refine ⟨_,(zad (zal (k:=1) zcM.nd rfl (Or.inl rfl) (zav (zaa (zav zac) (zac))))
  (zad (zaQ qH rfl (zaZ rfl T.z_range (zaa (zao zay (bpv 0) zae (fun _ _=>rfl)) (zac))) (zaj (k:=2) zcM.nd rfl (Or.inl rfl)) (zag (zal (k:=1) zcM.nd rfl (Or.inl rfl) (zan zcY (zaM rfl (N:=["row"]) (n:=1) (cap:=[]) (za5 rfl rfl) (zaH (bpv 1)) (zaz (by decide)) (fun _ _ _ _=>(zaj (k:=0) (show (["row"]:List Str).Nodup by decide+kernel) rfl (Or.inl rfl))) (fun _ _ _ _=>zaN) (fun _ _ _ _=>(zan zcY (zav (zaa zae (zac))) (bpv 0)))) (zaM rfl (N:=["row"]) (n:=1) (cap:=[]) (za5 rfl rfl) (zaH (bpv 1)) (zaz (by decide)) (fun _ _ _ _=>(zaj (k:=0) (show (["row"]:List Str).Nodup by decide+kernel) rfl (Or.inl rfl))) (fun _ _ _ _=>zaN) (fun _ _ _ _=>(zan zcY (zav (zaa zae (zac))) (bpv 0))))))))
  (zag (zar (bpv 1))))),?_⟩
 refine ⟨(by show 0≤yK;decide),fun e0 he0=>⟨(by show 1≤yK;decide),fun R0 hR0=>?_⟩⟩
 have s0:Same H (upd H e0 (.lst [])):=zaf he0 _
 have start:Rows H R0 [e0] (zaT 0) (upd (upd H e0 (.lst [])) R0 (.lst [.ref e0])):=by
  have ne:e0≠R0:=zai zab hR0
  refine ⟨s0.upd hR0 _,s0.free hR0,zab,.cons (by rw [zah ne,zab];rfl) .nil,xA.mpr ⟨(fun z=>nomatch z),xN⟩,fun z hz=>?_⟩
  rw [yG.mp hz]
  exact ⟨he0,ne⟩
 refine ⟨_,rfl,a,_,_,_,rfl,rfl,start.same.seqT ha,rfl,_,rfl,by omega,by omega,zcA (fun j σ H3=>∃ (R:Addr) (qs:List Addr) (o2:Option V),σ = [some (.ref a),some (.ref R),o2]∧Rows H R qs (zaT j) H3) ⟨_,_,_,rfl,start⟩ ?_ ?_⟩
 ·rintro i σ H3 hi ⟨R,qs,o2,rfl,rw3⟩
  have few:(zaT i).length≤64:=ziT (by omega)
  have lq:=rw3.rows.len
  have comp:∀ (c:Int) (Ha:Hp) (D:Addr) (j:Nat) (x:V) (H4:Hp),Same H3 Ha→(qs.map V.ref)[j]? =some x→(∃ ps,Rows Ha D ps (((zaT i).take j).map (c:: ·)) H4)→∃ (q:Addr) (row:List Int) (ps:List Addr),x= .ref q∧H4 q=some (.lst (row.map V.int))∧row.length=i∧Rows Ha D ps (((zaT i).take j).map (c:: ·)) H4∧ps.length≤64∧(∀ (T r':Addr) (vs:List V),H4 T=none→(upd H4 T (.lst [.int c])) r'=none→vs= .int c::row.map V.int→Rows Ha D (ps++ [r']) (((zaT i).take (j+1)).map (c:: ·)) (upd (upd (upd H4 T (.lst [.int c])) r' (.lst vs)) D (.lst (ps.map V.ref++ [.ref r'])))):=by
   rintro c Ha D j x H4 sa hx ⟨ps,rw4⟩
   rw [yJ] at hx
   cases hz:qs[j]? with
   | none=>rw [hz] at hx;cases hx
   | some q=>
    rw [hz] at hx
    cases hx
    obtain ⟨row,hrow,hq⟩:=rw3.rows.get hz
    have lp:=rw4.rows.len
    refine ⟨q,row,ps,rfl,rw4.same _ _ (sa _ _ hq),(zcl i row (yH hrow)).1,rw4,?_,fun T r' vs hT hr' e=>?_⟩
    ·rw [lp,yB,yU]
     omega
    ·rw [zhk _ hrow]
     exact rw4.push hT hr' e
  refine ⟨_,rfl,R,rfl,⟨_,rw3.sq⟩,fun D hD=>zaO (K:=K) (a:=R) (xs:=qs.map V.ref) (fun j H4=>∃ ps,Rows H3 D ps (((zaT i).take j).map (0:: ·)) H4) ⟨[],Rows.start (Same.refl _) hD⟩ (fun j H4 _ ⟨ps,z⟩=>z.same.seq rw3.sq) ?_ ?_⟩
  ·intro j x H4 hx h4
   obtain ⟨q,row,ps,rfl,hq,lr,rw4,lp,push⟩:=comp 0 H3 D j x H4 (Same.refl _) hx h4
   refine ⟨(by show 1≤yK;decide),fun T hT=>⟨_,rfl,T,q,_,_,rfl,rfl,zab,by rw [zah (zai hq hT)];exact hq,bigE (by rw [qC,yB];omega),fun r' hr'=>?_⟩⟩
   have eD:(upd (upd H4 T (.lst [.int 0])) r' (.lst ([.int 0]++row.map V.int))) D=some (.lst (ps.map V.ref)):=(((zaf hT _).upd hr' _) _ _ rw4.at_)
   exact ⟨_,eD,big (by rw [yB];omega),_,push T r' _ hT hr' rfl⟩
  rintro H4 ⟨ps,rw4⟩
  have et:(zaT i).take (qs.map V.ref).length=zaT i:=by rw [yB,lq,yV]
  rw [et] at rw4
  refine ⟨_,rfl,R,rfl,⟨_,rw4.same.seq rw3.sq⟩,fun D2 hD2=>zaO (K:=K) (a:=R) (xs:=qs.map V.ref) (fun j H5=>∃ ps',Rows H4 D2 ps' (((zaT i).take j).map (1:: ·)) H5) ⟨[],Rows.start (Same.refl _) hD2⟩ (fun j H5 _ ⟨ps',z⟩=>(rw4.same.trans z.same).seq rw3.sq) ?_ ?_⟩
  ·intro j x H5 hx h5
   obtain ⟨q,row,ps',rfl,hq,lr,rw5,lp,push⟩:=comp 1 H4 D2 j x H5 rw4.same hx h5
   refine ⟨(by show 1≤yK;decide),fun T hT=>⟨_,rfl,T,q,_,_,rfl,rfl,zab,by rw [zah (zai hq hT)];exact hq,bigE (by rw [qC,yB];omega),fun r' hr'=>?_⟩⟩
   have eD:(upd (upd H5 T (.lst [.int 1])) r' (.lst ([.int 1]++row.map V.int))) D2=some (.lst (ps'.map V.ref)):=(((zaf hT _).upd hr' _) _ _ rw5.at_)
   exact ⟨_,eD,big (by rw [yB];omega),_,push T r' _ hT hr' rfl⟩
  rintro H5 ⟨ps',rw5⟩
  rw [et] at rw5
  have l1:=rw4.rows.len
  have l2:=rw5.rows.len
  rw [yB] at l1 l2
  refine ⟨D,D2,_,_,rfl,rfl,rw5.same _ _ rw4.at_,rw5.at_,bigE (by rw [yB,yB];omega),fun R' hR'=>?_⟩
  have c:=rw4.cat rw5 hR'
  exact ⟨R',ps++ps',_,rfl,⟨rw3.same.trans c.same,rw3.same.free c.out,c.at_,c.rows,c.nd,fun q hq=>⟨rw3.same.free (c.new q hq).1,(c.new q hq).2⟩⟩⟩
 ·rintro σ H3 ⟨R,qs,o2,rfl,rw3⟩
  exact ⟨_,rfl,q R qs H3 rw3⟩
theorem zhp:zaw ["stuck","gate","worths"] ["stuck","gate","worths"] (zak zcT):=⟨rfl,rfl,rfl,by decide+kernel,rfl,by decide+kernel,by decide+kernel⟩
theorem zg3 (T:Txt K mg t):FnOk P w K mg base CX0 1 t.f_leg_worths t.fd_leg_worths ["stuck","gate","worths"] (sp_lgw K):=by
 refine T.d_leg_worths.F.okB zhp (fun vs H Q E h=>?_) (fun cdv A outer s H vs Q E hr h=>?_)
 ·obtain ⟨d,p,k,fs,ns,rfl,_⟩:=h
  rfl
 obtain ⟨d,p,k,fs,ns,rfl,hd,hS,l4,q⟩:=h
 have hu1:=zgo hr
 refine ⟨_,(zag (zar (zaM rfl (N:=["leg","worth","stuck","gate"]) (n:=2) (cap:=[0,1]) (za5 rfl rfl) (zeo rfl T.z_enumerate (zaa (bpv 2) (zac))) (zet (by decide) (by decide)) (fun _ _ _ _=>(zfs (K:=K) (n:=2) rfl (zaD (zaj (k:=0) (show (["leg","worth","stuck","gate"]:List Str).Nodup by decide+kernel) rfl (Or.inl rfl)) (zaD (zaj (k:=1) (show (["leg","worth","stuck","gate"]:List Str).Nodup by decide+kernel) rfl (Or.inl rfl)) zbI)))) (fun _ _ _ _=>zaN) (fun _ _ _ _=>(zeu hu1 (bpv 2) (za0 (zaa zau (zaa (bpv 3) (zaa (bpv 0) (zac))))) (bpv 1) ⟨rfl,rfl,rfl,rfl⟩))))),?_⟩
 refine ⟨_,rfl,p,rfl,⟨_,hS⟩,fun D hD=>zfv (K:=K) (a:=p) (xs:=ns.map V.int) (fun j H2=>Same H H2∧H2 D=some (.lst ((zb0 fs k (ns.take j)).map V.int))) ⟨zaf hD _,zab⟩ (fun j H2 _ z=>z.1.seq hS) ?_ ?_⟩
 ·rintro j y H2 T1 hy ⟨s2,eD⟩ h1
  rw [yJ] at hy
  cases hz:ns[j]? with
  | none=>rw [hz] at hy;cases hy
  | some n=>
   rw [hz] at hy
   cases hy
   have lj:j < ns.length:=(yE.mp hz).1
   have s3:=s2.upd h1 (.tup [.int j,.int n])
   refine ⟨T1,_,rfl,.of zab,rfl,_,_,rfl,_,_,rfl,rfl,?_⟩
   refine ⟨_,rfl,d,rfl,.inr ⟨_,.inl (s3 _ _ hd)⟩,_,rfl,_,rfl,(by show 3≤yK;decide),fun T2 h2=>?_⟩
   have s4:=s3.upd h2 (.tup [.str "leg",.int k,.int j])
   refine ⟨_,rfl,_,DGet.t (k:=legK k j) (s4 _ _ hd) zab,?_⟩
   have eD4:=((zaf h1 (.tup [.int j,.int n])).upd h2 (.tup [.str "leg",.int k,.int j])) _ _ eD
   refine ⟨_,eD4,big (by rw [yB,zdK,yU];omega),s4.write hD _,?_⟩
   have lt:(ns.take j).length=j:=by rw [yU];omega
   rw [zab,yR,hz]
   show _=some (HO.lst ((zb0 fs k (ns.take j++ [n])).map V.int))
   rw [zki,yN,lt,zg8]
   rfl
 ·rintro H2 ⟨s2,eD⟩
  have et:ns.take (ns.map V.int).length=ns:=by rw [yB,yV]
  rw [et] at eD
  exact q D H2 s2 hD eD
theorem zbr:zaw ["works","stuck","row","ones","worths","gate","body","read","worth"] ["works","stuck","row","ones"] (zak zbX):=⟨rfl,rfl,rfl,by decide+kernel,rfl,by decide+kernel,by decide+kernel⟩
theorem zfz (T:Txt K mg t):FnOk P w K mg base CX0 2 t.f_worths_with t.fd_worths_with ["works","stuck","row","ones"] (sp_wwG K):=by
 refine T.d_worths_with.F.okB zbr (fun vs H Q E h=>?_) (fun cdv A outer s H vs Q E hr h=>?_)
 ·obtain ⟨x,d,p,w,fs,row,o,rfl,_⟩:=h
  rfl
 obtain ⟨x,d,p,w,fs,row,o,rfl,hx,wf,hd,hS,hl,q⟩:=h
 obtain ⟨a,ga,oa,gs,os,rfl,ha,hg,ho,rg,ro⟩:=zbz hx
 have hu1:=zgo hr
 have lg:gs.length=w.gates.length:=by rw [rg.length,yB]
 have i1:=wf.i1
 have i6:=wf.i6
 have few:=wf.few
 refine ⟨_,(zad (zal (k:=4) zbr.nd rfl (Or.inr rfl) (zaM rfl (N:=["wire","worth","stuck"]) (n:=2) (cap:=[1]) (za5 rfl rfl) (zeo rfl T.z_enumerate (zaa (bpv 2) (zac))) (zet (by decide) (by decide)) (fun _ _ _ _=>(zfs (K:=K) (n:=2) rfl (zaD (zaj (k:=0) (show (["wire","worth","stuck"]:List Str).Nodup by decide+kernel) rfl (Or.inl rfl)) (zaD (zaj (k:=1) (show (["wire","worth","stuck"]:List Str).Nodup by decide+kernel) rfl (Or.inl rfl)) zbI)))) (fun _ _ _ _=>zaN) (fun _ _ _ _=>(zeu hu1 (bpv 2) (za0 (zaa zau (zaa (bpv 0) (zac)))) (bpv 1) ⟨rfl,rfl,rfl,rfl⟩))))
  (zad (zaQ qH rfl (zeo rfl T.z_enumerate (zaa (zao zay (bpv 0) zae (fun _ _=>rfl)) (zac))) (zdz rfl (zaD (zaj (k:=5) zbr.nd rfl (Or.inl rfl)) (zaD (zaj (k:=6) zbr.nd rfl (Or.inl rfl)) zbI))) (zad (zal (k:=7) zbr.nd rfl (Or.inl rfl) (zam (zg3 T) (hr.mono (by decide)) rfl T.d_leg_worths.m T.d_leg_worths.F.kp T.d_leg_worths.b .nil zaK (zaa (bpv 1) (zaa (bpv 5) (zaa (zaM rfl (N:=["leg","worths"]) (n:=1) (cap:=[4]) (za5 rfl rfl) (zin (zao zay (bpv 6) zae (fun _ _=>rfl))) (zaz (by decide)) (fun _ _ _ _=>(zaj (k:=0) (show (["leg","worths"]:List Str).Nodup by decide+kernel) rfl (Or.inl rfl))) (fun _ _ _ _=>zaN) (fun _ _ _ _=>(zao (zcU (K:=K)) (bpv 1) (bpv 0) (fun _ _=>rfl)))) (zac))))))
  (zad (zal (k:=8) zbr.nd rfl (Or.inl rfl) (zam (zgr T) (hr.mono (by decide)) rfl T.d_gate_worth.m T.d_gate_worth.F.kp T.d_gate_worth.b .nil zaK (zaa (zao zay (bpv 6) zae (fun _ _=>rfl)) (zaa (bpv 7) (zaa (bpv 3) (zac))))))
  (zag (zbm (zds qS jC jD zbv (bpv 4) (zaa (zeu hu1 (bpv 1) (za0 (zaa zau (zaa (zan zbM (zao zay (bpv 0) zae (fun _ _=>rfl)) (bpv 5)) (zac)))) (bpv 8) ⟨rfl,rfl,rfl,rfl⟩) (zac))))))))
  (zag (zar (bpv 4))))),?_⟩
 refine ⟨_,rfl,p,rfl,⟨_,hS⟩,fun r hr1=>zfv (K:=K) (a:=p) (xs:=row.map V.int) (fun j H2=>Same H H2∧H2 r=some (.lst ((rowS fs (row.take j)).map V.int))) ⟨zaf hr1 _,zab⟩ (fun j H2 _ z=>z.1.seq hS) ?_ ?_⟩
 ·rintro j y H2 T1 hy ⟨s2,eD⟩ h1
  rw [yJ] at hy
  cases hz:row[j]? with
  | none=>rw [hz] at hy;cases hy
  | some n=>
   rw [hz] at hy
   cases hy
   have lj:j < row.length:=(yE.mp hz).1
   have s3:=s2.upd h1 (.tup [.int j,.int n])
   refine ⟨T1,_,rfl,.of zab,rfl,_,_,rfl,_,_,rfl,rfl,?_⟩
   refine ⟨_,rfl,d,rfl,.inr ⟨_,.inl (s3 _ _ hd)⟩,_,rfl,(by show 2≤yK;decide),fun T2 h2=>?_⟩
   have s4:=s3.upd h2 (.tup [.str "wire",.int j])
   refine ⟨_,rfl,_,DGet.t (k:=zbn j) (s4 _ _ hd) zab,?_⟩
   have eD4:=((zaf h1 (.tup [.int j,.int n])).upd h2 (.tup [.str "wire",.int j])) _ _ eD
   refine ⟨_,eD4,big (by rw [yB,zgT,yU];omega),s4.write hr1 _,?_⟩
   have lt:(row.take j).length=j:=by rw [yU];omega
   rw [zab,yR,hz]
   show _=some (HO.lst ((rowS fs (row.take j++ [n])).map V.int))
   rw [zkS,yN,lt,zg8]
   rfl
 rintro H1 ⟨s1,e1⟩
 have et:row.take (row.map V.int).length=row:=by rw [yB,yV]
 rw [et] at e1
 refine ⟨_,rfl,a,_,_,_,rfl,rfl,s1.seqT ha,rfl,ga,rfl,⟨_,s1.seq hg⟩,zi7 (K:=K) (a:=ga) (xs:=gs)
  (fun i σ H3=>∃ (o4 o5 o6 o7:Option V),σ = [some (.ref a),some (.ref d),some (.ref p),some (.int o),some (.ref r),o4,o5,o6,o7]∧Same H H3∧H3 r=some (.lst ((zck o fs w.gates row i).map V.int)))
  ⟨_,_,_,_,rfl,s1,e1⟩ (fun i σ H3 _ ⟨_,_,_,_,_,s3,_⟩=>s3.seq hg) ?_ ?_⟩
 ·rintro i x σ H3 T1 hx ⟨o4,o5,o6,o7,rfl,s3,e3⟩ h1
  have hi:i < gs.length:=(yE.mp hx).1
  obtain ⟨g,hgk⟩:∃ g,w.gates[i]? =some g:=⟨_,yF (by omega)⟩
  obtain ⟨dd,hdd,rv⟩:=rg.get hx
  rw [yJ,hgk] at hdd
  cases hdd
  obtain ⟨a1,la,rfl,hA,hL⟩:=zhc rv
  obtain ⟨lk,lb⟩:=wf.legs i g hgk
  have lw:=ze5 o fs w.gates row i
  have l4:=lk.le
  refine ⟨T1,_,rfl,.of zab,rfl,_,_,rfl,_,_,rfl,rfl,?_⟩
  have k1:=zaf h1 (.tup [.int i,.ref a1])
  have s4:=s3.trans k1
  have e4:=k1 _ _ e3
  generalize upd H3 T1 (.tup [.int i,.ref a1])=H4 at k1 s4 e4
  refine ⟨_,rfl,_,rfl,_,rfl,a1,_,_,_,rfl,rfl,s4.seqT hA,rfl,la,rfl,⟨_,s4.seqT hL⟩,fun D hD=>zjs (K:=K) (a:=la) (xs:=g.2.map V.int)
   (fun j H5=>Same H4 H5∧H5 D=some (.lst (((g.2.take j).map fun l=>(zck o fs w.gates row i).getD l.toNat 0).map V.int))) ⟨zaf hD _,zab⟩ (fun j H5 _ z=>(s4.trans z.1).seqT hL) ?_ ?_⟩
  ·rintro j y H5 hy ⟨s5,eD⟩
   rw [yJ] at hy
   cases hz:g.2[j]? with
   | none=>rw [hz] at hy;cases hy
   | some l=>
    rw [hz] at hy
    cases hy
    have lj:j < g.2.length:=(yE.mp hz).1
    have bl:=lb l (yH hz)
    refine ⟨_,rfl,_,rfl,r,_,_,_,rfl,rfl,.of (s5 _ _ e4),zbw bl.1 (by rw [lw];omega),?_⟩
    refine ⟨_,eD,big (by simp;omega),s5.write hD _,?_⟩
    rw [zab,yR,hz]
    simp
  rintro H5 ⟨s5,eD⟩
  have et:g.2.take (g.2.map V.int).length=g.2:=by rw [yB,yV]
  rw [et] at eD
  have s45:=s4.trans s5
  refine ⟨d,D,_,fs,g.2.map fun l=>(zck o fs w.gates row i).getD l.toNat 0,rfl,s45 _ _ hd,.of eD,by rw [yB];exact l4,fun R H6 s6 nR eR=>?_⟩
  have s46:=s45.trans s6
  refine ⟨_,rfl,a1,_,_,_,rfl,rfl,s46.seqT hA,rfl,_,rfl,_,rfl,g.1,R,_,o,rfl,.of eR,by rw [zdK,yB];exact lk,fun H7 s7=>?_⟩
  replace s46:=s46.trans s7
  have e6:=((s5.trans s6).trans s7) _ _ e4
  refine ⟨_,rfl,.inl ⟨rfl,_,.of e6⟩,_,rfl,d,rfl,.inr ⟨_,.inl (s46 _ _ hd)⟩,_,rfl,a,_,_,_,rfl,rfl,s46.seqT ha,rfl,_,rfl,_,_,rfl,rfl,(by show 2≤yK;decide),fun T2 h2=>?_⟩
  have rT:r≠T2:=zai e6 h2
  have ei:w.ins+(i:Int)=((row.length+i:Nat):Int):=by omega
  refine ⟨_,rfl,_,DGet.t (k:=zbn ((row.length+i:Nat):Int)) ((s46.upd h2 _) _ _ hd) (by rw [zab];show some (HO.tup [V.str "wire",V.int (w.ins+(i:Int))])=_;rw [ei];rfl),?_⟩
  refine ⟨r,_,_,rfl,rfl,by rw [zah rT];exact e6,big (by rw [yB,lw];omega),_,_,_,_,rfl,(s46.upd h2 _).write hr1 _,?_⟩
  rw [zab,zck,hgk,yN,zg8]
  rfl
 ·rintro σ H3 ⟨o4,o5,o6,o7,rfl,s3,e3⟩
  rw [lg] at e3
  exact ⟨_,rfl,q r H3 s3 hr1 e3⟩
theorem zdI:zaw ["works","stuck","row","ones","worths"] ["works","stuck","row","ones"] (zak zbC):=⟨rfl,rfl,rfl,by decide+kernel,rfl,by decide+kernel,by decide+kernel⟩
theorem zfj (T:Txt K mg t):FnOk P w K mg base CX0 3 t.f_outputs_with t.fd_outputs_with ["works","stuck","row","ones"] (sp_owG K):=by
 refine T.d_outputs_with.F.okB zdI (fun vs H Q E h=>?_) (fun cdv A outer s H vs Q E hr h=>?_)
 ·obtain ⟨x,d,p,w,fs,row,o,rfl,_⟩:=h
  rfl
 obtain ⟨x,d,p,w,fs,row,o,rfl,hx,wf,hd,hS,hl,q⟩:=h
 refine ⟨_,(zad (zal (k:=4) zdI.nd rfl (Or.inr rfl) (zam (zfz T) (hr.mono (by decide)) rfl T.d_worths_with.m T.d_worths_with.F.kp T.d_worths_with.b .nil zaK (zaa (bpv 0) (zaa (bpv 1) (zaa (bpv 2) (zaa (bpv 3) (zac)))))))
  (zag (zar (zaM rfl (N:=["wire","worths"]) (n:=1) (cap:=[4]) (za5 rfl rfl) (zaH (zao zay (bpv 0) zae (fun _ _=>rfl))) (zaz (by decide)) (fun _ _ _ _=>(zaj (k:=0) (show (["wire","worths"]:List Str).Nodup by decide+kernel) rfl (Or.inl rfl))) (fun _ _ _ _=>zaN) (fun _ _ _ _=>(zao (zcU (K:=K)) (bpv 1) (bpv 0) (fun _ _=>rfl))))))),?_⟩
 refine ⟨_,rfl,_,rfl,_,rfl,_,rfl,x,d,p,w,fs,row,o,rfl,hx,wf,hd,hS,hl,fun r H1 s1 n1 e1=>?_⟩
 obtain ⟨a,ga,oa,gs,os,rfl,ha,hg,ho,rg,ro⟩:=zbz (hx.mono s1)
 have eo:=zeJ ro
 subst eo
 have lw:=ze5 o fs w.gates row w.gates.length
 have o3:=wf.o3
 refine ⟨_,rfl,a,_,_,_,rfl,rfl,ha,rfl,oa,rfl,⟨_,ho⟩,fun D hD=>zaO (K:=K) (a:=oa) (xs:=w.outs.map V.int)
   (fun j H4=>Same H1 H4∧H4 D=some (.lst (((w.outs.take j).map fun u=>(zck o fs w.gates row w.gates.length).getD u.toNat 0).map V.int))) ⟨zaf hD _,zab⟩ (fun j H4 _ z=>z.1.seq ho) ?_ ?_⟩
 ·rintro j y H4 hy ⟨s4,eD⟩
  rw [yJ] at hy
  cases hz:w.outs[j]? with
  | none=>rw [hz] at hy;cases hy
  | some ou=>
   rw [hz] at hy
   cases hy
   have lj:j < w.outs.length:=(yE.mp hz).1
   have bo:=wf.outs ou (yH hz)
   refine ⟨_,rfl,_,rfl,r,_,_,_,rfl,rfl,.of (s4 _ _ e1),zbw bo.1 (by rw [lw];omega),?_⟩
   refine ⟨_,eD,big (by simp;omega),s4.write hD _,?_⟩
   rw [zab,yR,hz]
   simp
 ·rintro H4 ⟨s4,eD⟩
  have et:w.outs.take (w.outs.map V.int).length=w.outs:=by rw [yB,yV]
  rw [et] at eD
  exact q D H4 (s1.trans s4) (s1.free hD) eD
theorem zgw:zaw ["script","k"] ["script","k"] (zak zcr):=⟨rfl,rfl,rfl,by decide+kernel,rfl,by decide+kernel,by decide+kernel⟩
theorem zb5 (T:Txt K mg t):FnOk P w K mg base CX0 1 t.f_law_cell_at t.fd_law_cell_at ["script","k"] (sp_ca K):=by
 refine T.d_law_cell_at.F.okB zgw (fun vs H Q E h=>?_) (fun cdv A outer s H vs Q E hr h=>?_)
 ·obtain ⟨a,ns,k,rfl,_⟩:=h
  rfl
 obtain ⟨a,ns,k,rfl,hS,q⟩:=h
 refine ⟨_,(zad (zaP (zap zlo (bpv 1) (zat zaq rfl T.z_len qL (zaa (bpv 0) (zac))) (zaB _)) (zag (zar (zao zaR (bpv 0) (bpv 1) (fun _ _=>rfl)))) zax)
  (zag (zar zae))),?_⟩
 refine ⟨_,rfl,_,rfl,a,_,rfl,.inl hS,_,_,rfl,rfl,_,rfl,ite2 (fun c=>?_) (fun c=>q _)⟩
 have c':=of_decide_eq_true c
 rw [yB] at c'
 exact ⟨_,rfl,_,rfl,a,_,_,_,rfl,rfl,hS,zbw (by omega) (by omega),q _⟩
theorem za2:zaw ["inputs","worths","ones","place","behind"] ["inputs"] (zak zb6):=⟨rfl,rfl,rfl,by decide+kernel,rfl,by decide+kernel,by decide+kernel⟩
theorem zfN (T:Txt K mg t):FnOk P w K mg base CX0 1 t.f_rows_at_once t.fd_rows_at_once ["inputs"] sp_rao:=by
 refine T.d_rows_at_once.F.okB za2 (fun vs H Q E h=>?_) (fun cdv A outer s H vs Q E hr h=>?_)
 ·obtain ⟨n,rfl,_⟩:=h
  rfl
 obtain ⟨n,rfl,n6,q⟩:=h
 refine ⟨_,(zad (zal (k:=1) za2.nd rfl (Or.inl rfl) (zav zac))
  (zad (zal (k:=2) za2.nd rfl (Or.inl rfl) zae)
  (zad (zaQ qH rfl (zaZ rfl T.z_range (zaa (bpv 0) (zac))) (zaj (k:=3) za2.nd rfl (Or.inl rfl)) (zad (zal (k:=4) za2.nd rfl (Or.inr rfl) (zan zbM (bpv 2) zae))
  (zad (zal (k:=1) za2.nd rfl (Or.inl rfl) (zan zcY (zav (zaa (zan zgj (bpv 2) (bpv 4)) (zac))) (zaM rfl (N:=["worth","behind"]) (n:=1) (cap:=[4]) (za5 rfl rfl) (zaH (bpv 1)) (zaz (by decide)) (fun _ _ _ _=>(zaj (k:=0) (show (["worth","behind"]:List Str).Nodup by decide+kernel) rfl (Or.inl rfl))) (fun _ _ _ _=>zaN) (fun _ _ _ _=>(zan zbM (bpv 0) (zan zgj (bpv 0) (bpv 1)))))))
  (zag (zal (k:=2) za2.nd rfl (Or.inl rfl) (zan zbM (bpv 2) (zan zgj (bpv 2) (bpv 4))))))))
  (zag (zar (za0 (zaa (bpv 1) (zaa (bpv 2) (zac))))))))),?_⟩
 refine ⟨(by show 0≤yK;decide),fun L0 hL0=>?_⟩
 refine ⟨_,rfl,_,rfl,by omega,by omega,?_⟩
 refine zcA (fun i σ H3=>∃ (L:Addr) (o3 o4:Option V),σ = [some (.int n),some (.ref L),some (.int (zaX (2 ^ i))),o3,o4]∧Same H H3∧H L=none∧H3 L=some (.lst ((zdl i).map V.int)))
  ⟨L0,_,_,rfl,zaf hL0 _,hL0,zab⟩ ?_ ?_
 ·rintro i σ H3 hi ⟨L,o3,o4,rfl,s3,nL,eL⟩
  have hi6:i < 6:=by omega
  have h64:=pow6 (n:=i) (by omega)
  obtain ⟨c1,c2,c3⟩:=zeO i
  have bo:=zja (zcz (2 ^ i)) h64
  have bb:qK (zaX (2 ^ i)+1)≤2 ^ 20:=by
   rw [zer]
   have hq: 2 ^ 2 ^ i≤2 ^ 64:=xX (by decide) h64
   generalize 2 ^ 2 ^ i=q2 at hq
   exact zhf (k:=65) (by decide) (by omega) (by omega)
  refine ⟨_,rfl,_,_,rfl,rfl,?_⟩
  refine ⟨_,rfl,_,rfl,_,_,rfl,rfl,⟨bo,bb⟩,(by show 1≤yK;decide),fun A1 hA1=>?_⟩
  have k1:=zaf hA1 (.lst [.int (zaX (2 ^ i) * (zaX (2 ^ i)+1))])
  refine ⟨_,rfl,L,rfl,⟨_,.of (k1 _ _ eL)⟩,fun D hD=>zaO (K:=K) (a:=L) (xs:=(zdl i).map V.int) (fun j H4=>Same (upd H3 A1 (.lst [.int (zaX (2 ^ i) * (zaX (2 ^ i)+1))])) H4∧H4 D=some (.lst ((((zdl i).take j).map fun v=>v+v * (zaX (2 ^ i)+1)).map V.int))) ⟨zaf hD _,zab⟩ (fun j H4 _ z=>.of (z.1 _ _ (k1 _ _ eL))) ?_ ?_⟩
  ·rintro j y H4 hy ⟨s4,eD⟩
   rw [yJ] at hy
   cases hz:(zdl i)[j]? with
   | none=>rw [hz] at hy;cases hy
   | some v=>
    rw [hz] at hy
    cases hy
    have lj:j < (zdl i).length:=(yE.mp hz).1
    refine ⟨_,rfl,_,rfl,_,rfl,_,_,rfl,rfl,⟨zja (c1 v (yH hz)) h64,bb⟩,_,_,rfl,rfl,?_⟩
    refine ⟨_,eD,big (by simp;omega),s4.write hD _,?_⟩
    rw [zab,yR,hz,yN,yN]
    rfl
  rintro H4 ⟨s4,eD⟩
  rw [yB,yV] at eD
  refine ⟨A1,D,_,_,rfl,rfl,s4 _ _ zab,eD,bigE (by simp;omega),fun A2 hA2=>?_⟩
  have k2:=zaf hA2 (.lst ([.int (zaX (2 ^ i) * (zaX (2 ^ i)+1))]++((zdl i).map fun v=>v+v * (zaX (2 ^ i)+1)).map V.int))
  have s34:=k1.trans s4
  refine ⟨_,rfl,_,rfl,_,rfl,_,_,rfl,rfl,⟨bo,bb⟩,_,_,rfl,rfl,A2,some (.int (0+(i:Int))),some (.int (zaX (2 ^ i)+1)),?_,(s3.trans s34).trans k2,(s3.trans s34).free hA2,zab⟩
  show [_,_,some (V.int (zaX (2 ^ i)+zaX (2 ^ i) * (zaX (2 ^ i)+1))),_,_]=_
  rw [zlQ]
 ·rintro σ H3 ⟨L,o3,o4,rfl,s3,nL,eL⟩
  have en:((n:Int)).toNat=n:=by omega
  rw [en] at eL
  refine ⟨_,rfl,_,rfl,(by show 2≤yK;decide),fun r hr'=>q r L _ (s3.upd hr' _) (s3.free hr') nL ?_ (zaf hr' _ _ _ eL)⟩
  rw [zab,en]
theorem zbc:zaw ["seen","others","unlike","worth","other"] ["seen","others"] (zak zbF):=⟨rfl,rfl,rfl,by decide+kernel,rfl,by decide+kernel,by decide+kernel⟩
theorem ze8 (T:Txt K mg t):FnOk P w K mg base CX0 1 t.f_unlike_numbers t.fd_unlike_numbers ["seen","others"] sp_un:=by
 refine T.d_unlike_numbers.F.okB zbc (fun vs H Q E h=>?_) (fun cdv A outer s H vs Q E hr h=>?_)
 ·obtain ⟨a,b,xs,ys,R,rfl,_⟩:=h
  rfl
 obtain ⟨a,b,xs,ys,R,rfl,ha,hb,hl,l1,h64,bx,by',q⟩:=h
 refine ⟨_,(zad (zal (k:=2) zbc.nd rfl (Or.inr rfl) zae)
  (zad (zaQ qH rfl (zim rfl T.z_zip (zaa (bpv 0) (zaa (bpv 1) (zac)))) (zdz rfl (zaD (zaj (k:=3) zbc.nd rfl (Or.inl rfl)) (zaD (zaj (k:=4) zbc.nd rfl (Or.inl rfl)) zbI))) (zag (zal (k:=2) zbc.nd rfl (Or.inr rfl) (zan znV (bpv 2) (zan zi6 (bpv 3) (bpv 4))))))
  (zag (zar (zaM rfl (N:=["number","unlike"]) (n:=1) (cap:=[2]) (za5 rfl rfl) (zaZ rfl T.z_range (zaa (zkp PySem.F.plainAttrs_int PyProof.Rows.slot_int_bit_length PyProof.Rows.type_int_bit_length zlj (bpv 2)) (zac))) (zaz (by decide)) (fun _ _ _ _=>(zaj (k:=0) (show (["number","unlike"]:List Str).Nodup by decide+kernel) rfl (Or.inl rfl))) (fun _ _ _ _=>(zc0 (zap zct (zan zjw (zan op_shr (bpv 1) (bpv 0)) zae) zae (zaB _)))) (fun _ _ _ _=>(bpv 0))))))),?_⟩
 refine ⟨_,rfl,_,rfl,a,b,_,_,rfl,ha,hb,ziD (a:=a) (b:=b) (xs:=xs.map V.int) (ys:=ys.map V.int) (by simp [hl])
  (fun i σ H3=>∃ (o3 o4:Option V),σ = [some (.ref a),some (.ref b),some (.int (((xs.take i).zip (ys.take i)).foldl (fun u p=>qY u (qO p.1 p.2)) 0)),o3,o4]∧Same H H3)
  ⟨_,_,rfl,Same.refl _⟩ (fun i σ H3 _ ⟨_,_,_,s3⟩=>⟨s3 _ _ ha,s3 _ _ hb⟩) ?_ ?_⟩
 ·rintro i x y σ H3 T1 hx hy ⟨o3,o4,rfl,s3⟩ h1
  rw [yJ] at hx hy
  cases hzx:xs[i]? with
  | none=>rw [hzx] at hx;cases hx
  | some u=>
   cases hzy:ys[i]? with
   | none=>rw [hzy] at hy;cases hy
   | some v=>
    rw [hzx] at hx
    rw [hzy] at hy
    cases hx
    cases hy
    refine ⟨T1,_,rfl,.of zab,rfl,_,_,rfl,_,_,rfl,rfl,?_⟩
    refine ⟨_,rfl,_,rfl,_,rfl,_,_,rfl,rfl,_,_,rfl,rfl,some (.int u),some (.int v),?_,s3.upd h1 _⟩
    have li:i < xs.length:=(yE.mp hzx).1
    have e:(xs.take (i+1)).zip (ys.take (i+1))=(xs.take i).zip (ys.take i)++ [(u,v)]:=by
     rw [yR,yR,hzx,hzy]
     show (xs.take i++ [u]).zip (ys.take i++ [v])=_
     rw [List.zip_append (by rw [yU,yU];omega)]
     rfl
    rw [e,yaf]
    rfl
 ·rintro σ H3 ⟨o3,o4,rfl,s3⟩
  have e1:xs.take (xs.map V.int).length=xs:=by rw [yB,yV]
  have e2:ys.take (xs.map V.int).length=ys:=by rw [yB,hl,yV]
  obtain ⟨u1,u2⟩:=zei (R:=R) xs ys hl bx by' (zc7 R)
  obtain ⟨un,eun⟩:∃ un,zcH xs ys=un:=⟨_,rfl⟩
  have b0:za3 R un:=by rw [← eun];exact u1
  have few:qK un≤2 ^ 20:=zja b0 h64
  rw [e1,e2]
  refine ⟨_,rfl,rfl,_,rfl,rfl,_,rfl,?_,?_,fun D hD=>?_⟩
  ·omega
  ·show ((qK (zcH xs ys):Nat):Int) < 2 ^ 62
   rw [eun]
   omega
  have ll:((qK (zcH xs ys):Nat):Int).toNat=qK un:=by rw [eun];omega
  show zc2 (Itr 0 ((qK (zcH xs ys):Nat):Int).toNat) _ _ _ _ _ _ _ _ _
  rw [ll]
  refine zc5 (fun j H4=>Same H3 H4∧H4 D=some (.lst (((qI j).filter fun k=>decide (bitI k un=1)).map fun k:Nat=>V.int (k:Int)))) ⟨zaf hD _,zab⟩ ?_ ?_
  ·rintro j H4 hj ⟨s4,eD⟩
   rw [vY]
   have sb:=znO (R:=R) b0 j
   rw [← eun] at sb
   have small:(((qI j).filter fun k=>decide (bitI k un=1)).map fun k:Nat=>V.int (k:Int)).length≤2000000:=by
    rw [yB]
    have:=qU (fun k=>decide (bitI k un=1)) (qI j)
    rw [xH] at this
    omega
   refine ⟨_,rfl,_,rfl,_,_,rfl,rfl,wR j,_,_,rfl,rfl,rfl,_,rfl,ite2 (fun c=>⟨_,rfl,_,eD,?_,s4.write hD _,?_⟩) (fun c=>⟨s4,?_⟩)⟩
   ·have:yK=16777216:=by decide
    omega
   ·rw [zab,xS,qP,yN]
    have e:decide (bitI j un=1)=true:=by rw [← eun];exact decide_eq_true (sb.mp (of_decide_eq_true c))
    simp [e]
   ·rw [eD,xS,qP,yN]
    have e:decide (bitI j un=1)=false:=by rw [← eun];exact decide_eq_false fun z=>c (decide_eq_true (sb.mpr z))
    simp [e]
  ·rintro H4 ⟨s4,eD⟩
   refine q D H4 (s3.trans s4) (s3.free hD) ?_
   rw [eD,eun]
   rfl
theorem zbQ:zaw ["works","stuck","rows","ones","stuck_at_once"] ["works","stuck"] (zak zcg):=⟨rfl,rfl,rfl,by decide+kernel,rfl,by decide+kernel,by decide+kernel⟩
theorem zfi (T:Txt K mg t):FnOk P w K mg base CX0 4 t.f_outputs_seen t.fd_outputs_seen ["works","stuck"] (sp_osR K):=by
 refine T.d_outputs_seen.F.okB zbQ (fun vs H Q E h=>?_) (fun cdv A outer s H vs Q E hr h=>?_)
 ·obtain ⟨x,d,w,fs,G,rfl,_⟩:=h
  rfl
 obtain ⟨x,d,w,fs,G,rfl,off,hx,wf,hd,fb,ap,lf,q⟩:=h
 have hu64:=hr.units
 obtain ⟨a,ga,oa,gs,os,rfl,ha,hg,ho,rg,ro⟩:=zbz hx
 have i1:=wf.i1
 have i6:=wf.i6
 obtain ⟨n,en⟩:∃ n,w.ins.toNat=n:=⟨_,rfl⟩
 have n6:n≤6:=by omega
 have h64:=pow6 n6
 have c:=zeO n
 refine ⟨_,(zad (zal (k:=2) zbQ.nd rfl (Or.inl rfl) (zam (zfN T) (hr.mono (by decide)) rfl T.d_rows_at_once.m T.d_rows_at_once.F.kp T.d_rows_at_once.b .nil zaK (zaa (zao zay (bpv 0) zae (fun _ _=>rfl)) (zac))))
  (zad (zal (k:=3) zbQ.nd rfl (Or.inr rfl) (zao zay (bpv 2) zae (fun _ _=>rfl)))
  (zad (zal (k:=4) zbQ.nd rfl (Or.inl rfl) (zbK (zkg rfl hu64) rfl T.z_dict PyProof.Rows.boot_dict (zaa (zaM rfl (N:=["place","worth","ones"]) (n:=2) (cap:=[3]) (za5 rfl rfl) (zh5 (bpv 1)) (zet (by decide) (by decide)) (fun _ _ _ _=>(zfs (K:=K) (n:=2) rfl (zaD (zaj (k:=0) (show (["place","worth","ones"]:List Str).Nodup by decide+kernel) rfl (Or.inl rfl)) (zaD (zaj (k:=1) (show (["place","worth","ones"]:List Str).Nodup by decide+kernel) rfl (Or.inl rfl)) zbI)))) (fun _ _ _ _=>zaN) (fun _ _ _ _=>(za0 (zaa (bpv 0) (zaa (zan zgj (bpv 1) (bpv 2)) (zac)))))) (zac))))
  (zag (zar (zam (zfj T) (hr.mono (by decide)) rfl T.d_outputs_with.m T.d_outputs_with.F.kp T.d_outputs_with.b .nil zaK (zaa (bpv 0) (zaa (bpv 4) (zaa (zao zay (bpv 2) zae (fun _ _=>rfl)) (zaa (bpv 3) (zac))))))))))),?_⟩
 refine ⟨_,rfl,a,_,_,_,rfl,rfl,off.same.seqT ha,rfl,n,by rw [← en,wN (by omega)];rfl,n6,fun r L H1 s1 nr nL er eL=>?_⟩
 refine ⟨_,rfl,r,_,1,_,rfl,rfl,.of er,rfl,?_⟩
 have off1:=off.grow s1
 have rd:r≠d:=qR (zai hd nr)
 have Ld:L≠d:=qR (zai hd nL)
 refine ⟨_,rfl,d,_,rfl,s1 _ _ hd,fun ob D hD=>?_⟩
 have off2:=off1.write (.head _) (.frz ob (.dT (tabV fs)))
 have ed2:=zab (H:=H1) (a:=d) (o:=.frz ob (.dT (tabV fs)))
 have er2:(upd H1 d (.frz ob (.dT (tabV fs)))) r=some (.tup [.ref L,.int (zaX (2 ^ n))]):=by rw [zah rd];exact er
 have eL2:(upd H1 d (.frz ob (.dT (tabV fs)))) L=some (.lst ((zdl n).map V.int)):=by rw [zah Ld];exact eL
 generalize upd H1 d (.frz ob (.dT (tabV fs)))=H2 at hD off2 ed2 er2 eL2
 have gD:G D=none:=off2.same.free hD
 have Dd:d≠D:=zai ed2 hD
 have Dr:r≠D:=zai er2 hD
 have DL:L≠D:=zai eL2 hD
 refine zjO (d:=d) (ob:=ob) (kvs:=tabV fs) (fun j H5=>∃ xs,Off [d] G H5∧H5 d=some (.frz ob (.dT (tabV fs)))∧H5 r=some (.tup [.ref L,.int (zaX (2 ^ n))])∧H5 L=some (.lst ((zdl n).map V.int))∧H5 D=some (.lst xs)∧zeV H5 xs (tabV (zcn (2 ^ n) (fs.take j))))
  ⟨[],off2.new hD _,zaf hD _ _ _ ed2,zaf hD _ _ _ er2,zaf hD _ _ _ eL2,zab,.nil⟩ (fun j H5 _ ⟨_,_,e,_⟩=>e) ?_ ?_
 ·rintro j b p H5 T1 hp ⟨xs,off5,ed5,er5,eL5,eD5,pr⟩ hT1 hb
  have hp':(fs.map fun f=>(f.place,V.int f.worth))[j]? =some p:=hp
  rw [yJ] at hp'
  cases hz:fs[j]? with
  | none=>rw [hz] at hp';cases hp'
  | some f=>
   rw [hz] at hp'
   cases hp'
   have lj:j < fs.length:=(yE.mp hz).1
   have et:fs.take (j+1)=fs.take j++ [f]:=by rw [yR,hz];rfl
   have fw:=fb f (yH hz)
   have k1:=zaf hT1 (.tup [.ref b,.int f.worth])
   refine ⟨T1,_,rfl,.of zab,rfl,_,_,rfl,_,_,rfl,rfl,?_⟩
   have b1:qK f.worth≤2 ^ 20:=zhf (k:=2) (by decide) (by omega) (by omega)
   refine ⟨_,rfl,_,rfl,_,rfl,_,_,rfl,rfl,⟨b1,zja (zcz (2 ^ n)) h64⟩,(by show 2≤yK;decide),fun T2 h2=>?_⟩
   have k2:=zaf h2 (.tup [.ref b,.int (f.worth * zaX (2 ^ n))])
   have k12:=k1.trans k2
   have lpr:=yX pr
   unfold tabV zcn at lpr
   rw [yB,yB,yU] at lpr
   refine ⟨xs,k12 _ _ eD5,big (by omega),xs++ [.ref T2],?_,by rw [zah Dd];exact k12 _ _ ed5,by rw [zah Dr];exact k12 _ _ er5,by rw [zah DL];exact k12 _ _ eL5,zab,?_⟩
   ·exact ⟨(off5.grow k12).same.write gD _,(off5.grow k12).out,fun m hm=>by rw [yG.mp hm,zah Dd];exact ⟨_,k12 _ _ ed5⟩⟩
   ·rw [et]
    have e1:tabV (zcn (2 ^ n) (fs.take j++ [f]))=tabV (zcn (2 ^ n) (fs.take j))++ [(f.place,V.int (f.worth * zaX (2 ^ n)))]:=by unfold tabV zcn;rw [yN,yN];rfl
    rw [e1]
    exact ziv (k12 _ _ eD5) (kF (zjB k12 pr) ⟨T2,b,rfl,zab,hb.same k12⟩)
 rintro H5 ⟨xs,off5,ed5,er5,eL5,eD5,pr⟩
 have lt:(tabV fs).length=fs.length:=by unfold tabV;rw [yB]
 rw [lt,yV] at pr
 refine ⟨D,xs,tabV (zcn (2 ^ n) fs),rfl,eD5,pr,big (by unfold tabV zcn;rw [yB,yB];omega),fun e he=>?_⟩
 rw [show zfg [] (tabV (zcn (2 ^ n) fs))=tabV (zcn (2 ^ n) fs) from zhM (zcn (2 ^ n) fs) [] (zjK ap)]
 have k6:=zaf he (.dT (tabV (zcn (2 ^ n) fs)))
 have s6:=off5.same.trans k6
 refine ⟨_,rfl,_,rfl,_,rfl,r,_,0,_,rfl,rfl,.of (k6 _ _ er5),rfl,_,rfl,.ref a,e,L,w,zcn (2 ^ n) fs,zdl n,zaX (2 ^ n),rfl,hx.mono s6,wf,zab,.of (k6 _ _ eL5),by rw [c.2.1];omega,fun r2 H7 s7 n7 e7=>?_⟩
 exact q r2 ob H7 (s6.trans s7) (s6.free n7) ((k6.trans s7) _ _ ed5) (by rw [e7];unfold zbi;rw [en])
theorem zdE (T:Txt K mg t):FnOk P w K mg base CX0 4 t.f_outputs_seen t.fd_outputs_seen ["works","stuck"] (sp_osT K):=by
 refine (zfi T).thaw.imp fun vs H Q E h=>?_
 obtain ⟨x,d,w,fs,rfl,hx,wf,hd,fb,ap,lf,q⟩:=h
 obtain ⟨a,ga,oa,gs,os,rfl,ha,hg,ho,rg,ro⟩:=zbz hx
 refine ⟨.ref a,d,w,fs,hole d H,rfl,zcp hd,zje hd hx,wf,hd,fb,ap,lf,fun r ob H' s n e1 e2=>⟨d,ob,_,_,hd,e1,?_⟩⟩
 have rd:r≠d:=fun z=>by rw [z,e1] at e2;cases e2
 refine q r _ (fun b o hb=>?_) (by rw [zaL rd] at n;exact n) (by rw [zah rd];exact e2)
 by_cases z:b=d
 ·subst z
  rw [zab]
  rw [hd] at hb
  exact hb
 ·rw [zah z]
  exact s _ _ (by rw [zaL z];exact hb)
theorem zba:zaw ["works","places","faults","place","gate","body","leg"] ["works"] (zak zcv):=⟨rfl,rfl,rfl,by decide+kernel,rfl,by decide+kernel,by decide+kernel⟩
theorem zgq (T:Txt K mg t):FnOk P w K mg base CX0 1 t.f_every_fault t.fd_every_fault ["works"] (zjQ K):=by
 refine T.d_every_fault.F.okB zba (fun vs H Q E h=>?_) (fun cdv A outer s H vs Q E hr h=>?_)
 ·obtain ⟨x,w,rfl,_⟩:=h
  rfl
 obtain ⟨x,w,rfl,hx,wf,q⟩:=h
 obtain ⟨a,ga,oa,gs,os,rfl,ha,hg,ho,rg,ro⟩:=zbz hx
 have lg:gs.length=w.gates.length:=by rw [rg.length,yB]
 have i1:=wf.i1
 have i6:=wf.i6
 have few:=wf.few
 refine ⟨_,(zad (zdn (k:=1) rfl (N:=["wire"]) (n:=1) (cap:=[]) (za5 rfl rfl) zba.nd rfl rfl (zaZ rfl T.z_range (zaa (zan zbM (zao zay (bpv 0) zae (fun _ _=>rfl)) (zat zaq rfl T.z_len qL (zaa (zao zay (bpv 0) zae (fun _ _=>rfl)) (zac)))) (zac))) (zaz (by decide)) (fun _ _ _ _=>(zaj (k:=0) (show (["wire"]:List Str).Nodup by decide+kernel) rfl (Or.inl rfl))) (fun _ _ _ _=>zaN) (fun _ _ _ _=>(za0 (zaa zau (zaa (bpv 0) (zac))))) rfl)
  (zad (zaQ qH rfl (zeo rfl T.z_enumerate (zaa (zao zay (bpv 0) zae (fun _ _=>rfl)) (zac))) (zdz rfl (zaD (zaj (k:=4) zba.nd rfl (Or.inl rfl)) (zaD (zaj (k:=5) zba.nd rfl (Or.inl rfl)) zbI))) (zag (zaQ qH rfl (zaZ rfl T.z_range (zaa (zat zaq rfl T.z_len qL (zaa (zao zay (bpv 5) zae (fun _ _=>rfl)) (zac))) (zac))) (zaj (k:=6) zba.nd rfl (Or.inl rfl)) (zag (zbm (zds qS jC jD zbv (bpv 1) (zaa (za0 (zaa zau (zaa (bpv 4) (zaa (bpv 6) (zac))))) (zac))))))))
  (zad (zal (k:=2) zba.nd rfl (Or.inl rfl) (zav zac))
  (zad (zaQ qH rfl (zaH (bpv 1)) (zaj (k:=3) zba.nd rfl (Or.inl rfl)) (zad (zbm (zds qS jC jD zbv (bpv 2) (zaa (zan zk4 (bpv 3) (za0 (zaa zae (zac)))) (zac))))
  (zag (zbm (zds qS jC jD zbv (bpv 2) (zaa (zan zk4 (bpv 3) (za0 (zaa zae (zac)))) (zac)))))))
  (zag (zar (bpv 2))))))),?_⟩
 refine ⟨_,rfl,a,_,_,_,rfl,rfl,ha,rfl,_,rfl,a,_,_,_,rfl,rfl,ha,rfl,ga,_,rfl,.inl hg,_,_,rfl,rfl,_,rfl,by omega,by omega,fun pl hpl=>?_⟩
 refine zc5 (fun i H2=>∃ xs,Bld K H pl xs ((zcI i).map .tuple) H2) ⟨[],.start hpl⟩ ?_ ?_
 ·rintro i H2 hi ⟨xs,b⟩
  rw [vY]
  have lx:=b.len
  rw [yB,zcy] at lx
  refine ⟨_,rfl,(by show 2≤yK;decide),fun T1 h1=>⟨xs,(b.new h1 _).at_,big (by omega),xs++ [.ref T1],?_⟩⟩
  have:=b.pushT (es:=[.str "wire",.int i]) h1 (.cons (.str _) (.cons (.int _) .nil))
  simpa [zcI,zlU] using this
 rintro H2 ⟨xs,b⟩
 have e2:(w.ins+(gs.length:Int)).toNat=w.ins.toNat+w.gates.length:=by omega
 rw [e2] at b
 refine ⟨_,rfl,a,_,_,_,rfl,rfl,b.same.seqT ha,rfl,ga,rfl,⟨_,b.same.seq hg⟩,zi7 (K:=K) (a:=ga) (xs:=gs)
  (fun i σ H2=>∃ (xs:List V) (o1 o2 o3 o4 o5:Option V),σ = [some (.ref a),some (.ref pl),o1,o2,o3,o4,o5]∧Bld K H pl xs ((zcI (w.ins.toNat+w.gates.length)++zcX w.gates i).map .tuple) H2)
  ⟨xs,_,_,_,_,_,rfl,by simpa [zcX] using b⟩ (fun i σ H2 _ ⟨_,_,_,_,_,_,_,b⟩=>b.same.seq hg) ?_ ?_⟩
 ·rintro i x σ H2 T1 hx ⟨xs,o1,o2,o3,o4,o5,rfl,b⟩ h1
  have hi:i < gs.length:=(yE.mp hx).1
  obtain ⟨g,hgk⟩:∃ g,w.gates[i]? =some g:=⟨_,yF (by omega)⟩
  obtain ⟨d,hd,rv⟩:=rg.get hx
  rw [yJ,hgk] at hd
  cases hd
  obtain ⟨a1,la,rfl,hA,hL⟩:=zhc rv
  have lk:=(wf.legs i g hgk).1.le
  have ll:((g.2.map V.int).length:Int)=g.2.length:=by rw [yB]
  have b':=b.new h1 (.tup [.int i,.ref a1])
  refine ⟨T1,_,rfl,.of zab,rfl,_,_,rfl,_,_,rfl,rfl,?_⟩
  refine ⟨_,rfl,a1,_,_,_,rfl,rfl,b'.same.seqT hA,rfl,la,_,rfl,.inr (b'.same.seqT hL),_,rfl,by omega,by omega,?_⟩
  refine zcA (fun j σ H3=>∃ (xs:List V) (o1 o2 o5:Option V),σ = [some (.ref a),some (.ref pl),o1,o2,some (.int i),some (.ref a1),o5]∧
   Bld K H pl xs ((zcI (w.ins.toNat+w.gates.length)++zcX w.gates i++ze4 i j).map .tuple) H3) ⟨xs,_,_,_,rfl,by simpa [ze4] using b'⟩ ?_ ?_
  ·rintro j σ H3 hj ⟨xs,o1,o2,o5,rfl,b⟩
   rw [vY]
   have lx:=b.len
   have g1:=zda wf i
   rw [yB,yI,yI,zeB,zcy] at lx
   refine ⟨_,rfl,.inl ⟨rfl,_,b.sq⟩,_,rfl,_,rfl,(by show 3≤yK;decide),fun T2 h2=>?_⟩
   refine ⟨pl,xs,_,rfl,rfl,(b.new h2 _).at_,big (by omega),xs++ [.ref T2],_,_,_,rfl,?_⟩
   have:=b.pushT (es:=[.str "leg",.int i,.int j]) h2 (.cons (.str _) (.cons (.int _) (.cons (.int _) .nil)))
   simpa [ze4,legP] using this
  ·rintro σ H3 ⟨xs,o1,o2,o5,rfl,b⟩
   have e3:((g.2.map V.int).length:Int).toNat=g.2.length:=by omega
   rw [e3] at b
   exact ⟨xs,_,_,_,_,_,rfl,by simpa [zcX,hgk,xL] using b⟩
 rintro σ H2 ⟨xs,o1,o2,o3,o4,o5,rfl,b⟩
 rw [lg] at b
 have lp:(za8 w).length≤200:=by
  have g1:=zda wf w.gates.length
  unfold za8
  rw [yI,zcy]
  omega
 have rp:Reps K H2 xs ((za8 w).map .tuple):=b.reps
 refine ⟨(by show 0≤yK;decide),fun f hf=>?_⟩
 have s1:Same H2 (upd H2 f (.lst [])):=zaf hf _
 refine ⟨_,rfl,pl,rfl,⟨_,s1.seq b.sq⟩,zce (K:=K) (a:=pl) (xs:=xs)
  (fun i σ H3=>∃ (ys:List V) (o2 o3 o4 o5:Option V),σ = [some (.ref a),some (.ref pl),some (.ref f),o2,o3,o4,o5]∧Bld K H2 f ys (zd6 ((za8 w).take i)) H3∧FAll H3 ys (((zb2 w).take i).flatMap fun p=>[⟨p,0⟩,⟨p,1⟩]))
  ⟨[],_,_,_,_,rfl,.start hf,.nil⟩ (fun i σ H3 _ ⟨_,_,_,_,_,_,b3,_⟩=>b3.same.seq b.sq) ?_ ?_⟩
 ·rintro i x σ H3 hx ⟨ys,o2,o3,o4,o5,rfl,b3,fa3⟩
  obtain ⟨d,hd,rx⟩:=rp.get hx
  rw [yJ] at hd
  cases hp:(za8 w)[i]? with
  | none=>rw [hp] at hd;cases hd
  | some p=>
   rw [hp] at hd
   cases hd
   cases rx with
   | @tup a1 vs _ h1 r1=>
    have hi:i < (za8 w).length:=(yE.mp hp).1
    have et:(za8 w).take (i+1)=(za8 w).take i++ [p]:=by
     rw [yR,hp]
     rfl
    have pne:vs≠[]:=by
     intro z
     subst z
     cases r1
     exact zl9 hp
    have lv:vs.length≤3:=by
     rw [r1.length]
     exact zkM hp
    have ly:=b3.len
    rw [zfM,yU] at ly
    obtain ⟨pk,hpk,epk⟩:∃ pk,(zb2 w)[i]? =some pk∧p=pk.map kD:=by
     rw [← zeK,yJ] at hp
     cases hz:(zb2 w)[i]? with
     | none=>rw [hz] at hp;cases hp
     | some pk=>rw [hz] at hp;cases hp;exact ⟨pk,rfl,rfl⟩
    have ek:(zb2 w).take (i+1)=(zb2 w).take i++ [pk]:=by
     rw [yR,hpk]
     rfl
    have ev0:vs++ [.int 0]=pk.map kV++ [.int 0]:=zdM (K:=K) (H:=H2) (by rw [← epk];exact r1.snoc (.int 0))
    have ev1:vs++ [.int 1]=pk.map kV++ [.int 1]:=zdM (K:=K) (H:=H2) (by rw [← epk];exact r1.snoc (.int 1))
    refine ⟨_,rfl,.inl ⟨rfl,_,b3.sq⟩,_,rfl,(by show 1≤yK;decide),fun T1 n1=>?_⟩
    have c1:=b3.new n1 (.tup [.int 0])
    refine ⟨a1,T1,vs,_,rfl,rfl,c1.same.seqT h1,.of zab,pne,bigE (by simp;omega),(fun z=>nomatch z),fun _ T2 n2=>?_⟩
    have c2:=c1.pushT n2 (r1.snoc (.int 0))
    refine ⟨f,ys,_,rfl,rfl,(c1.new n2 _).at_,big (by omega),?_⟩
    refine ⟨_,rfl,.inl ⟨rfl,_,c2.sq⟩,_,rfl,(by show 1≤yK;decide),fun T3 n3=>?_⟩
    have c3:=c2.new n3 (.tup [.int 1])
    refine ⟨a1,T3,vs,_,rfl,rfl,c3.same.seqT h1,.of zab,pne,bigE (by simp;omega),(fun z=>nomatch z),fun _ T4 n4=>?_⟩
    have c4:=c3.pushT n4 (r1.snoc (.int 1))
    refine ⟨f,_,_,rfl,rfl,(c3.new n4 _).at_,big (by simp;omega),ys++ [.ref T2]++ [.ref T4],_,_,_,_,rfl,?_⟩
    constructor
    ·rw [et,zbL,zeH]
     simpa [xL] using c4
    ·rw [ek,vE]
     have fa4:=((fa3.new n1 (.tup [.int 0])).new n2 (.tup (vs++ [.int 0]))).write (c1.new n2 _).at_ (.lst (ys++ [.ref T2]))
     have g0:FAt (upd (upd (upd H3 T1 (.tup [.int 0])) T2 (.tup (vs++ [.int 0]))) f (.lst (ys++ [.ref T2]))) ⟨pk,0⟩ (.ref T2):=FAt.write ⟨T2,rfl,by rw [zab,ev0]⟩ (c1.new n2 _).at_ _
     have fa5:=((((show FAll _ _ [_] from .cons g0 .nil)).new n3 (.tup [.int 1])).new n4 (.tup (vs++ [.int 1]))).write (c3.new n4 _).at_ (.lst (ys++ [.ref T2]++ [.ref T4]))
     have fa6:=((fa4.new n3 (.tup [.int 1])).new n4 (.tup (vs++ [.int 1]))).write (c3.new n4 _).at_ (.lst (ys++ [.ref T2]++ [.ref T4]))
     have g1:=FAt.write (f:=⟨pk,1⟩) (v:=.ref T4) ⟨T4,rfl,by rw [zab,ev1]⟩ (c3.new n4 (.tup (vs++ [.int 1]))).at_ (.lst (ys++ [.ref T2]++ [.ref T4]))
     cases fa5 with
     | cons z _=>
      have z2:=FAll.app fa6 (.cons z (.cons g1 .nil))
      rw [show ys++ [V.ref T2,V.ref T4]=ys++ [.ref T2]++ [.ref T4] by simp] at z2
      exact z2
 ·rintro σ H3 ⟨ys,o2,o3,o4,o5,rfl,b3,fa3⟩
  have e5:(za8 w).take xs.length=za8 w:=by
   rw [b.len]
   show (za8 w).take ((za8 w).map Dat.tuple).length=_
   rw [yB,yV]
  have e6:(zb2 w).take xs.length=zb2 w:=by
   rw [b.len]
   show (zb2 w).take ((za8 w).map Dat.tuple).length=_
   rw [yB,← zeK,yB,yV]
  rw [e6] at fa3
  exact ⟨_,rfl,q f ys H3 (b.same.trans b3.same) (b.same.free hf) b3.at_ fa3⟩
theorem zcE:zaw ["works","seen","fault"] ["works"] (zak zb9):=⟨rfl,rfl,rfl,by decide+kernel,rfl,by decide+kernel,by decide+kernel⟩
theorem zfw (T:Txt K mg t):FnOk P w K mg base CX0 5 t.f_seen_of_each t.fd_seen_of_each ["works"] (sp_soe K):=by
 refine T.d_seen_of_each.F.okB zcE (fun vs H Q E h=>?_) (fun cdv A outer s H vs Q E hr h=>?_)
 ·obtain ⟨x,w,rfl,_⟩:=h
  rfl
 obtain ⟨x,w,rfl,hx,wf,q⟩:=h
 have hu1:=zgo hr
 have hu64:=hr.units
 have lf:=zcc wf
 refine ⟨_,(zad (zal (k:=1) zcE.nd rfl (Or.inl rfl) zeP)
  (zad (zaQ qH rfl (zaH (zam (zgq T) (hr.mono (by decide)) rfl T.d_every_fault.m T.d_every_fault.F.kp T.d_every_fault.b .nil zaK (zaa (bpv 0) (zac)))) (zaj (k:=2) zcE.nd rfl (Or.inl rfl)) (zag (zhh hu1 (bpv 1) (bpv 2) (zam (zdE T) (hr.mono (by decide)) rfl T.d_outputs_seen.m T.d_outputs_seen.F.kp T.d_outputs_seen.b .nil zaK (zaa (bpv 0) (zaa (zlF hu1 (zfE sl_tup (bpv 2) ziW (zfu (zi5 zju zae))) (zao zay (bpv 2) (zi5 zju zae) (fun _ _=>rfl))) (zac)))) rfl)))
  (zag (zar (bpv 1))))),?_⟩
 refine fun d hd=>?_
 have s0:=zaf hd (.dT [])
 refine ⟨_,rfl,x,w,rfl,hx.mono s0,wf,fun r xs H1 s1 nr er fa=>?_⟩
 have s01:=s0.trans s1
 have lx:=yX fa
 refine ⟨r,rfl,⟨_,.of er⟩,zce (K:=K) (a:=r) (xs:=xs)
  (fun i σ H3=>∃ (o2:Option V) (kvs:List (List Key×V)),σ = [some x,some (.ref d),o2]∧Same (hole d H1) H3∧H3 d=some (.dT kvs)∧zeq H3 w kvs ((allF w).take i))
  ⟨_,[],rfl,(zcp (s1 _ _ zab)).same,s1 _ _ zab,.nil⟩ (fun i σ H3 _ ⟨_,_,_,s3,_⟩=>.of (s3 _ _ (by rw [zaL (fun z=>by rw [z,s1 _ _ zab] at er;cases er)];exact er))) ?_ ?_⟩
 ·rintro i v σ H3 hv ⟨o2,kvs,rfl,s3,e3,sd⟩
  have ed1:=s1 _ _ (zab (H:=H) (a:=d) (o:=.dT []))
  have offd:=zcp ed1
  have sH:=(zdP s01 hd).trans s3
  obtain ⟨f,hf,b,rfl,hb⟩:=zaI fa hv
  have bd:b≠d:=fun z=>by rw [z,ed1] at hb;cases hb
  have hb3:=s3 _ _ (show hole d H1 b=_ by rw [zaL bd];exact hb)
  have li:i < (allF w).length:=(yE.mp hf).1
  have et:(allF w).take (i+1)=(allF w).take i++ [f]:=by rw [yR,hf];rfl
  have nf:f∉(allF w).take i:=fun z=>by
   have nd:=zc9 w
   rw [← vM (i+1) (allF w),et] at nd
   exact (jB.mp (jB.mp nd).1).2.2 _ z _ (yG.mpr rfl) rfl
  have gf:=zaW (yH hf)
  refine ⟨_,rfl,fun p hp=>?_⟩
  have k1:=zaf hp (.dT [])
  refine ⟨_,rfl,_,rfl,_,rfl,b,_,rfl,.of (k1 _ _ hb3),zmi _ _,fun T1 h1=>?_⟩
  rw [show (-(1:Int))= -1 from rfl,zmK]
  have k2:=zaf h1 (.tup (f.place.map kV))
  refine ⟨_,rfl,_,rfl,b,_,_,_,rfl,rfl,.of ((k1.trans k2) _ _ hb3),znF _ _,k2 _ _ zab,T1,f.place,rfl,.inl zab,?_⟩
  have s36:=(k1.trans k2).write hp (.dT [(f.place,.int f.worth)])
  refine ⟨x,p,w,[f],rfl,hx.mono (sH.trans s36),wf,zab,fun g hg=>by rw [yG.mp hg];exact gf.2,(by unfold zek;simp),by show 1≤1000;decide,fun r2 H7 s7 n7 e7=>?_⟩
  have s37:=s36.trans s7
  have ed7:=s37 _ _ e3
  have nv:=zeq.miss sd nf
  have lk:kvs.length≤400:=by
   have:=yX sd
   rw [yU] at this
   omega
  refine ⟨_,rfl,_,rfl,d,_,rfl,DPut.t (k:=fkK f) ed7 (by rw [zhD];exact s37 _ _ hb3) (big (by omega)),_,_,rfl,(s3.trans s37).write (offd.out d (.head _)) _,zab,?_⟩
  rw [zfo _ nv,et]
  have rd:r2≠d:=fun z=>by rw [z,ed7] at e7;cases e7
  exact zeg ((sd.mono s37).put ed7 _) ⟨rfl,r2,rfl,by rw [zah rd];exact e7⟩
 ·rintro σ H3 ⟨o2,kvs,rfl,s3,e3,sd⟩
  rw [lx,yV] at sd
  exact ⟨_,rfl,q d kvs H3 ((zdP s01 hd).trans s3) hd e3 sd⟩
theorem zn9:zaw ["numbers","others"] ["numbers","others"] (zak ziS):=⟨rfl,rfl,rfl,by decide+kernel,rfl,by decide+kernel,by decide+kernel⟩
theorem zio (T:Txt K mg t):FnOk P w K mg base CX0 1 t.f_meet t.fd_meet ["numbers","others"] (sp_mt K):=by
 refine T.d_meet.F.okB zn9 (fun vs H Q E h=>?_) (fun cdv A outer s H vs Q E hr h=>?_)
 ·obtain ⟨a,b,ns,ts,rfl,_⟩:=h
  rfl
 obtain ⟨a,b,ns,ts,rfl,ha,hb,ln,q⟩:=h
 refine ⟨_,(zag (zar (zat (zkP rfl) rfl T.z_any PyProof.Rows.boot_any (zaa (zaM rfl (N:=["number","others"]) (n:=1) (cap:=[1]) (za5 rfl rfl) (zaH (bpv 0)) (zaz (by decide)) (fun _ _ _ _=>(zaj (k:=0) (show (["number","others"]:List Str).Nodup by decide+kernel) rfl (Or.inl rfl))) (fun _ _ _ _=>zaN) (fun _ _ _ _=>(zcs (zdU (K:=K)) (bpv 0) (bpv 1) rfl))) (zac))))),?_⟩
 refine ⟨_,rfl,a,rfl,⟨_,ha⟩,fun D hD=>zaO (K:=K) (a:=a) (xs:=zaA ns) (fun i H4=>Off [D] H H4∧H4 D=some (.lst (((ns.take i).map fun j=>decide (j∈ts)).map V.bl)))
  ⟨Off.start hD _,zab⟩ (fun i H4 _ ⟨off,_⟩=>off.same.seq ha) ?_ ?_⟩
 ·rintro i v H4 hv ⟨off,eD⟩
  obtain ⟨j,hj,rfl⟩:=zcj hv
  have li:i < ns.length:=(yE.mp hj).1
  refine ⟨_,rfl,_,rfl,b,_,rfl,.inl (off.same.seq hb),rfl,zes ts,?_⟩
  refine ⟨_,eD,big (by rw [yB,yB,yU];omega),off.write (.head _) _,?_⟩
  rw [zab,yR,hj,if_neg yQ,zfq]
  simp
 ·rintro H4 ⟨off,eD⟩
  rw [zaU,yV] at eD
  refine ⟨D,_,rfl,.of eD,?_⟩
  have:=q H4 off.same
  unfold za7 at this
  rw [ybx]
  exact this
theorem zg4:zaw ["taken","finding"] ["taken","finding"] (zak zcP):=⟨rfl,rfl,rfl,by decide+kernel,rfl,by decide+kernel,by decide+kernel⟩
theorem zgu (T:Txt K mg t):FnOk P w K mg base CX0 2 t.f_meets_each t.fd_meets_each ["taken","finding"] (sp_meR K):=by
 refine T.d_meets_each.F.okB zg4 (fun vs H Q E h=>?_) (fun cdv A outer s H vs Q E hr h=>?_)
 ·obtain ⟨a,d,ts,kvs,nss,rfl,_⟩:=h
  rfl
 obtain ⟨a,d,ts,kvs,nss,rfl,ha,hd,nd,ln,le,q⟩:=h
 refine ⟨_,(zag (zar (zat (zic rfl) rfl T.z_all yby (zaa (zaM rfl (N:=["numbers","taken"]) (n:=1) (cap:=[0]) (za5 rfl rfl) (zmg (bpv 1)) (zaz (by decide)) (fun _ _ _ _=>(zaj (k:=0) (show (["numbers","taken"]:List Str).Nodup by decide+kernel) rfl (Or.inl rfl))) (fun _ _ _ _=>zaN) (fun _ _ _ _=>(zam (zio T) (hr.mono (by decide)) rfl T.d_meet.m T.d_meet.F.kp T.d_meet.b .nil zaK (zaa (bpv 0) (zaa (bpv 1) (zac)))))) (zac))))),?_⟩
 have lk:=yX nd
 have sh:=zcp hd
 refine ⟨_,rfl,d,kvs,rfl,hd,fun ob D hD=>?_⟩
 have s1:Same (hole d H) (upd H d (.frz ob (.dT kvs))):=sh.same.write (sh.out d (.head _)) _
 have ed1:=zab (H:=H) (a:=d) (o:=.frz ob (.dT kvs))
 have nd1:zf2 (hole d H) kvs nss:=Paired.mapP nd fun _ _ ⟨l,b,c⟩=>⟨l,b,by rw [zaL (fun z=>by rw [z,hd] at c;cases c)];exact c⟩
 have ha1:SqL K (hole d H) a (zaA ts):=zfW ha hd
 generalize upd H d (.frz ob (.dT kvs))=H1 at s1 ed1 hD
 have Dd:d≠D:=zai ed1 hD
 refine zlf (d:=d) (ob:=ob) (kvs:=kvs) (fun i H4=>Off [D] (hole d H) H4∧H4 d=some (.frz ob (.dT kvs))∧H4 D=some (.lst (((nss.take i).map fun ns=>za7 ns ts).map V.bl)))
  ⟨⟨s1.upd hD _,fun m hm=>by rw [yG.mp hm];exact s1.free hD,fun m hm=>by rw [yG.mp hm];exact ⟨_,zab⟩⟩,zaf hD _ _ _ ed1,zab⟩ (fun i H4 _ ⟨_,e,_⟩=>e) ?_ ?_
 ·rintro i p H4 hp ⟨off,ed,eD⟩
  obtain ⟨ns,hns,l,el,hl⟩:=zaI nd1 hp
  have li:i < nss.length:=(yE.mp hns).1
  rw [el]
  refine ⟨_,rfl,_,rfl,l,a,ns,ts,rfl,.of (off.same _ _ hl),off.same.seq ha1,le ns (yH hns),fun H5 s5=>?_⟩
  refine ⟨_,s5 _ _ eD,big (by rw [yB,yB,yU];omega),(off.grow s5).write (.head _) _,by rw [zah Dd];exact s5 _ _ ed,?_⟩
  rw [zab,yR,hns]
  simp
 ·rintro H4 ⟨off,ed,eD⟩
  rw [lk,yV] at eD
  refine ⟨D,_,rfl,.of eD,?_⟩
  have:=q ob H4 off.same ed
  rw [vZ]
  exact this
theorem zeE (T:Txt K mg t):FnOk P w K mg base CX0 2 t.f_meets_each t.fd_meets_each ["taken","finding"] (sp_me K):=by
 refine (zgu T).thaw.imp fun vs H Q E h=>?_
 obtain ⟨a,d,ts,kvs,nss,rfl,ha,hd,nd,ln,le,q⟩:=h
 refine ⟨a,d,ts,kvs,nss,rfl,ha,hd,nd,ln,le,fun ob H' s e=>⟨d,ob,_,_,hd,e,q _ fun b o hb=>?_⟩⟩
 by_cases z:b=d
 ·rw [z,hd] at hb
  cases hb
  rw [z]
  exact zab
 ·rw [zah z]
  exact s _ _ (by rw [zaL z];exact hb)
theorem zbg:zaw ["works","right","finding","fault","seen","numbers"] ["works"] (zak zca):=⟨rfl,rfl,rfl,by decide+kernel,rfl,by decide+kernel,by decide+kernel⟩
theorem zbP (T:Txt K mg t):FnOk P w K mg base CX0 6 t.f_finding_rows t.fd_finding_rows ["works"] (sp_fr K):=by
 refine T.d_finding_rows.F.okB zbg (fun vs H Q E h=>?_) (fun cdv A outer s H vs Q E hr h=>?_)
 ·obtain ⟨x,w,rfl,_⟩:=h
  rfl
 obtain ⟨x,w,rfl,hx,wf,q⟩:=h
 have hu1:=zgo hr
 have hu64:=hr.units
 have lf:=zcc wf
 refine ⟨_,(zad (zal (k:=1) zbg.nd rfl (Or.inl rfl) (zam (zdE T) (hr.mono (by decide)) rfl T.d_outputs_seen.m T.d_outputs_seen.F.kp T.d_outputs_seen.b .nil zaK (zaa (bpv 0) (zaa zeP (zac)))))
  (zad (zal (k:=2) zbg.nd rfl (Or.inl rfl) zeP)
  (zad (zaQ qH rfl (zh5 (zam (zfw T) (hr.mono (by decide)) rfl T.d_seen_of_each.m T.d_seen_of_each.F.kp T.d_seen_of_each.b .nil zaK (zaa (bpv 0) (zac)))) (zdz rfl (zaD (zaj (k:=3) zbg.nd rfl (Or.inl rfl)) (zaD (zaj (k:=4) zbg.nd rfl (Or.inl rfl)) zbI))) (zad (zal (k:=5) zbg.nd rfl (Or.inl rfl) (zam (ze8 T) (hr.mono (by decide)) rfl T.d_unlike_numbers.m T.d_unlike_numbers.F.kp T.d_unlike_numbers.b .nil zaK (zaa (bpv 4) (zaa (bpv 1) (zac)))))
  (zag (zaP (zap zoJ (zat zaq rfl T.z_len qL (zaa (bpv 5) (zac))) zae (zaB _)) (zag (zhh hu1 (bpv 2) (bpv 3) (bpv 5) rfl)) zax))))
  (zag (zar (bpv 2)))))),?_⟩
 refine ⟨_,rfl,fun e0 he0=>?_⟩
 have s0:=zaf he0 (.dT [])
 refine ⟨x,e0,w,[],rfl,hx.mono s0,wf,zab,(fun f hf=>nomatch hf),(by unfold zek;simp),by show 0≤1000;decide,fun rt H1 s1 nrt ert=>?_⟩
 have s01:=s0.trans s1
 refine fun fd hfd=>?_
 have k2:=zaf hfd (.dT [])
 have s02:=s01.trans k2
 refine ⟨_,rfl,x,w,rfl,hx.mono s02,wf,fun d kvS H2 s2 nd ed sd=>?_⟩
 refine ⟨d,kvS,rfl,ed,fun ob=>?_⟩
 have ef2:=s2 _ _ (zab (H:=H1) (a:=fd) (o:=.dT []))
 have ert2:=s2 _ _ (k2 _ _ ert)
 have fd_d:=zai (zab (H:=H1) (a:=fd) (o:=.dT [])) nd
 have drt:d≠rt:=fun z=>by rw [z,ert2] at ed;cases ed
 have ed3:=zab (H:=H2) (a:=d) (o:=.frz ob (.dT kvS))
 have ef3:(upd H2 d (.frz ob (.dT kvS))) fd=some (.dT []):=by rw [zah fd_d];exact ef2
 have ert3:(upd H2 d (.frz ob (.dT kvS))) rt=some (.lst ((zbi w []).map V.int)):=by rw [zah (qR drt)];exact ert2
 have sd3:zeq (upd H2 d (.frz ob (.dT kvS))) w kvS (allF w):=sd.put ed _
 have s03:Same H (upd H2 d (.frz ob (.dT kvS))):=fun b o e=>by
  rw [zah (fun z=>by rw [z] at e;have:=s02 _ _ e;rw [nd] at this;cases this)]
  exact s2 _ _ (s02 _ _ e)
 have hf0:=s01.free hfd
 generalize upd H2 d (.frz ob (.dT kvS))=H3 at ed3 ef3 ert3 sd3 s03 ⊢
 have off:=zcp ef3
 have out:∀ {c:Addr} {o:HO},H3 c=some o→(∀ k,o≠.dT k)→hole fd H3 c=some o:=fun {c o} e n=>by
  rw [zaL (fun z=>by rw [z,ef3] at e;exact n _ (qF e).symm)]
  exact e
 have grt:=out ert3 (fun _ z=>by cases z)
 have ged:=out ed3 (fun _ z=>by cases z)
 have sG:Same H (hole fd H3):=zdP s03 hf0
 have sdG:zeq (hole fd H3) w kvS (allF w):=Paired.mapP sd3 fun _ _ ⟨a,l,b,c⟩=>⟨a,l,b,out c (fun _ z=>by cases z)⟩
 have lkS:=yX sd3
 generalize hole fd H3=G1 at off grt ged sG sdG
 refine zlJ (d:=d) (ob:=ob) (kvs:=kvS) (fun i σ H4=>∃ (o3 o4 o5:Option V) (kvs:List (List Key×V)),σ = [some x,some (.ref rt),some (.ref fd),o3,o4,o5]∧Off [fd] G1 H4∧H4 fd=some (.dT kvs)∧zbe H4 w kvs (((allF w).take i).filter fun f=>decide (zaC w f≠[])))
  ⟨_,_,_,[],rfl,off,ef3,.nil⟩ (fun i σ H4 _ ⟨_,_,_,_,_,o,_⟩=>o.same _ _ ged) ?_ ?_
 ·rintro i b p σ H4 T1 hp ⟨o3,o4,o5,kvs,rfl,of4,ef4,fd4⟩ hT hb
  obtain ⟨f,hf,ep,l,el,hl⟩:=zaI sdG hp
  have li:i < (allF w).length:=(yE.mp hf).1
  have et:(allF w).take (i+1)=(allF w).take i++ [f]:=by rw [yR,hf];rfl
  have gf:=zaW (yH hf)
  have fb1:∀ h∈[f],h.worth=0∨h.worth=1:=fun h hh=>by rw [yG.mp hh];exact gf.2
  rw [ep,zhD] at hb
  rw [el]
  have kT:=zaf hT (.tup [.ref b,.ref l])
  refine ⟨T1,_,rfl,.of zab,rfl,_,_,rfl,_,_,rfl,rfl,?_⟩
  obtain ⟨f1,f2,f3⟩:=zex fb1 wf
  obtain ⟨g1,g2,g3⟩:=zex (fs:=[]) (fun f hf=>nomatch hf) wf
  have o3':=wf.o3
  have h64:=pow6 (n:=w.ins.toNat) (by have:=wf.i6;omega)
  refine ⟨_,rfl,_,rfl,l,rt,zbi w [f],zbi w [],2 ^ w.ins.toNat,rfl,kT _ _ (of4.same _ _ hl),kT _ _ (of4.same _ _ grt),f2.trans g2.symm,by omega,h64,f1,g1,fun r H5 s5 n5 e5=>?_⟩
  have s45:=kT.trans s5
  refine ⟨_,rfl,r,_,rfl,.inl (.of e5),_,_,rfl,rfl,?_⟩
  have en:((zjz (zcH (zbi w [f]) (zbi w []))).map fun j:Nat=>V.int (j:Int)).length=(zaC w f).length:=by rw [yB];rfl
  have off5:=of4.grow s45
  have ef5:=s45 _ _ ef4
  have lk:kvs.length≤400:=by
   have:=yX fd4
   have h2:=qU (fun f=>decide (zaC w f≠[])) ((allF w).take i)
   rw [yU] at h2
   omega
  have nf:f∉((allF w).take i).filter fun f=>decide (zaC w f≠[]):=fun z=>by
   have z:=(yT.mp z).1
   have nd:=zc9 w
   rw [← vM (i+1) (allF w),et] at nd
   exact (jB.mp (jB.mp nd).1).2.2 _ z _ (yG.mpr rfl) rfl
  refine ⟨_,rfl,ite2 (fun c=>?_) (fun c=>?_)⟩
  ·have c':(0:Int) < ((zjz (zcH (zbi w [f]) (zbi w []))).map fun j:Nat=>V.int (j:Int)).length:=of_decide_eq_true c
   have ne:zaC w f≠[]:=fun z=>by rw [en,z] at c';simp at c'
   have nv:=zbe.miss fd4 nf
   have rd:r≠fd:=fun z=>by rw [z,ef5] at e5;cases e5
   refine ⟨_,rfl,_,rfl,_,rfl,fd,_,rfl,DPut.r (k:=fkK f) ef5 (by rw [zhD];exact hb.same s45) (big (by omega)),_,_,_,_,rfl,off5.write (.head _) _,zab,?_⟩
   rw [zfo _ nv,et,qP,jK (by simpa using ne)]
   exact zeg ((fd4.mono s45).put ef5 _) ⟨rfl,r,rfl,by rw [zah rd];exact e5⟩
  ·have c':¬(0:Int) < ((zjz (zcH (zbi w [f]) (zbi w []))).map fun j:Nat=>V.int (j:Int)).length:=fun z=>c (decide_eq_true z)
   have ne:zaC w f= []:=by
    rw [en] at c'
    exact jQ.mp (by omega)
   refine ⟨_,_,_,kvs,rfl,off5,ef5,?_⟩
   rw [et,qP,qZ (by simp [ne]),vF,jH]
   exact fd4.mono s45
 ·rintro σ H4 ⟨o3,o4,o5,kvs,rfl,of4,ef4,fd4⟩
  rw [lkS,yV] at fd4
  exact ⟨_,rfl,q fd kvs H4 (sG.trans of4.same) hf0 ef4 fd4⟩
theorem zdO:zaw ["works","rows","row","taken"] ["works","rows"] (zak zdp):=⟨rfl,rfl,rfl,by decide+kernel,rfl,by decide+kernel,by decide+kernel⟩
theorem zh8 (T:Txt K mg t):FnOk P w K mg base CX0 7 t.f_finds_all t.fd_finds_all ["works","rows"] (sp_fa K):=by
 refine T.d_finds_all.F.okB zdO (fun vs H Q E h=>?_) (fun cdv A outer s H vs Q E hr h=>?_)
 ·obtain ⟨x,y,w,rs,rfl,_⟩:=h
  rfl
 obtain ⟨x,y,w,rs,rfl,hx,wf,hy,rows,lr,q⟩:=h
 have hu64:=hr.units
 have lf:=zcc wf
 obtain ⟨a,ga,oa,gs,os,rfl,ha,hg,ho,rg,ro⟩:=zbz hx
 have i1:=wf.i1
 have i6:=wf.i6
 refine ⟨_,(zad (zaQ qH rfl (zaH (bpv 1)) (zaj (k:=2) zdO.nd rfl (Or.inl rfl)) (zag (zbm (zam (zhC T) (hr.mono (by decide)) rfl T.d_check_row.m T.d_check_row.F.kp T.d_check_row.b .nil zaK (zaa (bpv 0) (zaa (bpv 2) (zac)))))))
  (zad (zdn (k:=3) rfl (N:=["number","row","rows"]) (n:=2) (cap:=[1]) (za5 rfl rfl) zdO.nd rfl rfl (zeo rfl T.z_enumerate (zaa (zam (zdC T) (hr.mono (by decide)) rfl T.d_every_row.m T.d_every_row.F.kp T.d_every_row.b .nil zaK (zaa (bpv 0) (zac))) (zac))) (zet (by decide) (by decide)) (fun _ _ _ _=>(zfs (K:=K) (n:=2) rfl (zaD (zaj (k:=0) (show (["number","row","rows"]:List Str).Nodup by decide+kernel) rfl (Or.inl rfl)) (zaD (zaj (k:=1) (show (["number","row","rows"]:List Str).Nodup by decide+kernel) rfl (Or.inl rfl)) zbI)))) (fun _ _ _ _=>(zc0 (zap (zn4 (K:=K) hu64) (bpv 1) (bpv 2) rfl))) (fun _ _ _ _=>(bpv 0)) rfl)
  (zag (zar (zam (zeE T) (hr.mono (by decide)) rfl T.d_meets_each.m T.d_meets_each.F.kp T.d_meets_each.b .nil zaK (zaa (bpv 3) (zaa (zam (zbP T) (hr.mono (by decide)) rfl T.d_finding_rows.m T.d_finding_rows.F.kp T.d_finding_rows.b .nil zaK (zaa (bpv 0) (zac))) (zac)))))))),?_⟩
 cases hy with
 | @lst ra xs _ hq rq=>
 have lxs:xs.length=rs.length:=by rw [rq.length,yB]
 refine ⟨_,rfl,ra,rfl,⟨_,hq⟩,zce (K:=K) (a:=ra) (xs:=xs) (fun i σ H3=>∃ (o2 o3:Option V),σ = [some (.ref a),some (.ref ra),o2,o3]∧Same H H3)
  ⟨_,_,rfl,Same.refl _⟩ (fun i σ H3 _ ⟨_,_,_,s3⟩=>s3.seq hq) ?_ ?_⟩
 ·rintro i v σ H3 hv ⟨o2,o3,rfl,s3⟩
  obtain ⟨dd,hdd,rv⟩:=rq.get hv
  rw [yJ] at hdd
  cases hz:rs[i]? with
  | none=>rw [hz] at hdd;cases hdd
  | some row=>
   rw [hz] at hdd
   cases hdd
   obtain ⟨l1,b1⟩:=rows row (yH hz)
   cases rv with
   | @lst rb ys _ hq2 rq2=>
    have e:=zeJ rq2
    subst e
    refine ⟨_,rfl,_,rfl,a,ga,oa,rb,w.ins,row,rfl,s3.seqT ha,s3.seq hq2,l1,b1,by omega,fun H4 s4=>⟨_,_,rfl,s3.trans s4⟩⟩
 ·rintro σ H3 ⟨o2,o3,rfl,s3⟩
  have many:=zaS w.ins.toNat
  have h64:=pow6 (n:=w.ins.toNat) (by omega)
  refine ⟨_,rfl,a,ga,oa,w.ins,rfl,s3.seqT ha,by omega,i6,fun R qs H4 r4=>?_⟩
  have lq:=r4.rows.len
  have s4:=s3.trans r4.same
  have oks:∀ e∈rs.map rowD,kqdOk 8 e=true:=fun e he=>by
   obtain ⟨row,_,rfl⟩:=qE.mp he
   exact zaJ row
  refine ⟨R,rfl,⟨_,.of r4.at_⟩,fun D hD=>zfv (K:=K) (a:=R) (xs:=qs.map V.ref) (fun i H5=>Off [D] H4 H5∧H5 D=some (.lst (zaA ((qI i).filter fun j=>decide ((zaT w.ins.toNat).getD j []∈rs)))))
   ⟨Off.start hD _,zab⟩ (fun i H5 _ ⟨off,_⟩=>.of (off.same _ _ r4.at_)) ?_ ?_⟩
  ·rintro i v H5 T1 hv ⟨off,eD⟩ hT
   rw [yJ] at hv
   cases hz:qs[i]? with
   | none=>rw [hz] at hv;cases hv
   | some qq=>
    rw [hz] at hv
    cases hv
    obtain ⟨row,hrow,eq⟩:=r4.rows.get hz
    have li:i < qs.length:=(yE.mp hz).1
    have eg:(zaT w.ins.toNat).getD i []=row:=by rw [yM,hrow];rfl
    have kT:=zaf hT (.tup [.int i,.ref qq])
    have off6:=off.grow kT
    have eD6:=kT _ _ eD
    have inj:rowD row∈rs.map rowD↔row∈rs:=⟨fun h=>by
     obtain ⟨r',hr',e⟩:=qE.mp h
     unfold rowD at e
     rw [← wW (fun x y e=>Dat.int.inj e) |>.mp (Dat.list.inj e)]
     exact hr',fun h=>qE.mpr ⟨row,h,rfl⟩⟩
    refine ⟨T1,_,rfl,.of zab,rfl,_,_,rfl,_,_,rfl,rfl,?_⟩
    refine ⟨_,rfl,_,rfl,rowD row,rs.map rowD,.lst (.of (off6.same _ _ eq)) (Reps.ints _),(Rep.lst hq rq).mono (s4.trans off6.same),zaJ row,oks,fun hin=>⟨_,rfl,iteT ⟨_,rfl,_,eD6,?_,off6.write (.head _) _,?_⟩⟩,fun hno=>⟨_,rfl,iteF ⟨off6,?_⟩⟩⟩
    ·rw [zaU]
     have:=qU (fun j=>decide ((zaT w.ins.toNat).getD j []∈rs)) (qI i)
     rw [xH] at this
     exact big (by omega)
    ·rw [zab,xS,qP,jK (by rw [eg];exact decide_eq_true (inj.mp hin))]
     unfold zaA
     rw [yN]
     rfl
    ·rw [eD6,xS,qP,qZ (by rw [eg];simpa using fun h=>hno (inj.mpr h)),vF,jH]
  rintro H5 ⟨off,eD⟩
  have s5:=s4.trans off.same
  refine ⟨_,rfl,_,rfl,.ref a,w,rfl,hx.mono s5,wf,fun d kvs H6 s6 nd ed fd=>?_⟩
  have e1:((qI (qs.map V.ref).length).filter fun j=>decide ((zaT w.ins.toNat).getD j []∈rs))=zfb w.ins.toNat rs:=by
   unfold zfb
   rw [yB,lq]
  rw [e1] at eD
  have lfo:(zaF w).length≤400:=by
   have:=qU (fun f=>decide (zaC w f≠[])) (allF w)
   unfold zaF
   omega
  refine ⟨D,d,zfb w.ins.toNat rs,kvs,(zaF w).map (zaC w),rfl,.of (s6 _ _ eD),ed,fd.nums,by rw [yB];omega,fun ns hns=>?_,fun H7 s7=>?_⟩
  ·obtain ⟨f,hf,rfl⟩:=qE.mp hns
   exact zdR (zaW (yT.mp hf).1) wf
  ·have:=q H7 ((s5.trans s6).trans s7)
   rw [vZ]
   exact this
theorem za1:zaw ["cell","many","top","found","rest","k","stir"] ["cell","many","top"] (zak zcJ):=⟨rfl,rfl,rfl,by decide+kernel,rfl,by decide+kernel,by decide+kernel⟩
theorem zde (T:Txt K mg t):FnOk P w K mg base CX0 1 t.f_law_digits t.fd_law_digits ["cell","many","top"] sp_dg:=by
 refine T.d_law_digits.F.okB za1 (fun vs H Q E h=>?_) (fun cdv A outer s H vs Q E hr h=>?_)
 ·obtain ⟨c,many,b,rfl,_⟩:=h
  rfl
 obtain ⟨c,many,b,rfl,hm,b0,b1,q⟩:=h
 refine ⟨_,(zad (zal (k:=3) za1.nd rfl (Or.inl rfl) (zav zac))
  (zad (zal (k:=4) za1.nd rfl (Or.inl rfl) (bpv 0))
  (zad (zaQ qH rfl (zaZ rfl T.z_range (zaa (bpv 1) (zac))) (zaj (k:=5) za1.nd rfl (Or.inl rfl)) (zad (zal (k:=6) za1.nd rfl (Or.inl rfl) (zan zcD (zan zjp (zan zbM (zan zbM (bpv 0) (zan zjp zae (bpv 5))) zae) zae) zae))
  (zad (zal (k:=6) za1.nd rfl (Or.inl rfl) (zan zcD (zan zgj (bpv 6) (bpv 6)) zae))
  (zad (zal (k:=6) za1.nd rfl (Or.inl rfl) (zan zji (zan zcD (zan zjp (zan zbM (bpv 6) (zan zjp zae (zan zbM (bpv 5) zae))) zae) zae) zae))
  (zad (zaP (zap op_ge (bpv 0) (zan znt zae zae) (zaB _)) (zag (zal (k:=6) za1.nd rfl (Or.inl rfl) (bpv 4))) zax)
  (zad (zbm (zds qS jC jD zbv (bpv 3) (zaa (zan zcD (bpv 6) (bpv 2)) (zac))))
  (zag (zal (k:=4) za1.nd rfl (Or.inl rfl) (zan zji (bpv 4) (bpv 2))))))))))
  (zag (zar (bpv 3)))))),?_⟩
 have pw:∀ i j:Int,i.natAbs < 2 ^ 64→0≤j→j≤1000000→CPow i j:=fun i j a b c=>⟨b,c,a⟩
 refine ⟨(by show 0≤yK;decide),fun R hR=>?_⟩
 refine ⟨_,rfl,_,rfl,_,rfl,by omega,by omega,zcA (fun j σ H2=>∃ (rest:Int) (o5 o6:Option V) (row:List Int),σ = [some (.int c),some (.int many),some (.int b),some (.ref R),some (.int rest),o5,o6]∧row.length=j∧(∀ z∈row,0≤z∧z < b)∧Same H H2∧H2 R=some (.lst (row.map V.int)))
  ⟨_,_,_,[],rfl,rfl,(fun _ z=>nomatch z),zaf hR _,zab⟩ ?_ ?_⟩
 ·rintro j σ H2 hj ⟨rest,o5,o6,row,rfl,lr,br,s2,eR⟩
  rw [vY]
  have j100:j < many:=by omega
  have last:∀ (st:Int),(∀ z∈row++ [st % b],0≤z∧z < b):=fun st z hz=>by
   rcases qG.mp hz with hz | hz
   ·exact br z hz
   ·rw [yG.mp hz]
    exact ⟨wV _ (by omega),kN _ b0⟩
  refine ⟨_,rfl,_,rfl,_,_,rfl,rfl,.inl ⟨by decide,by decide⟩,_,_,rfl,rfl,_,_,rfl,rfl,_,_,rfl,rfl,.inr ⟨by decide,by decide⟩,_,_,rfl,rfl,(by show (0:Int) < 2147483647;decide),?_⟩
  have bs1:qK (zmU c j)≤2 ^ 20:=bits40 (by unfold zmU;omega)
  refine ⟨_,rfl,_,rfl,_,_,rfl,rfl,⟨bs1,bs1⟩,_,_,rfl,rfl,(by show (0:Int) < 2147483629;decide),?_⟩
  refine ⟨_,rfl,_,rfl,_,_,rfl,rfl,_,_,rfl,rfl,.inl ⟨by decide,by decide⟩,_,_,rfl,rfl,_,_,rfl,rfl,.inr ⟨by decide,by decide⟩,_,_,rfl,rfl,(by show (0:Int) < 2147483423;decide),_,_,rfl,rfl,⟨by decide,by decide⟩,?_⟩
  refine' zoh (C:=fun v=>∃ st:Int,v= .int st) (st:=fun v=>[some (.int c),some (.int many),some (.int b),some (.ref R),some (.int rest),some (.int j),some v]) (H:=H2) (fun rest'=>_) _
  rotate_left
  ·refine ⟨_,rfl,_,_,rfl,rfl,pw _ _ (by decide) (by decide) (by decide),_,_,rfl,rfl,_,rfl,ite2 (fun _=>?_) (fun _=>rest' (.int (stirB c j)) ⟨_,rfl⟩)⟩
   exact ⟨_,rfl,rest' (.int rest) ⟨_,rfl⟩⟩
  ·rintro _ ⟨st,rfl⟩
   refine ⟨_,rfl,.inl ⟨rfl,_,.of eR⟩,_,rfl,_,rfl,_,_,rfl,rfl,b0,R,_,_,rfl,rfl,eR,big (by rw [yB];omega),?_⟩
   refine ⟨_,rfl,_,rfl,_,_,rfl,rfl,⟨b0,by omega⟩,?_⟩
   exact ⟨_,_,_,row++ [st % b],rfl,by simp [lr],last st,s2.write hR _,by rw [zab,yN];rfl⟩
 ·rintro σ H2 ⟨rest,o5,o6,row,rfl,lr,br,s2,eR⟩
  exact ⟨_,rfl,q R row H2 s2 hR eR (by omega) br⟩
theorem zcF:zaw ["cell","wires","xs","kind","many","span"] ["cell","wires"] (zak zdZ):=⟨rfl,rfl,rfl,by decide+kernel,rfl,by decide+kernel,by decide+kernel⟩
theorem ziy (T:Txt K mg t):FnOk P w K mg base CX0 2 t.f_law_gate t.fd_law_gate ["cell","wires"] sp_gt:=by
 refine T.d_law_gate.F.okB zcF (fun vs H Q E h=>?_) (fun cdv A outer s H vs Q E hr h=>?_)
 ·obtain ⟨c,wires,rfl,_⟩:=h
  rfl
 obtain ⟨c,wires,rfl,w1,w2,q⟩:=h
 have hu1:=zgo hr
 refine ⟨_,(zad (zal (k:=2) zcF.nd rfl (Or.inr rfl) (zam (zde T) (hr.mono (by decide)) rfl T.d_law_digits.m T.d_law_digits.F.kp T.d_law_digits.b .nil zaK (zaa (bpv 0) (zaa zae (zaa zae (zac))))))
  (zad (zal (k:=3) zcF.nd rfl (Or.inl rfl) (zao zaR (zav (zaa zau (zaa zau (zaa zau (zaa zau (zaa zau (zaa zau (zaa zau (zaa zau (zaa zau (zaa zau (zac)))))))))))) (zan zcD (zao zaR (bpv 2) zae (fun _ _=>rfl)) zae) (fun _ _=>rfl)))
  (zad (zal (k:=4) zcF.nd rfl (Or.inl rfl) (zeu hu1 (znk (zeA zau zae (zeA zau zae (zeA zau zae (zeA zau zae zm9)))) rfl rfl (by simp) (by decide)) (bpv 3) (zao zaR (zav (zaa zae (zaa zae (zaa zae (zaa zae (zac)))))) (zan zcD (zan zfD (zao zaR (bpv 2) zae (fun _ _=>rfl)) zae) zae) (fun _ _=>rfl)) ⟨rfl,rfl,rfl,rfl⟩))
  (zad (zal (k:=5) zcF.nd rfl (Or.inr rfl) (zao zaR (zav (zaa (bpv 1) (zaa (zat (zkO rfl) rfl T.z_min PyProof.Rows.boot_min (zaa (bpv 1) (zaa zae (zac)))) (zac)))) (zan zcD (zan zfD (zao zaR (bpv 2) zae (fun _ _=>rfl)) zae) zae) (fun _ _=>rfl)))
  (zag (zar (za0 (zaa (bpv 3) (zaa (zbK zhn rfl T.z_tuple ya9 (zaa (zaM rfl (N:=["p","wires","span","xs"]) (n:=1) (cap:=[1,5,2]) (za5 rfl rfl) (zaZ rfl T.z_range (zaa (bpv 4) (zac))) (zaz (by decide)) (fun _ _ _ _=>(zaj (k:=0) (show (["p","wires","span","xs"]:List Str).Nodup by decide+kernel) rfl (Or.inl rfl))) (fun _ _ _ _=>zaN) (fun _ _ _ _=>(zan zc4 (zan zc4 (bpv 1) zae) (zan zcD (zao (zcU (K:=K)) (bpv 3) (zan zbM zae (bpv 0)) (fun _ _=>rfl)) (bpv 2))))) (zac))) (zac)))))))))),?_⟩
 refine ⟨_,rfl,c,6,720720,rfl,by decide,by decide,by decide,fun R row H1 s1 nR eR lr br=>?_⟩
 have b0:∀ i:Nat,0≤row.getD i 0:=fun i=>by
  rw [yM]
  cases e:row[i]? with
  | none=>exact kI 0
  | some z=>exact (br z (yH e)).1
 have atR:∀ (i:Nat),i < 6→atI (row.map V.int) (i:Int)=some (.int (row.getD i 0)):=fun i hi=>by
  have:=zbw (ns:=row) (i:=(i:Int)) (by omega) (by omega)
  simpa using this
 refine ⟨(by show 10≤yK;decide),fun Kd hK=>?_⟩
 have k2:=zaf hK (.lst [.str "and",.str "or",.str "and",.str "or",.str "odd",.str "not",.str "choose",.str "odd",.str "zero",.str "one"])
 have eK:(upd H1 Kd (.lst [.str "and",.str "or",.str "and",.str "or",.str "odd",.str "not",.str "choose",.str "odd",.str "zero",.str "one"])) Kd=some (.lst [.str "and",.str "or",.str "and",.str "or",.str "odd",.str "not",.str "choose",.str "odd",.str "zero",.str "one"]):=zab
 generalize upd H1 Kd (.lst [.str "and",.str "or",.str "and",.str "or",.str "odd",.str "not",.str "choose",.str "odd",.str "zero",.str "one"])=H2 at k2 eK
 have r0:=b0 0
 obtain ⟨x,hx,kx⟩:=kindsD (c:=row.getD 0 0 % 10) (by omega) (by omega)
 have eR2:=k2 _ _ eR
 refine ⟨_,rfl,R,_,_,_,rfl,rfl,.of eR2,atR 0 (by decide),_,_,rfl,rfl,(by show (0:Int) < 10;decide),Kd,_,_,_,rfl,rfl,.of eK,hx,?_⟩
 refine fun p hp=>?_
 have k3:=zaf hp (.dK [])
 have eR3:=k3 _ _ eR2
 refine ⟨zab,[(Sum.inr "not",.int 1),(Sum.inr "choose",.int 3),(Sum.inr "zero",.int 0),(Sum.inr "one",.int 0)],rfl,(by decide),p,rfl,.inl ⟨_,.inl zab⟩,_,rfl,?_⟩
 have eR4:(upd (upd H2 p (.dK [])) p (.dK (zed [] [(Sum.inr "not",.int 1),(Sum.inr "choose",.int 3),(Sum.inr "zero",.int 0),(Sum.inr "one",.int 0)]))) R=some (.lst (row.map V.int)):=by
  rw [zah (zai eR2 hp)];exact eR3
 have ed4:=zab (H:=upd H2 p (.dK [])) (a:=p) (o:=.dK (zed [] [(Sum.inr "not",.int 1),(Sum.inr "choose",.int 3),(Sum.inr "zero",.int 0),(Sum.inr "one",.int 0)]))
 have s4:=((s1.trans k2).trans k3).write ((s1.trans k2).free hp) (.dK (zed [] [(Sum.inr "not",.int 1),(Sum.inr "choose",.int 3),(Sum.inr "zero",.int 0),(Sum.inr "one",.int 0)]))
 generalize upd (upd H2 p (.dK [])) p (.dK (zed [] [(Sum.inr "not",.int 1),(Sum.inr "choose",.int 3),(Sum.inr "zero",.int 0),(Sum.inr "one",.int 0)]))=H4 at eR4 ed4 s4
 obtain ⟨m0,em0,m2,m4⟩:∃ m0:Int,atI [V.int 2,.int 2,.int 3,.int 4] (row.getD 0 0 / 10 % 4)=some (.int m0)∧2≤m0∧m0≤4:=by
  have h5:row.getD 0 0 / 10 % 4=0∨row.getD 0 0 / 10 % 4=1∨row.getD 0 0 / 10 % 4=2∨row.getD 0 0 / 10 % 4=3:=by omega
  rcases h5 with e | e | e | e <;> rw [e]
  ·exact ⟨2,rfl,by decide,by decide⟩
  ·exact ⟨2,rfl,by decide,by decide⟩
  ·exact ⟨3,rfl,by decide,by decide⟩
  ·exact ⟨4,rfl,by decide,by decide⟩
 refine ⟨(by show 4≤yK;decide),fun L hL=>?_⟩
 have k5:=zaf hL (.lst [.int 2,.int 2,.int 3,.int 4])
 obtain ⟨n,en,lk⟩:=manyD kx ⟨m2,m4⟩
 refine ⟨_,rfl,R,_,_,_,rfl,rfl,.of (k5 _ _ eR4),atR 0 (by decide),_,_,rfl,rfl,⟨by decide,by decide⟩,_,_,rfl,rfl,(by show (0:Int) < 4;decide),L,_,_,_,rfl,rfl,.of zab,em0,_,DGet.k (k:=Sum.inr x) (k5 _ _ ed4),?_⟩
 rw [en]
 have s5:=s4.trans k5
 have eR5:=k5 _ _ eR4
 generalize upd H4 L (.lst [.int 2,.int 2,.int 3,.int 4])=H5 at s5 eR5
 have n4:=lk.le
 refine ⟨_,rfl,_,rfl,_,_,rfl,(by show 2≤yK;decide),fun L2 hL2=>?_⟩
 have k6:=zaf hL2 (.lst [.int wires,.int (if (3:Int) < wires then 3 else wires)])
 obtain ⟨sp,esp,sp1,sp2⟩:∃ sp:Int,atI [V.int wires,.int (if (3:Int) < wires then 3 else wires)] (row.getD 0 0 / 50 % 2)=some (.int sp)∧1≤sp∧sp≤wires:=by
  have h5:row.getD 0 0 / 50 % 2=0∨row.getD 0 0 / 50 % 2=1:=by omega
  rcases h5 with e | e <;> rw [e]
  ·exact ⟨wires,rfl,w1,kI _⟩
  ·exact ⟨_,rfl,by split <;> omega,by split <;> omega⟩
 refine ⟨_,rfl,R,_,_,_,rfl,rfl,.of (k6 _ _ eR5),atR 0 (by decide),_,_,rfl,rfl,⟨by decide,by decide⟩,_,_,rfl,rfl,(by show (0:Int) < 2;decide),L2,_,_,_,rfl,rfl,.of zab,esp,?_⟩
 have s6:=s5.trans k6
 have eR6:=k6 _ _ eR5
 generalize upd H5 L2 (.lst [.int wires,.int (if (3:Int) < wires then 3 else wires)])=H6 at s6 eR6
 refine ⟨_,rfl,_,rfl,_,rfl,by omega,by omega,fun D hD=>?_⟩
 refine zc5 (fun j H8=>∃ ls:List Int,Same H6 H8∧H8 D=some (.lst (ls.map V.int))∧ls.length=j∧∀ l∈ls,0≤l∧l < wires) ⟨[],zaf hD _,zab,rfl,fun _ z=>nomatch z⟩ ?_ ?_
 ·rintro j H8 hj ⟨ls,s8,eD,ll,bl⟩
  rw [vY]
  have hj2:j < n:=by omega
  have at1:atI (row.map V.int) (1+(j:Int))=some (.int (row.getD (1+j) 0)):=by
   have e:(1:Int)+(j:Int)=((1+j:Nat):Int):=by omega
   rw [e]
   exact atR (1+j) (by omega)
  refine ⟨_,rfl,_,_,rfl,rfl,_,rfl,_,rfl,_,_,rfl,rfl,R,_,_,_,rfl,rfl,.of (s8 _ _ eR6),at1,_,rfl,_,_,rfl,rfl,(by show 0 < sp;omega),_,_,rfl,rfl,?_⟩
  have e1:=wV (row.getD (1+j) 0) (show sp≠0 by omega)
  have e2:=kN (row.getD (1+j) 0) (show 0 < sp by omega)
  refine ⟨_,eD,big (by rw [yB];omega),ls++ [wires - 1 - row.getD (1+j) 0 % sp],s8.write hD _,by rw [zab,yN];rfl,by simp [ll],fun l hl=>?_⟩
  rcases qG.mp hl with hl | hl
  ·exact bl l hl
  ·rw [yG.mp hl];omega
 ·rintro H8 ⟨ls,s8,eD,ll,bl⟩
  have ln:ls.length=n:=by omega
  refine ⟨D,_,rfl,.inl ⟨.of eD,fun T1 h1=>⟨(by show 2≤yK;decide),fun T2 h2=>?_⟩⟩⟩
  have j1:=zaf h1 (.tup (ls.map V.int))
  have j2:=zaf h2 (.tup [.str x,.ref T1])
  have s9:=s6.trans s8
  exact q T2 T1 x ls _ ((s9.trans j1).trans j2) ((s9.trans j1).free h2) (s9.free h1) zab (j2 _ _ zab) (by rw [ln];exact lk) bl
theorem zaE:zaw ["script","inputs","most","first","many","cells","gates","cell","wires","xs","outputs","k"] ["script","inputs","most"] (zak zb7):=⟨rfl,rfl,rfl,by decide+kernel,rfl,by decide+kernel,by decide+kernel⟩
theorem zgh (T:Txt K mg t):FnOk P w K mg base CX0 3 t.f_law_works_of t.fd_law_works_of ["script","inputs","most"] (sp_wko K):=by
 refine T.d_law_works_of.F.okB zaE (fun vs H Q E h=>?_) (fun cdv A outer s H vs Q E hr h=>?_)
 ·obtain ⟨a,ns,inp,most,rfl,_⟩:=h
  rfl
 obtain ⟨a,ns,inp,most,rfl,hS,i1,i6,m20,q⟩:=h
 refine ⟨_,(zad (zal (k:=3) zaE.nd rfl (Or.inl rfl) (zam (zb5 T) (hr.mono (by decide)) rfl T.d_law_cell_at.m T.d_law_cell_at.F.kp T.d_law_cell_at.b .nil zaK (zaa (bpv 0) (zaa zae (zac)))))
  (zad (zal (k:=4) zaE.nd rfl (Or.inl rfl) (zan zcD (zan zfD (bpv 3) zae) (zan zbM (bpv 2) zae)))
  (zad (zal (k:=5) zaE.nd rfl (Or.inl rfl) (zfE zlc (bpv 0) (zfu zae) (zfu (zan zbM zae (bpv 4)))))
  (zad (zal (k:=5) zaE.nd rfl (Or.inl rfl) (zan zcY (bpv 5) (zam (zde T) (hr.mono (by decide)) rfl T.d_law_digits.m T.d_law_digits.F.kp T.d_law_digits.b .nil zaK (zaa (zam (zb5 T) (hr.mono (by decide)) rfl T.d_law_cell_at.m T.d_law_cell_at.F.kp T.d_law_cell_at.b .nil zaK (zaa (bpv 0) (zaa zae (zac)))) (zaa (zan zc4 (bpv 4) (zat zaq rfl T.z_len qL (zaa (bpv 5) (zac)))) (zaa (zan znt zae zae) (zac)))))))
  (zad (zal (k:=6) zaE.nd rfl (Or.inl rfl) (zav zac))
  (zad (zaQ qH rfl (zaH (bpv 5)) (zaj (k:=7) zaE.nd rfl (Or.inl rfl)) (zag (zbm (zds qS jC jD zbv (bpv 6) (zaa (zam (ziy T) (hr.mono (by decide)) rfl T.d_law_gate.m T.d_law_gate.F.kp T.d_law_gate.b .nil zaK (zaa (bpv 7) (zaa (zan zbM (bpv 1) (zat zaq rfl T.z_len qL (zaa (bpv 6) (zac)))) (zac)))) (zac))))))
  (zad (zal (k:=8) zaE.nd rfl (Or.inl rfl) (zan zbM (bpv 1) (zat zaq rfl T.z_len qL (zaa (bpv 6) (zac)))))
  (zad (zal (k:=9) zaE.nd rfl (Or.inl rfl) (zam (zde T) (hr.mono (by decide)) rfl T.d_law_digits.m T.d_law_digits.F.kp T.d_law_digits.b .nil zaK (zaa (zam (zb5 T) (hr.mono (by decide)) rfl T.d_law_cell_at.m T.d_law_cell_at.F.kp T.d_law_cell_at.b .nil zaK (zaa (bpv 0) (zaa zae (zac)))) (zaa zae (zaa zae (zac))))))
  (zad (zal (k:=10) zaE.nd rfl (Or.inl rfl) (zav (zaa (zao zaR (zav (zaa (zan zc4 (bpv 8) zae) (zaa (zan zcD (zao zaR (bpv 9) zae (fun _ _=>rfl)) (bpv 8)) (zac)))) (zan zfD (zan zcD (zan zfD (zao zaR (bpv 9) zae (fun _ _=>rfl)) zae) zae) zae) (fun _ _=>rfl)) (zac))))
  (zad (zaQ qH rfl (zaZ rfl T.z_range (zaa (zan zcD (zao zaR (bpv 9) zae (fun _ _=>rfl)) zae) (zac))) (zaj (k:=11) zaE.nd rfl (Or.inl rfl)) (zag (zbm (zds qS jC jD zbv (bpv 10) (zaa (zan zcD (zao zaR (bpv 9) (zan zbM zae (bpv 11)) (fun _ _=>rfl)) (bpv 8)) (zac))))))
  (zag (zar (za0 (zaa (bpv 1) (zaa (bpv 6) (zaa (bpv 10) (zac))))))))))))))))),?_⟩
 have pw:∀ i j:Int,i.natAbs < 2 ^ 64→0≤j→j≤1000000→CPow i j:=fun i j a b c=>⟨b,c,a⟩
 refine ⟨_,rfl,a,ns,0,rfl,hS,fun first=>?_⟩
 obtain ⟨many,emany,hmany⟩:∃ many:Nat,first / 3 % ((most:Int)+1)=(many:Int)∧many≤most:=by
  have e1:=wV (first / 3) (show (most:Int)+1≠0 by omega)
  have e2:=kN (first / 3) (show 0 < (most:Int)+1 by omega)
  exact ⟨(first / 3 % ((most:Int)+1)).toNat,by omega,by omega⟩
 refine ⟨_,rfl,_,_,rfl,rfl,⟨by decide,by decide⟩,_,rfl,_,_,rfl,rfl,_,_,rfl,rfl,(by show (0:Int) < (most:Int)+1;omega),?_⟩
 dsimp only
 rw [emany]
 refine ⟨_,rfl,_,rfl,_,rfl,_,_,rfl,rfl,_,rfl,a,_,rfl,hS,fun C hC=>?_⟩
 obtain ⟨cs,ecs,lcs⟩:=zme ns (m:=many)
 rw [ecs]
 have k1:=zaf hC (.lst (cs.map V.int))
 refine ⟨_,rfl,_,rfl,a,ns,1,rfl,k1.seq hS,fun c1=>?_⟩
 refine ⟨_,rfl,_,rfl,C,_,rfl,.inl (.of zab),_,_,rfl,rfl,_,_,rfl,rfl,pw _ _ (by decide) (by decide) (by decide),c1,many - cs.length,10 ^ (12:Int).toNat,?_,by omega,by decide,by decide,fun R row H1 s1 nR eR lr br=>?_⟩
 ·rw [yB]
  show [V.int c1,V.int ((many:Int) - (cs.length:Int)),V.int (10 ^ (12:Int).toNat)]=_
  rw [show (many:Int) - (cs.length:Int)=((many - cs.length:Nat):Int) by omega]
 have s01:=k1.trans s1
 have eC1:=s1 _ _ (zab (H:=H) (a:=C) (o:=.lst (cs.map V.int)))
 refine ⟨C,R,_,_,rfl,rfl,eC1,eR,bigE (by rw [yB,yB];omega),fun D hD=>?_⟩
 have k2:=zaf hD (.lst (cs.map V.int++row.map V.int))
 obtain ⟨ds,eds⟩:∃ ds:List Int,cs++row=ds:=⟨_,rfl⟩
 have eD:(upd H1 D (.lst (cs.map V.int++row.map V.int))) D=some (.lst (ds.map V.int)):=by rw [zab,← eds,yN]
 have lds:ds.length≤20:=by rw [← eds,yI];omega
 have s02:=s01.trans k2
 generalize upd H1 D (.lst (cs.map V.int++row.map V.int))=H2 at eD s02
 refine ⟨(by show 0≤yK;decide),fun g hg=>?_⟩
 have Dg:D≠g:=zai eD hg
 refine ⟨_,rfl,D,rfl,⟨_,.of (zaf hg _ _ _ eD)⟩,zce (K:=K) (a:=D) (xs:=ds.map V.int)
  (fun i σ H6=>∃ (G:Hp) (gs:List (Str×List Int)) (vs:List V) (o7:Option V),σ = [some (.ref a),some (.int inp),some (.int most),some (.int first),some (.int many),some (.ref D),some (.ref g),o7,none,none,none,none]∧
   Off [g] G H6∧Same H2 G∧H6 g=some (.lst vs)∧Reps K G vs (gs.map zf8)∧gs.length=i∧∀ (k:Nat) gt,gs[k]? =some gt→zbU gt.1 gt.2.length∧∀ l∈gt.2,0≤l∧l < inp+k)
  ⟨H2,[],[],_,rfl,Off.start hg _,Same.refl _,zab,.nil,rfl,(fun k gt e=>by simp at e)⟩ (fun i σ H6 _ ⟨_,_,_,_,_,o,s,_⟩=>.of ((s.trans o.same) _ _ eD)) ?_ ?_⟩
 ·rintro i y σ H6 hy ⟨G,gs,vs,o7,rfl,off,sG,eg,rgs,lgs,gd⟩
  rw [yJ] at hy
  cases hz:ds[i]? with
  | none=>rw [hz] at hy;cases hy
  | some z=>
   rw [hz] at hy
   cases hy
   have iz:i < ds.length:=(yE.mp hz).1
   have lv:vs.length=i:=by rw [rgs.length,yB,lgs]
   refine ⟨_,rfl,.inl ⟨rfl,_,.of eg⟩,_,rfl,_,rfl,_,rfl,g,_,rfl,.inl (.of eg),_,_,rfl,rfl,z,_,rfl,by omega,by omega,fun r la x ls H8 s8 nr nla er ela lk bl=>?_⟩
   have of8:=off.grow s8
   obtain ⟨of9,k9⟩:=of8.take ela (off.ne nla)
   obtain ⟨ofa,ka⟩:=of9.take er (off.ne nr)
   refine ⟨g,vs,_,rfl,rfl,s8 _ _ eg,big (by omega),_,gs++ [(x,ls)],vs++ [.ref r],_,rfl,ofa.write (.head _) _,sG.trans (k9.trans ka),zab,?_,by simp [lgs],fun k gt e=>?_⟩
   ·rw [yN]
    exact (rgs.mono (k9.trans ka)).snoc (.tup (.of zab) (.cons (.str x) (.cons (Rep.tup (.of (ka _ _ zab)) (Reps.ints ls)) .nil)))
   ·by_cases hk:k < gs.length
    ·rw [jG hk] at e
     exact gd k gt e
    ·have hk2:k=gs.length:=by
      have:=(yE.mp e).1
      simp at this
      omega
     subst hk2
     rw [jJ (yL _),ybp] at e
     cases e
     refine ⟨lk,fun l hl=>?_⟩
     have:=bl l hl
     rw [lv] at this
     show 0≤l∧l < inp+((gs.length:Nat):Int)
     omega
 rintro σ H6 ⟨G,gs,vs,o7,rfl,off,sG,eg,rgs,lgs,gd⟩
 rw [yB] at lgs
 have lv:vs.length=gs.length:=by rw [rgs.length,yB]
 have of7:=off.close eg (fun z=>nomatch z)
 have kG:=off.cadd (.lst vs)
 have gg:(upd G g (.lst vs)) g=some (.lst vs):=zab
 have sG7:=sG.trans kG
 have rgs7:=rgs.mono kG
 generalize upd G g (.lst vs)=G7 at of7 kG gg sG7 rgs7
 have s6:=of7.same
 refine ⟨_,rfl,_,rfl,g,_,rfl,.inl (.of eg),_,_,rfl,rfl,?_⟩
 refine ⟨_,rfl,a,ns,2,rfl,(s02.trans (sG7.trans s6)).seq hS,fun c2=>?_⟩
 refine ⟨c2,4,720720,rfl,by decide,by decide,by decide,fun X xr H7 s7 nX eX lxr bxr=>?_⟩
 have b0:∀ i:Nat,0≤xr.getD i 0:=fun i=>by
  rw [yM]
  cases e:xr[i]? with
  | none=>exact kI 0
  | some z=>exact (bxr z (yH e)).1
 have atX:∀ (i:Nat),i < 4→atI (xr.map V.int) (i:Int)=some (.int (xr.getD i 0)):=fun i hi=>by
  have:=zbw (ns:=xr) (i:=(i:Int)) (by omega) (by omega)
  simpa using this
 obtain ⟨wires,ew,w1⟩:∃ wires:Int,inp+(vs.length:Int)=wires∧1≤wires:=⟨_,rfl,by omega⟩
 dsimp only
 rw [ew]
 have md:∀ z:Int,0≤z % wires∧z % wires < wires:=fun z=>⟨wV _ (by omega),kN _ (by omega)⟩
 refine ⟨_,rfl,_,_,rfl,rfl,_,rfl,X,_,_,_,rfl,rfl,.of eX,atX 1 (by decide),_,rfl,_,_,rfl,rfl,(by show 0 < wires;omega),(by show 2≤yK;decide),fun L hL=>?_⟩
 have k8:=zaf hL (.lst [.int (wires - 1),.int (xr.getD 1 0 % wires)])
 have x0:=b0 0
 obtain ⟨o0,eo0,ho0⟩:∃ o0:Int,atI [V.int (wires - 1),.int (xr.getD 1 0 % wires)] (xr.getD 0 0 / 3 % 4 / 3)=some (.int o0)∧0≤o0∧o0 < wires:=by
  have h5:xr.getD 0 0 / 3 % 4 / 3=0∨xr.getD 0 0 / 3 % 4 / 3=1:=by omega
  rcases h5 with e | e <;> rw [e]
  ·exact ⟨wires - 1,rfl,by omega,by omega⟩
  ·exact ⟨_,rfl,md _⟩
 refine ⟨_,rfl,X,_,_,_,rfl,rfl,.of (k8 _ _ eX),atX 0 (by decide),_,_,rfl,rfl,⟨by decide,by decide⟩,_,_,rfl,rfl,(by show (0:Int) < 4;decide),_,_,rfl,rfl,⟨by decide,by decide⟩,L,_,_,_,rfl,rfl,.of zab,eo0,(by show 1≤yK;decide),fun O hO=>?_⟩
 have s08:=(s6.trans s7).trans k8
 have eX8:=k8 _ _ eX
 generalize upd H7 L (.lst [.int (wires - 1),.int (xr.getD 1 0 % wires)])=H8 at s08 eX8 hO
 have kO:=zaf hO (.lst [.int o0])
 refine ⟨_,rfl,X,_,_,_,rfl,rfl,.of (kO _ _ eX8),atX 0 (by decide),_,_,rfl,rfl,(by show (0:Int) < 3;decide),_,rfl,by omega,by omega,zcA (fun j σ H9=>∃ (os:List Int) (o7 o11:Option V),σ = [some (.ref a),some (.int inp),some (.int most),some (.int first),some (.int many),some (.ref D),some (.ref g),o7,some (.int wires),some (.ref X),some (.ref O),o11]∧
   Same H8 H9∧H9 O=some (.lst (os.map V.int))∧os.length=1+j∧∀ o∈os,0≤o∧o < wires)
  ⟨[o0],_,_,rfl,zaf hO _,zab,rfl,fun o ho=>by rw [yG.mp ho];exact ho0⟩ ?_ ?_⟩
 ·rintro j σ H9 hj ⟨os,o7',o11,rfl,s9,eO,lo,bo⟩
  rw [vY]
  have hj2:j < 2:=by omega
  have at2:atI (xr.map V.int) (2+(j:Int))=some (.int (xr.getD (2+j) 0)):=by
   have e:(2:Int)+(j:Int)=((2+j:Nat):Int):=by omega
   rw [e]
   exact atX (2+j) (by omega)
  refine ⟨_,rfl,.inl ⟨rfl,_,.of eO⟩,_,rfl,_,rfl,_,_,rfl,rfl,X,_,_,_,rfl,rfl,.of (s9 _ _ eX8),at2,_,rfl,_,_,rfl,rfl,(by show 0 < wires;omega),O,_,_,rfl,rfl,eO,big (by rw [yB];omega),?_⟩
  refine ⟨os++ [xr.getD (2+j) 0 % wires],_,_,rfl,s9.write hO _,by rw [zab,yN];rfl,by rw [yI,qC];omega,fun o ho=>?_⟩
  rcases qG.mp ho with ho | ho
  ·exact bo o ho
  ·rw [yG.mp ho];exact md _
 ·rintro σ H9 ⟨os,o7',o11,rfl,s9,eO,lo,bo⟩
  refine ⟨_,rfl,_,rfl,_,rfl,(by show 3≤yK;decide),fun W hW=>?_⟩
  have kW:=zaf hW (.tup [.int inp,.ref g,.ref O])
  have s69:=(s08.trans s9).trans kW
  refine q W ⟨inp,gs,os⟩ _ ((s02.trans sG7).trans s69) (.tup (.of zab) (.cons (.int _) (.cons (.lst (.of (s69 _ _ gg)) (rgs7.mono s69)) (.cons (.lst (.of (kW _ _ eO)) (Reps.ints os)) .nil)))) ?_ rfl
  have hx3:xr.getD 0 0 % 3 < 3:=by omega
  exact ⟨i1,i6,by show gs.length≤20;omega,gd,by show 1≤os.length;omega,by show os.length≤20+20;omega,fun o ho=>by
   have:=bo o ho
   show 0≤o∧o < inp+((gs.length:Nat):Int)
   omega⟩
theorem zhZ:zaw ["script","most"] ["script","most"] (zak zdg):=⟨rfl,rfl,rfl,by decide+kernel,rfl,by decide+kernel,by decide+kernel⟩
theorem zhB (T:Txt K mg t):FnOk P w K mg base CX0 4 t.f_law_works t.fd_law_works ["script","most"] (sp_wk3 K):=by
 refine T.d_law_works.F.okB zhZ (fun vs H Q E h=>?_) (fun cdv A outer s H vs Q E hr h=>?_)
 ·obtain ⟨a,ns,most,rfl,_⟩:=h
  rfl
 obtain ⟨a,ns,most,rfl,hS,m20,q⟩:=h
 refine ⟨_,(zag (zar (zam (zgh T) (hr.mono (by decide)) rfl T.d_law_works_of.m T.d_law_works_of.F.kp T.d_law_works_of.b .nil zaK (zaa (bpv 0) (zaa (zan zbM zae (zan zcD (zam (zb5 T) (hr.mono (by decide)) rfl T.d_law_cell_at.m T.d_law_cell_at.F.kp T.d_law_cell_at.b .nil zaK (zaa (bpv 0) (zaa zae (zac)))) zae)) (zaa (bpv 1) (zac))))))),?_⟩
 refine ⟨_,rfl,_,rfl,a,ns,0,rfl,hS,fun c=>?_⟩
 refine ⟨_,_,rfl,rfl,(by show (0:Int) < 3;decide),_,_,rfl,rfl,_,rfl,a,ns,1+c % 3,most,rfl,hS,by omega,by omega,m20,fun r w H' s' rw' wf ew=>q r w H' s' rw' wf (by omega)⟩
theorem zid:zaw ["kind","legs"] ["kind","legs"] (zak zdo):=⟨rfl,rfl,rfl,by decide+kernel,rfl,by decide+kernel,by decide+kernel⟩
theorem zhG (T:Txt K mg t):FnOk P w K mg base CX0 1 t.f_law_worth t.fd_law_worth ["kind","legs"] (sp_gw2 K):=by
 refine T.d_law_worth.F.okB zid (fun vs H Q E h=>?_) (fun cdv A outer s H vs Q E hr h=>?_)
 ·obtain ⟨x,p,ns,rfl,_⟩:=h
  rfl
 obtain ⟨x,p,ns,rfl,hS,b,lk,q⟩:=h
 refine ⟨_,(zad (zaP (zdt (zdu (zap zct (bpv 0) zau (zaB _)) (zdi (zap zct (bpv 0) zau (zaB _))))) (zag (zar (zbK zf7 rfl T.z_int yaq (zaa (zcs zct (bpv 0) zau (zaB _)) (zac))))) zax)
  (zad (zaP (zap zct (bpv 0) zau (zaB _)) (zag (zar (zan zc4 zae (zao zaR (bpv 1) zae (fun _ _=>rfl))))) zax)
  (zad (zaP (zap zct (bpv 0) zau (zaB _)) (zag (zar (zao zaR (bpv 1) (zan zc4 zae (zao zaR (bpv 1) zae (fun _ _=>rfl))) (fun _ _=>rfl)))) zax)
  (zad (zaP (zap zct (bpv 0) zau (zaB _)) (zag (zar (zbK zf7 rfl T.z_int yaq (zaa (zcs zhY zae (bpv 1) rfl) (zac))))) zax)
  (zad (zaP (zap zct (bpv 0) zau (zaB _)) (zag (zar (zbK zf7 rfl T.z_int yaq (zaa (zcs zf0 zae (bpv 1) rfl) (zac))))) zax)
  (zag (zar (zan zcD (zat (zmd rfl) rfl T.z_sum PyProof.Rows.boot_sum (zaa (bpv 1) (zac))) zae)))))))),?_⟩
 rcases lk with ⟨h | h | h,l1,l2⟩ | ⟨h,l1⟩ | ⟨h,l1⟩ | ⟨h | h,l1⟩
 ·subst h
  refine ⟨_,rfl,rfl,_,rfl,ifN (qR n_za) ⟨_,rfl,rfl,_,rfl,ifN (qR n_1a) ⟨_,rfl,rfl,_,rfl,ifN (qR n_na) ⟨_,rfl,rfl,_,rfl,ifN (qR n_ca) ⟨_,rfl,rfl,_,rfl,ifY rfl ⟨_,rfl,p,_,rfl,.inl hS,rfl,zhP ns,.inr ⟨_,rfl,?_⟩⟩⟩⟩⟩⟩⟩
  rw [← zn1 b] at q
  exact q
 ·subst h
  refine ⟨_,rfl,rfl,_,rfl,ifN (qR n_zo) ⟨_,rfl,rfl,_,rfl,ifN (qR n_1o) ⟨_,rfl,rfl,_,rfl,ifN (qR n_no) ⟨_,rfl,rfl,_,rfl,ifN (qR n_co) ⟨_,rfl,rfl,_,rfl,ifN n_oa ⟨_,rfl,rfl,_,rfl,ifY rfl ⟨_,rfl,p,_,rfl,.inl hS,rfl,zhP ns,.inr ⟨_,rfl,?_⟩⟩⟩⟩⟩⟩⟩⟩
  rw [← int_or] at q
  exact q
 ·subst h
  refine ⟨_,rfl,rfl,_,rfl,ifN (qR n_zd) ⟨_,rfl,rfl,_,rfl,ifN (qR n_1d) ⟨_,rfl,rfl,_,rfl,ifN (qR n_nd) ⟨_,rfl,rfl,_,rfl,ifN (qR n_cd) ⟨_,rfl,rfl,_,rfl,ifN n_da ⟨_,rfl,rfl,_,rfl,ifN n_do ⟨_,rfl,p,ns,rfl,hS,_,_,rfl,rfl,(by show (0:Int) < 2;decide),?_⟩⟩⟩⟩⟩⟩⟩
  rw [zjr] at q
  exact q
 ·subst h
  refine ⟨_,rfl,rfl,_,rfl,ifN (qR n_zn) ⟨_,rfl,rfl,_,rfl,ifN (qR n_1n) ⟨_,rfl,rfl,_,rfl,ifY rfl ⟨_,rfl,p,_,0,_,rfl,rfl,hS,zbw (kI 0) (by omega),_,_,rfl,rfl,?_⟩⟩⟩⟩
  rw [zjm] at q
  exact q
 ·subst h
  refine ⟨_,rfl,rfl,_,rfl,ifN (qR n_zc) ⟨_,rfl,rfl,_,rfl,ifN (qR n_1c) ⟨_,rfl,rfl,_,rfl,ifN n_cn ⟨_,rfl,rfl,_,rfl,ifY rfl ?_⟩⟩⟩⟩
  rw [zga] at q
  have b0:ns.getD 0 0=0∨ns.getD 0 0=1:=zbH b (by omega)
  have at2:atI (ns.map V.int) (2 - ns.getD (0:Int).toNat 0)=some (.int (if ns.getD 0 0=1 then ns.getD 1 0 else ns.getD 2 0)):=by
   rcases b0 with e | e
   ·rw [if_neg (by omega)]
    have e2:(2:Int) - ns.getD (0:Int).toNat 0=2:=by show 2 - ns.getD 0 0=2;omega
    rw [e2]
    exact zbw (by decide) (by rw [l1];decide)
   ·rw [if_pos e]
    have e2:(2:Int) - ns.getD (0:Int).toNat 0=1:=by show 2 - ns.getD 0 0=1;omega
    rw [e2]
    exact zbw (by decide) (by rw [l1];decide)
  exact ⟨_,rfl,_,rfl,p,_,0,_,rfl,rfl,hS,zbw (kI 0) (by omega),_,_,rfl,rfl,p,_,_,_,rfl,rfl,hS,at2,q⟩
 ·subst h
  rw [zij] at q
  exact ⟨_,rfl,rfl,_,rfl,ifY rfl (iteT ⟨_,rfl,rfl,.inr ⟨false,congrArg (fun z=>[V.bl z]) (decide_eq_false fun z=>n_z1 (V.str.inj z)),q⟩⟩)⟩
 ·subst h
  rw [zlI] at q
  exact ⟨_,rfl,rfl,_,rfl,ifN (qR n_z1) ⟨_,rfl,rfl,_,rfl,ifY rfl ⟨_,rfl,rfl,.inr ⟨true,congrArg (fun z=>[V.bl z]) (decide_eq_true rfl),q⟩⟩⟩⟩
theorem ziM:zaw ["works"] ["works"] (zak zdS):=⟨rfl,rfl,rfl,by decide+kernel,rfl,by decide+kernel,by decide+kernel⟩
theorem ziE (T:Txt K mg t):FnOk P w K mg base CX0 1 t.f_law_copy t.fd_law_copy ["works"] (sp_cpy K):=by
 refine T.d_law_copy.F.okB ziM (fun vs H Q E h=>?_) (fun cdv A outer s H vs Q E hr h=>?_)
 ·obtain ⟨x,w,rfl,_⟩:=h
  rfl
 obtain ⟨x,w,rfl,hx,wf,q⟩:=h
 obtain ⟨a,ga,oa,gs,os,rfl,ha,hg,ho,rg,ro⟩:=zbz hx
 refine ⟨_,(zag (zar (za0 (zaa (zao zay (bpv 0) zae (fun _ _=>rfl)) (zaa (zbK zdL rfl T.z_list vH (zaa (zao zay (bpv 0) zae (fun _ _=>rfl)) (zac))) (zaa (zbK zdL rfl T.z_list vH (zaa (zao zay (bpv 0) zae (fun _ _=>rfl)) (zac))) (zac))))))),?_⟩
 refine ⟨_,rfl,a,_,_,_,rfl,rfl,ha,rfl,_,rfl,a,_,_,_,rfl,rfl,ha,rfl,ga,_,rfl,.inl hg,fun l1 h1=>?_⟩
 have k1:=zaf h1 (.lst gs)
 refine ⟨_,rfl,a,_,_,_,rfl,rfl,k1.seqT ha,rfl,oa,_,rfl,.inl (k1.seq ho),fun l2 h2=>?_⟩
 have k2:=zaf h2 (.lst os)
 refine ⟨(by show 3≤yK;decide),fun l3 h3=>?_⟩
 have k3:=zaf h3 (.tup [.int w.ins,.ref l1,.ref l2])
 have s3:=(k1.trans k2).trans k3
 exact q l3 _ s3 (.tup (.of zab) (.cons (.int _) (.cons (.lst (.of ((k2.trans k3) _ _ zab)) (rg.mono s3)) (.cons (.lst (.of (k3 _ _ zab)) (ro.mono s3)) .nil))))
theorem za4:zaw ["inputs","found","k","longer_rows","row"] ["inputs"] (zak zcf):=⟨rfl,rfl,rfl,by decide+kernel,rfl,by decide+kernel,by decide+kernel⟩
theorem zdN (T:Txt K mg t):FnOk P w K mg base CX0 1 t.f_law_all_rows t.fd_law_all_rows ["inputs"] sp_lr:=by
 refine T.d_law_all_rows.F.okB za4 (fun vs H Q E h=>?_) (fun cdv A outer s H vs Q E hr h=>?_)
 ·obtain ⟨n,rfl,_⟩:=h
  rfl
 obtain ⟨n,rfl,i0,i6,q⟩:=h
 refine ⟨_,(zad (zal (k:=1) za4.nd rfl (Or.inl rfl) (zav (zaa (zav zac) (zac))))
  (zad (zaQ qH rfl (zaZ rfl T.z_range (zaa (bpv 0) (zac))) (zaj (k:=2) za4.nd rfl (Or.inl rfl)) (zad (zal (k:=3) za4.nd rfl (Or.inl rfl) (zav zac))
  (zad (zaQ qH rfl (zaH (bpv 1)) (zaj (k:=4) za4.nd rfl (Or.inl rfl)) (zag (zal (k:=3) za4.nd rfl (Or.inl rfl) (zan zcY (bpv 3) (zav (zaa (zan zcY (bpv 4) (zav (zaa zae (zac)))) (zaa (zan zcY (bpv 4) (zav (zaa zae (zac)))) (zac))))))))
  (zag (zal (k:=1) za4.nd rfl (Or.inl rfl) (bpv 3))))))
  (zag (zar (bpv 1))))),?_⟩
 refine ⟨(by show 0≤yK;decide),fun e0 he0=>⟨(by show 1≤yK;decide),fun R0 hR0=>?_⟩⟩
 have k0:=zaf he0 (.lst [])
 have k1:=zaf hR0 (.lst [.ref e0])
 refine ⟨_,rfl,_,rfl,by omega,by omega,zcA (fun j σ H3=>∃ (R:Addr) (qs:List Addr) (o2 o3 o4:Option V),σ = [some (.int n),some (.ref R),o2,o3,o4]∧Same H H3∧H3 R=some (.lst (qs.map V.ref))∧At H3 qs (zaT j))
  ⟨R0,[e0],_,_,_,rfl,k0.trans k1,zab,.cons (k1 _ _ zab) .nil⟩ ?_ ?_⟩
 ·rintro i σ H3 hi ⟨R,qs,o2,o3,o4,rfl,s3,eR,at3⟩
  have few:(zaT i).length≤64:=ziT (by omega)
  have lq:=at3.len
  have two:∀ rs:List (List Int),(rs.flatMap (fun r=>[r++ [0],r++ [1]])).length=2 * rs.length:=fun rs=>by
   induction rs with
   | nil=>rfl
   | cons r rs ih=>simp only [yaj,yI,jE,vD,ih];omega
  refine ⟨(by show 0≤yK;decide),fun L hL=>?_⟩
  have kL:=zaf hL (.lst [])
  refine ⟨_,rfl,R,rfl,⟨_,.of (kL _ _ eR)⟩,zce (K:=K) (a:=R) (xs:=qs.map V.ref) (fun j σ H4=>∃ (M:Addr) (ps:List Addr) (o4:Option V),σ = [some (.int n),some (.ref R),some (.int (0+(i:Int))),some (.ref M),o4]∧Same H3 H4∧H4 M=some (.lst (ps.map V.ref))∧At H4 ps (((zaT i).take j).flatMap (fun r=>[r++ [0],r++ [1]])))
   ⟨L,[],_,rfl,kL,zab,.nil⟩ (fun j σ H4 _ ⟨_,_,_,_,s4,_⟩=>.of (s4 _ _ eR)) ?_ ?_⟩
  ·rintro j y σ H4 hy ⟨M,ps,o4',rfl,s4,eM,at4⟩
   rw [yJ] at hy
   cases hz:qs[j]? with
   | none=>rw [hz] at hy;cases hy
   | some qa=>
    rw [hz] at hy
    cases hy
    obtain ⟨row,hrow,hqa⟩:=at3.get hz
    have lr:=(zcl i row (yH hrow)).1
    have lp:=at4.len
    rw [two,yU] at lp
    have lj:j < qs.length:=(yE.mp hz).1
    have et:(zaT i).take (j+1)=(zaT i).take j++ [row]:=by rw [yR,hrow];rfl
    have q4:=s4 _ _ hqa
    refine ⟨_,rfl,_,rfl,(by show 1≤yK;decide),fun a1 h1=>?_⟩
    have j1:=zaf h1 (.lst [.int 0])
    refine ⟨qa,a1,_,_,rfl,rfl,j1 _ _ q4,zab,bigE (by rw [yB,qC];omega),fun b1 h2=>?_⟩
    have j2:=zaf h2 (.lst (row.map V.int++ [.int 0]))
    refine ⟨_,rfl,(by show 1≤yK;decide),fun a2 h3=>?_⟩
    have j3:=zaf h3 (.lst [.int 1])
    refine ⟨qa,a2,_,_,rfl,rfl,((j1.trans j2).trans j3) _ _ q4,zab,bigE (by rw [yB,qC];omega),fun b2 h4=>?_⟩
    have j4:=zaf h4 (.lst (row.map V.int++ [.int 1]))
    refine ⟨(by show 2≤yK;decide),fun l5 h5=>?_⟩
    have j5:=zaf h5 (.lst [.ref b1,.ref b2])
    have jj:=(((j1.trans j2).trans j3).trans j4).trans j5
    refine ⟨M,l5,_,_,rfl,rfl,jj _ _ eM,zab,bigE (by rw [yB];show ps.length+2≤100000;omega),fun R2 h6=>?_⟩
    have j6:=zaf h6 (.lst (ps.map V.ref++ [.ref b1,.ref b2]))
    refine ⟨R2,ps++ [b1,b2],_,rfl,(s4.trans jj).trans j6,by rw [zab,yN];rfl,?_⟩
    rw [et,vE]
    refine (at4.mono (jj.trans j6)).append ?_
    have eb1:=((((j3.trans j4).trans j5).trans j6) _ _ (zab (a:=b1) (o:=.lst (row.map V.int++ [.int 0]))))
    have eb2:=((j5.trans j6) _ _ (zab (a:=b2) (o:=.lst (row.map V.int++ [.int 1]))))
    refine .cons ?_ (.cons ?_ .nil)
    ·rw [yN];exact eb1
    ·rw [yN];exact eb2
  ·rintro σ H4 ⟨M,ps,o4',rfl,s4,eM,at4⟩
   refine ⟨_,rfl,M,ps,_,_,_,rfl,s3.trans s4,eM,?_⟩
   rw [yB,lq,yV] at at4
   rw [zf9]
   exact at4
 ·rintro σ H3 ⟨R,qs,o2,o3,o4,rfl,s3,eR,at3⟩
  exact ⟨_,rfl,q R qs H3 s3 eR at3⟩
theorem zbj:zaw ["works","found","wire","g","p"] ["works"] (zak zcR):=⟨rfl,rfl,rfl,by decide+kernel,rfl,by decide+kernel,by decide+kernel⟩
theorem zhb (T:Txt K mg t):FnOk P w K mg base CX0 1 t.f_law_faults t.fd_law_faults ["works"] (sp_lf K):=by
 refine T.d_law_faults.F.okB zbj (fun vs H Q E h=>?_) (fun cdv A outer s H vs Q E hr h=>?_)
 ·obtain ⟨x,w,rfl,_⟩:=h
  rfl
 obtain ⟨x,w,rfl,hx,wf,q⟩:=h
 obtain ⟨a,ga,oa,gs,os,rfl,ha,hg,ho,rg,ro⟩:=zbz hx
 have lg:gs.length=w.gates.length:=by rw [rg.length,yB]
 have i1:=wf.i1
 have i6:=wf.i6
 have few:=wf.few
 have lf:=zcc wf
 refine ⟨_,(zad (zal (k:=1) zbj.nd rfl (Or.inl rfl) (zav zac))
  (zad (zaQ qH rfl (zaZ rfl T.z_range (zaa (zan zbM (zao zay (bpv 0) zae (fun _ _=>rfl)) (zat zaq rfl T.z_len qL (zaa (zao zay (bpv 0) zae (fun _ _=>rfl)) (zac)))) (zac))) (zaj (k:=2) zbj.nd rfl (Or.inl rfl)) (zag (zal (k:=1) zbj.nd rfl (Or.inl rfl) (zan zcY (bpv 1) (zav (zaa (za0 (zaa zau (zaa (bpv 2) (zaa zae (zac))))) (zaa (za0 (zaa zau (zaa (bpv 2) (zaa zae (zac))))) (zac))))))))
  (zad (zaQ qH rfl (zaZ rfl T.z_range (zaa (zat zaq rfl T.z_len qL (zaa (zao zay (bpv 0) zae (fun _ _=>rfl)) (zac))) (zac))) (zaj (k:=3) zbj.nd rfl (Or.inl rfl)) (zag (zaQ qH rfl (zaZ rfl T.z_range (zaa (zat zaq rfl T.z_len qL (zaa (zao zay (zao zaR (zao zay (bpv 0) zae (fun _ _=>rfl)) (bpv 3) (fun _ _=>rfl)) zae (fun _ _=>rfl)) (zac))) (zac))) (zaj (k:=4) zbj.nd rfl (Or.inl rfl)) (zag (zal (k:=1) zbj.nd rfl (Or.inl rfl) (zan zcY (bpv 1) (zav (zaa (za0 (zaa zau (zaa (bpv 3) (zaa (bpv 4) (zaa zae (zac)))))) (zaa (za0 (zaa zau (zaa (bpv 3) (zaa (bpv 4) (zaa zae (zac)))))) (zac))))))))))
  (zag (zar (bpv 1)))))),?_⟩
 refine ⟨(by show 0≤yK;decide),fun R hR=>?_⟩
 have k0:=zaf hR (.lst [])
 refine ⟨_,rfl,a,_,_,_,rfl,rfl,k0.seqT ha,rfl,_,rfl,a,_,_,_,rfl,rfl,k0.seqT ha,rfl,ga,_,rfl,.inl (k0.seq hg),_,_,rfl,rfl,_,rfl,by omega,by omega,zdT (fun i σ H3=>∃ (r:Addr) (xs:List V) (o2:Option V),σ = [some (.ref a),some (.ref r),o2,none,none]∧(Same H H3∧H r=none)∧H3 r=some (.lst xs)∧FAll H3 xs (zeQ (zcS i)))
  ⟨R,[],_,rfl,⟨k0,hR⟩,zab,.nil⟩ ?_ ?_⟩
 ·rintro i σ H3 E1 hi hE ⟨r,xs,o2,rfl,⟨s3,nr⟩,er,fa⟩
  have lx:xs.length≤400:=by
   have l1:=yX fa
   have e2:∀ n,(zeQ (zcS n)).length=2 * n:=fun n=>by
    induction n with
    | zero=>rfl
    | succ n ih=>rw [zcS,zeh,yI,ih];show 2 * n+2=_;omega
   rw [e2] at l1
   omega
  refine ⟨_,rfl,_,rfl,(by show 3≤yK;decide),fun T1 h1=>?_⟩
  have j1:=zaf h1 (.tup [.str "wire",.int i,.int 0])
  refine ⟨_,rfl,(by show 3≤yK;decide),fun T2 h2=>?_⟩
  have j2:=zaf h2 (.tup [.str "wire",.int i,.int 1])
  refine ⟨(by show 2≤yK;decide),fun L h3=>?_⟩
  have j3:=zaf h3 (.lst [.ref T1,.ref T2])
  have jj:=(j1.trans j2).trans j3
  refine ⟨r,L,_,_,rfl,rfl,jj _ _ er,zab,bigE (by show xs.length+2≤100000;omega),fun R2 h4=>?_⟩
  have j4:=zaf h4 (.lst (xs++ [.ref T1,.ref T2]))
  refine hE _ _ ⟨R2,xs++ [.ref T1,.ref T2],_,rfl,⟨(s3.trans jj).trans j4,(s3.trans jj).free h4⟩,zab,?_⟩
  rw [zcS,zeh]
  exact FAll.two (fa.mono (jj.trans j4)) (((j2.trans j3).trans j4) _ _ zab) ((j3.trans j4) _ _ zab)
 rintro σ H1 ⟨r,xs,o2,rfl,⟨s1,nr⟩,er,fa⟩
 have e2:(w.ins+(gs.length:Int)).toNat=w.ins.toNat+w.gates.length:=by omega
 rw [e2] at fa
 refine ⟨_,rfl,a,_,_,_,rfl,rfl,s1.seqT ha,rfl,ga,_,rfl,.inl (s1.seq hg),_,rfl,by omega,by omega,zdT (fun i σ H3=>∃ (r:Addr) (xs:List V) (o3 o4:Option V),σ = [some (.ref a),some (.ref r),o2,o3,o4]∧(Same H H3∧H r=none)∧H3 r=some (.lst xs)∧FAll H3 xs (zeQ (zcS (w.ins.toNat+w.gates.length)++zea w.gates i)))
  ⟨r,xs,_,_,rfl,⟨s1,nr⟩,er,by rw [show zea w.gates 0= [] from rfl,jH];exact fa⟩ ?_ ?_⟩
 ·rintro i σ H3 E1 hi hE ⟨r,xs,o3,o4,rfl,⟨s3,nr⟩,er,fa⟩
  obtain ⟨g,hgk⟩:∃ g,w.gates[i]? =some g:=⟨_,yF (by omega)⟩
  obtain ⟨v,hv,rv⟩:=rg.getD (i:=i) (d:=zf8 g) (by rw [yJ,hgk];rfl)
  obtain ⟨a1,la,rfl,hA,hL⟩:=zhc rv
  have lk:=(wf.legs i g hgk).1.le
  refine ⟨_,rfl,a,_,_,_,rfl,rfl,s3.seqT ha,rfl,_,rfl,ga,_,_,_,rfl,rfl,s3.seq hg,zdH hv,a1,_,_,_,rfl,rfl,s3.seqT hA,rfl,la,_,rfl,.inr (s3.seqT hL),_,rfl,by omega,by rw [yB];omega,zdT (fun j σ H4=>∃ (r:Addr) (xs:List V) (o4:Option V),σ = [some (.ref a),some (.ref r),o2,some (.int i),o4]∧(Same H H4∧H r=none)∧H4 r=some (.lst xs)∧FAll H4 xs (zeQ (zcS (w.ins.toNat+w.gates.length)++zea w.gates i++zg1 i j)))
   ⟨r,xs,_,rfl,⟨s3,nr⟩,er,by rw [show zg1 (i:Int) 0= [] from rfl,jH];exact fa⟩ ?_ ?_⟩
  ·rintro j σ H4 E2 hj hE2 ⟨r,xs,o4,rfl,⟨s4,nr⟩,er,fa⟩
   have lx:xs.length≤4000:=by
    have l1:=yX fa
    have g1:=zda wf i
    have g2:=congrArg wI (zg9 w.gates i)
    have g3:=congrArg wI (ziH (i:Int) j)
    rw [yB] at g2 g3 hj
    rw [zgL,yI,yI,zjC,g2,g3,zeB] at l1
    omega
   refine ⟨_,rfl,_,rfl,_,rfl,(by show 4≤yK;decide),fun T1 h1=>?_⟩
   have j1:=zaf h1 (.tup [.str "leg",.int i,.int j,.int 0])
   refine ⟨_,rfl,_,rfl,(by show 4≤yK;decide),fun T2 h2=>?_⟩
   have j2:=zaf h2 (.tup [.str "leg",.int i,.int j,.int 1])
   refine ⟨(by show 2≤yK;decide),fun L h3=>?_⟩
   have j3:=zaf h3 (.lst [.ref T1,.ref T2])
   have jj:=(j1.trans j2).trans j3
   refine ⟨r,L,_,_,rfl,rfl,jj _ _ er,zab,bigE (by show xs.length+2≤100000;omega),fun R2 h4=>?_⟩
   have j4:=zaf h4 (.lst (xs++ [.ref T1,.ref T2]))
   refine hE2 _ _ ⟨R2,xs++ [.ref T1,.ref T2],_,rfl,⟨(s4.trans jj).trans j4,(s4.trans jj).free h4⟩,zab,?_⟩
   rw [zg1,← xL,zeh]
   exact FAll.two (fa.mono (jj.trans j4)) (((j2.trans j3).trans j4) _ _ zab) ((j3.trans j4) _ _ zab)
  ·rintro σ H4 ⟨r,xs,o4,rfl,⟨s4,nr⟩,er,fa⟩
   refine hE _ _ ⟨r,xs,_,_,rfl,⟨s4,nr⟩,er,?_⟩
   have e3:((g.2.map V.int).length:Int).toNat=g.2.length:=by rw [yB];omega
   rw [e3] at fa
   rw [zea,hgk,← xL]
   exact fa
 ·rintro σ H3 ⟨r,xs,o3,o4,rfl,⟨s3,nr⟩,er,fa⟩
  have e3:((gs.length:Nat):Int).toNat=w.gates.length:=by omega
  rw [e3] at fa
  exact ⟨_,rfl,q r xs H3 s3 nr er fa⟩
theorem zbl:zaw ["works","fault","row","worths","wire","worth","some","kind","legs"] ["works","fault","row"] (zak zdY):=⟨rfl,rfl,rfl,by decide+kernel,rfl,by decide+kernel,by decide+kernel⟩
theorem zfV (T:Txt K mg t):FnOk P w K mg base CX0 2 t.f_law_outs t.fd_law_outs ["works","fault","row"] (sp_lou K):=by
 refine T.d_law_outs.F.okB zbl (fun vs H Q E h=>?_) (fun cdv A outer s H vs Q E hr h=>?_)
 ·obtain ⟨x,b,p,w,fs,row,rfl,_⟩:=h
  rfl
 obtain ⟨x,b,p,w,fs,row,rfl,hx,wf,fc,hS,hl,bits,q⟩:=h
 obtain ⟨a,ga,oa,gs,os,rfl,ha,hg,ho,rg,ro⟩:=zbz hx
 have lg:gs.length=w.gates.length:=by rw [rg.length,yB]
 have i1:=wf.i1
 have i6:=wf.i6
 have few:=wf.few
 refine ⟨_,(zad (zal (k:=3) zbl.nd rfl (Or.inr rfl) (zav zac))
  (zad (zaQ qH rfl (zaZ rfl T.z_range (zaa (zan zbM (zao zay (bpv 0) zae (fun _ _=>rfl)) (zat zaq rfl T.z_len qL (zaa (zao zay (bpv 0) zae (fun _ _=>rfl)) (zac)))) (zac))) (zaj (k:=4) zbl.nd rfl (Or.inl rfl)) (zad (zaP (zap zlo (bpv 4) (zao zay (bpv 0) zae (fun _ _=>rfl)) (zaB _)) (zag (zal (k:=5) zbl.nd rfl (Or.inl rfl) (zao zaR (bpv 2) (bpv 4) (fun _ _=>rfl)))) (zad (zlW (zao zaR (zao zay (bpv 0) zae (fun _ _=>rfl)) (zan zc4 (bpv 4) (zao zay (bpv 0) zae (fun _ _=>rfl))) (fun _ _=>rfl)) (zdz rfl (zaD (zaj (k:=7) zbl.nd rfl (Or.inl rfl)) (zaD (zaj (k:=8) zbl.nd rfl (Or.inl rfl)) zbI))))
  (zad (zdn (k:=6) rfl (N:=["leg","worths"]) (n:=1) (cap:=[3]) (za5 rfl rfl) zbl.nd rfl rfl (zin (bpv 8)) (zaz (by decide)) (fun _ _ _ _=>(zaj (k:=0) (show (["leg","worths"]:List Str).Nodup by decide+kernel) rfl (Or.inl rfl))) (fun _ _ _ _=>zaN) (fun _ _ _ _=>(zao (zcU (K:=K)) (bpv 1) (bpv 0) (fun _ _=>rfl))) rfl)
  (zad (zaP (zdt (zir (zap zct (zao zay (bpv 1) zae (fun _ _=>rfl)) zau (zaB _)) (zhq (zap zct (zao zay (bpv 1) zae (fun _ _=>rfl)) (zan zc4 (bpv 4) (zao zay (bpv 0) zae (fun _ _=>rfl))) (zaB _))))) (zag (zlW (zao zay (bpv 1) zae (fun _ _=>rfl)) (zoT (bpv 6) (zao zay (bpv 1) zae (fun _ _=>rfl)) znn))) zax)
  (zag (zal (k:=5) zbl.nd rfl (Or.inl rfl) (zam (zhG T) (hr.mono (by decide)) rfl T.d_law_worth.m T.d_law_worth.F.kp T.d_law_worth.b .nil zaK (zaa (bpv 7) (zaa (bpv 6) (zac))))))))))
  (zad (zaP (zdt (zir (zap zct (zao zay (bpv 1) zae (fun _ _=>rfl)) zau (zaB _)) (zhq (zap zct (zao zay (bpv 1) zae (fun _ _=>rfl)) (bpv 4) (zaB _))))) (zag (zal (k:=5) zbl.nd rfl (Or.inl rfl) (zao zay (bpv 1) zae (fun _ _=>rfl)))) zax)
  (zag (zbm (zds qS jC jD zbv (bpv 3) (zaa (bpv 5) (zac))))))))
  (zag (zar (zaM rfl (N:=["wire","worths"]) (n:=1) (cap:=[3]) (za5 rfl rfl) (zaH (zao zay (bpv 0) zae (fun _ _=>rfl))) (zaz (by decide)) (fun _ _ _ _=>(zaj (k:=0) (show (["wire","worths"]:List Str).Nodup by decide+kernel) rfl (Or.inl rfl))) (fun _ _ _ _=>zaN) (fun _ _ _ _=>(zao (zcU (K:=K)) (bpv 1) (bpv 0) (fun _ _=>rfl)))))))),?_⟩
 obtain ⟨W,eW⟩:∃ W,zaV fs w.gates row w.gates.length=W:=⟨_,rfl⟩
 have lW:W.length=row.length+w.gates.length:=by rw [← eW];exact zbN _ _ _ _
 have bW:Bits W:=by rw [← eW];exact zdk fc.bits wf hl bits _ (yL _)
 refine ⟨(by show 0≤yK;decide),fun r hr1=>?_⟩
 have k0:=zaf hr1 (.lst [])
 refine ⟨_,rfl,a,_,_,_,rfl,rfl,k0.seqT ha,rfl,_,rfl,a,_,_,_,rfl,rfl,k0.seqT ha,rfl,ga,_,rfl,.inl (k0.seq hg),_,_,rfl,rfl,_,rfl,by omega,by omega,zdT (fun i σ H3=>∃ (o4 o5 o6 o7 o8:Option V),σ = [some (.ref a),some (.ref b),some (.ref p),some (.ref r),o4,o5,o6,o7,o8]∧Same H H3∧H3 r=some (.lst ((W.take i).map V.int)))
  ⟨_,_,_,_,_,rfl,k0,zab⟩ ?_ ?_⟩
 ·rintro i σ H3 E1 hi hE ⟨o4,o5,o6,o7,o8,rfl,s3,er⟩
  have li:i < W.length:=by omega
  have lt:(W.take i).length=i:=by rw [yU];omega
  refine' joinX (α :=Int×Option V×Option V×Option V) (C:=fun v H9=>Same H3 H9∧W[i]? =some (pick fs (zbn i) v.1)) (st:=fun v=>[some (.ref a),some (.ref b),some (.ref p),some (.ref r),some (.int i),some (.int v.1),v.2.1,v.2.2.1,v.2.2.2]) (fun rest=>_) _
  rotate_left
  ·refine ⟨_,rfl,_,rfl,a,_,_,_,rfl,rfl,s3.seqT ha,rfl,_,_,rfl,rfl,_,rfl,ite2 (fun c=>?_) (fun c=>?_)⟩
   ·have c':(i:Int) < w.ins:=of_decide_eq_true c
    have lr:i < row.length:=by omega
    refine ⟨_,rfl,_,rfl,p,_,_,_,rfl,rfl,s3.seq hS,zbw (by omega) (by omega),rest (row.getD i 0,o6,o7,o8) H3 ⟨Same.refl _,?_⟩⟩
    rw [← eW]
    exact W_in fs w.gates row lr _
   ·have c':¬(i:Int) < w.ins:=fun z=>c (decide_eq_true z)
    obtain ⟨k,ek⟩:∃ k:Nat,i=row.length+k:=⟨i - row.length,by omega⟩
    have hk:k < w.gates.length:=by omega
    obtain ⟨g,hgk⟩:∃ g,w.gates[k]? =some g:=⟨_,yF hk⟩
    obtain ⟨v,hv,rv⟩:=rg.getD (i:=k) (d:=zf8 g) (by rw [yJ,hgk];rfl)
    obtain ⟨a1,la,rfl,hA,hL⟩:=zhc rv
    obtain ⟨lk,lb⟩:=wf.legs k g hgk
    have lb':∀ l∈g.2,0≤l∧l < ((row.length+k:Nat):Int):=fun l hl'=>by have:=lb l hl';omega
    have l4:=lk.le
    have ed:(i:Int) - w.ins=(k:Int):=by omega
    obtain ⟨ws,ews⟩:∃ ws:List Int,(g.2.map fun l=>W.getD l.toNat 0)=ws:=⟨_,rfl⟩
    have lws:ws.length=g.2.length:=by rw [← ews,yB]
    have bws:Bits ws:=fun z hz=>by
     rw [← ews] at hz
     obtain ⟨l,hl',rfl⟩:=qE.mp hz
     exact zbH bW (by rw [lW];have:=lb' l hl';omega)
    have fin:W[i]? =some (pick fs (zbn i) (zbS g.1 (zb0 fs k ws))):=by
     rw [ek,← ews,← eW]
     exact znq fs hgk hk lb'
    refine ⟨_,rfl,a,_,_,_,rfl,rfl,s3.seqT ha,rfl,_,rfl,_,rfl,a,_,_,_,rfl,rfl,s3.seqT ha,rfl,_,_,rfl,rfl,ga,_,_,_,rfl,rfl,s3.seq hg,by rw [ed];exact zdH hv,a1,_,rfl,s3.seqT hA,rfl,_,_,rfl,_,_,rfl,rfl,?_⟩
    refine ⟨_,rfl,la,rfl,⟨_,s3.seqT hL⟩,fun D hD=>zjs (K:=K) (a:=la) (xs:=g.2.map V.int) (fun j H5=>Off [D] H3 H5∧H5 D=some (.lst ((ws.take j).map V.int)))
     ⟨Off.start hD _,zab⟩ (fun j H5 _ ⟨off,_⟩=>(s3.trans off.same).seqT hL) ?_ ?_⟩
    ·rintro j y H5 hy ⟨off,eD⟩
     rw [yJ] at hy
     cases hz:g.2[j]? with
     | none=>rw [hz] at hy;cases hy
     | some l=>
      rw [hz] at hy
      cases hy
      have bl:=lb' l (yH hz)
      have lj:j < g.2.length:=(yE.mp hz).1
      have ewj:ws[j]? =some (W.getD l.toNat 0):=by rw [← ews,yJ,hz];rfl
      have eg:(W.take i).getD l.toNat 0=W.getD l.toNat 0:=by
       rw [yM,yM,yaU (by omega)]
      refine ⟨_,rfl,_,rfl,r,_,_,_,rfl,rfl,.of (off.same _ _ er),zbw bl.1 (by rw [lt];omega),_,eD,big (by rw [yB,yU];omega),off.write (.head _) _,?_⟩
      rw [zab,yR,ewj,eg]
      simp
    rintro H5 ⟨off,eD⟩
    rw [yB,← lws,yV] at eD
    have rD:r≠D:=zai er hD
    have s35:=s3.trans off.same
    refine' joinP (C:=fun H6=>Off [D] H3 H6∧H6 D=some (.lst ((zb0 fs k ws).map V.int))) (fun rest2=>_) _
    rotate_left
    ·rcases fc with ⟨e1,c1⟩ | ⟨i0,u,e1,d1,c1⟩ | ⟨g0,p0,u,gt,e1,d1,e2,f2,c1⟩
     ·subst e1
      refine ⟨_,rfl,b,_,_,_,rfl,rfl,s35.seqT c1,rfl,rfl,_,rfl,ifN (by decide+kernel) ?_⟩
      exact iteF (rest2 H5 ⟨off,by rw [zh4];exact eD⟩)
     ·subst e1
      refine ⟨_,rfl,b,_,_,_,rfl,rfl,s35.seqT c1,rfl,rfl,_,rfl,ifN (by decide+kernel) ?_⟩
      exact iteF (rest2 H5 ⟨off,by rw [zk2 (fun i=>by simp [zbn,legK])];exact eD⟩)
     ·subst e1
      refine ⟨_,rfl,b,_,_,_,rfl,rfl,s35.seqT c1,rfl,rfl,_,rfl,ifY rfl ?_⟩
      refine ⟨_,rfl,b,_,_,_,rfl,rfl,s35.seqT c1,rfl,_,rfl,_,rfl,a,_,_,_,rfl,rfl,s35.seqT ha,rfl,_,_,rfl,rfl,rfl,_,rfl,ite2 (fun c2=>?_) (fun c2=>?_)⟩
      ·have c3:(g0:Int)=(i:Int) - w.ins:=V.int.inj (of_decide_eq_true c2)
       have:g0=k:=by omega
       subst this
       rw [hgk] at e2
       cases e2
       refine ⟨_,rfl,b,_,_,_,rfl,rfl,s35.seqT c1,rfl,_,rfl,_,rfl,b,_,_,_,rfl,rfl,s35.seqT c1,rfl,D,_,_,p0,rfl,rfl,eD,?_,?_⟩
       ·unfold ixN
        rw [if_pos (by omega),if_pos (by rw [yB];omega),jM]
       ·refine rest2 _ ⟨off.write (.head _) _,?_⟩
        rw [zab,zna ws (by omega),List.map_set]
      ·have c3:¬(g0:Int)=(i:Int) - w.ins:=fun z=>c2 (decide_eq_true (by rw [z]))
       refine rest2 H5 ⟨off,?_⟩
       rw [zk2 (fun z e=>c3 (by
        have:(g0:Int)=(k:Int):=by simp [legK] at e;omega
        omega))]
       exact eD
    ·rintro H6 ⟨off6,eD6⟩
     have s36:=s3.trans off6.same
     have bl6:Bits (zb0 fs k ws):=ze3 fc.bits bws
     refine ⟨_,rfl,_,rfl,g.1,D,_,rfl,.of eD6,bl6,by rw [zdK,lws];exact lk,?_⟩
     exact rest (zbS g.1 (zb0 fs k ws),some (.ref D),some (.str g.1),some (.ref la)) H6 ⟨off6.same,fin⟩
  ·rintro ⟨x5,y6,y7,y8⟩ H9 ⟨s9,eWi⟩
   have s39:=s3.trans s9
   have er9:=s9 _ _ er
   refine' zoh (C:=fun v=>v= .int (pick fs (zbn i) x5)) (st:=fun v=>[some (.ref a),some (.ref b),some (.ref p),some (.ref r),some (.int i),some v,y6,y7,y8]) (H:=H9) (fun rest=>_) _
   rotate_left
   ·rcases fc with ⟨e1,c1⟩ | ⟨i0,u,e1,d1,c1⟩ | ⟨g0,p0,u,gt,e1,d1,e2,f2,c1⟩
    ·subst e1
     refine ⟨_,rfl,b,_,_,_,rfl,rfl,s39.seqT c1,rfl,rfl,_,rfl,ifN (by decide+kernel) ?_⟩
     exact iteF (rest (.int x5) (by rw [zi8]))
    ·subst e1
     refine ⟨_,rfl,b,_,_,_,rfl,rfl,s39.seqT c1,rfl,rfl,_,rfl,ifY rfl ?_⟩
     refine ⟨_,rfl,b,_,_,_,rfl,rfl,s39.seqT c1,rfl,_,rfl,rfl,_,rfl,ite2 (fun c2=>?_) (fun c2=>?_)⟩
     ·have c3:(i0:Int)=(i:Int):=V.int.inj (of_decide_eq_true c2)
      refine ⟨_,rfl,b,_,_,_,rfl,rfl,s39.seqT c1,rfl,rest (.int u) ?_⟩
      rw [c3,zfG]
     ·have c3:¬(i0:Int)=(i:Int):=fun z=>c2 (decide_eq_true (by rw [z]))
      refine rest (.int x5) ?_
      unfold pick
      rw [zen,if_neg (fun e=>c3 (by simp [zbn] at e;omega))]
      rfl
    ·subst e1
     refine ⟨_,rfl,b,_,_,_,rfl,rfl,s39.seqT c1,rfl,rfl,_,rfl,ifN (by decide+kernel) ?_⟩
     exact iteF (rest (.int x5) (by rw [zl6]))
   ·rintro _ rfl
    refine ⟨_,rfl,.inl ⟨rfl,_,.of er9⟩,_,rfl,r,_,_,rfl,rfl,er9,big (by rw [yB,lt];omega),hE _ _ ⟨_,_,_,_,_,rfl,s39.write hr1 _,?_⟩⟩
    rw [zab,yR,eWi,yN]
    rfl
 ·rintro σ H3 ⟨o4,o5,o6,o7,o8,rfl,s3,er⟩
  have eo:=zeJ ro
  subst eo
  have et:W.take (w.ins+((gs.length:Nat):Int)).toNat=W:=xD (by omega)
  rw [et] at er
  refine ⟨_,rfl,a,_,_,_,rfl,rfl,s3.seqT ha,rfl,oa,rfl,⟨_,s3.seq ho⟩,fun D hD=>zaO (K:=K) (a:=oa) (xs:=w.outs.map V.int) (fun j H5=>Off [D] H3 H5∧H5 D=some (.lst (((w.outs.take j).map fun o=>W.getD o.toNat 0).map V.int)))
   ⟨Off.start hD _,zab⟩ (fun j H5 _ ⟨off,_⟩=>(s3.trans off.same).seq ho) ?_ ?_⟩
  ·rintro j y H5 hy ⟨off,eD⟩
   rw [yJ] at hy
   cases hz:w.outs[j]? with
   | none=>rw [hz] at hy;cases hy
   | some o=>
    rw [hz] at hy
    cases hy
    have bo:=wf.outs o (yH hz)
    have lj:j < w.outs.length:=(yE.mp hz).1
    have o3':=wf.o3
    refine ⟨_,rfl,_,rfl,r,_,_,_,rfl,rfl,.of (off.same _ _ er),zbw bo.1 (by omega),_,eD,big (by rw [yB,yB,yU];omega),off.write (.head _) _,?_⟩
    rw [zab,yR,hz]
    simp
  ·rintro H5 ⟨off,eD⟩
   rw [yB,yV] at eD
   exact q D H5 (s3.trans off.same) (s3.free hD) (by rw [eD];unfold zel;rw [eW])
theorem zcb:zaw ["works","rows","found","fault"] ["works"] (zak zcq):=⟨rfl,rfl,rfl,by decide+kernel,rfl,by decide+kernel,by decide+kernel⟩
theorem zgx (T:Txt K mg t):FnOk P w K mg base CX0 3 t.f_law_answers t.fd_law_answers ["works"] (sp_la K):=by
 refine T.d_law_answers.F.okB zcb (fun vs H Q E h=>?_) (fun cdv A outer s H vs Q E hr h=>?_)
 ·obtain ⟨x,w,rfl,_⟩:=h
  rfl
 obtain ⟨x,w,rfl,hx,wf,q⟩:=h
 obtain ⟨a,ga,oa,gs,os,rfl,ha,hg,ho,rg,ro⟩:=zbz hx
 have i1:=wf.i1
 have i6:=wf.i6
 have lf:=zcc wf
 have many:=zaS w.ins.toNat
 have h64:=pow6 (n:=w.ins.toNat) (by omega)
 refine ⟨_,(zad (zal (k:=1) zcb.nd rfl (Or.inl rfl) (zam (zdN T) (hr.mono (by decide)) rfl T.d_law_all_rows.m T.d_law_all_rows.F.kp T.d_law_all_rows.b .nil zaK (zaa (zao zay (bpv 0) zae (fun _ _=>rfl)) (zac))))
  (zad (zal (k:=2) zcb.nd rfl (Or.inl rfl) (zav (zaa (za0 (zaa (za0 (zaa zau (zac))) (zaa (zaM rfl (N:=["row","works"]) (n:=1) (cap:=[0]) (za5 rfl rfl) (zaH (bpv 1)) (zaz (by decide)) (fun _ _ _ _=>(zaj (k:=0) (show (["row","works"]:List Str).Nodup by decide+kernel) rfl (Or.inl rfl))) (fun _ _ _ _=>zaN) (fun _ _ _ _=>(zam (zfV T) (hr.mono (by decide)) rfl T.d_law_outs.m T.d_law_outs.F.kp T.d_law_outs.b .nil zaK (zaa (bpv 1) (zaa (za0 (zaa zau (zac))) (zaa (bpv 0) (zac))))))) (zac)))) (zac))))
  (zad (zaQ qH rfl (zaH (zam (zhb T) (hr.mono (by decide)) rfl T.d_law_faults.m T.d_law_faults.F.kp T.d_law_faults.b .nil zaK (zaa (bpv 0) (zac)))) (zaj (k:=3) zcb.nd rfl (Or.inr rfl)) (zag (zbm (zds qS jC jD zbv (bpv 2) (zaa (za0 (zaa (bpv 3) (zaa (zaM rfl (N:=["row","works","fault"]) (n:=1) (cap:=[0,3]) (za5 rfl rfl) (zaH (bpv 1)) (zaz (by decide)) (fun _ _ _ _=>(zaj (k:=0) (show (["row","works","fault"]:List Str).Nodup by decide+kernel) rfl (Or.inl rfl))) (fun _ _ _ _=>zaN) (fun _ _ _ _=>(zam (zfV T) (hr.mono (by decide)) rfl T.d_law_outs.m T.d_law_outs.F.kp T.d_law_outs.b .nil zaK (zaa (bpv 1) (zaa (bpv 2) (zaa (bpv 0) (zac))))))) (zac)))) (zac))))))
  (zag (zar (bpv 2)))))),?_⟩
 refine ⟨_,rfl,a,_,_,_,rfl,rfl,ha,rfl,w.ins,rfl,by omega,i6,fun R qs H1 s1 eR at1=>?_⟩
 have lq:=at1.len
 refine ⟨(by show 1≤yK;decide),fun B hB=>?_⟩
 have k2:=zaf hB (.tup [.str "well"])
 generalize upd H1 B (.tup [.str "well"])=H2 at k2
 have s2:=s1.trans k2
 have lm:∀ fs,(zbb w fs).length=(qs.map V.ref).length:=fun fs=>by unfold zbb;rw [yB,yB];exact lq.symm
 refine ⟨_,rfl,R,rfl,⟨_,.of (k2 _ _ eR)⟩,fun D hD=>zaO (K:=K) (a:=R) (xs:=qs.map V.ref)
  (fun i H4=>∃ xs,Off [D] H2 H4∧H4 D=some (.lst xs)∧Paired (fun v row=>∃ q,v= .ref q∧q≠D∧H4 q=some (.lst (row.map V.int))) xs ((zbb w []).take i))
  ⟨[],Off.start hD _,zab,.nil⟩ (fun i H4 _ ⟨_,off,_⟩=>.of ((k2.trans off.same) _ _ eR)) ?_ ?_⟩
 ·rintro i v H4 hv ⟨xs,off,eD,pr⟩
  rw [yJ] at hv
  cases hz:qs[i]? with
  | none=>rw [hz] at hv;cases hv
  | some qq=>
   rw [hz] at hv
   cases hv
   obtain ⟨row,hrow,eq⟩:=at1.get hz
   have rr:=zcl _ _ (yH hrow)
   have s4:=s2.trans off.same
   have lp:=yX pr
   have li:i < qs.length:=(yE.mp hz).1
   rw [yU] at lp
   refine ⟨_,rfl,(by show 1≤yK;decide),fun B2 hB2=>?_⟩
   have k5:=zaf hB2 (.tup [.str "well"])
   refine ⟨_,rfl,.ref a,B2,qq,w,[],row,rfl,hx.mono (s4.trans k5),wf,.inl ⟨rfl,.of zab⟩,.of ((k2.trans (off.same.trans k5)) _ _ eq),by rw [rr.1];omega,rr.2,fun r H5 s5 n5 e5=>?_⟩
   have s45:=k5.trans s5
   have rD:r≠D:=qR (zai (k5 _ _ eD) n5)
   refine ⟨xs,s45 _ _ eD,big (by omega),xs++ [.ref r],(off.grow s45).write (.head _) _,zab,?_⟩
   rw [zgE hrow]
   exact kF (Paired.mapP pr fun v row ⟨q,a1,a3,a4⟩=>⟨q,a1,a3,by rw [zah a3];exact s45 _ _ a4⟩) ⟨r,rfl,rD,by rw [zah rD];exact e5⟩
 rintro H4 ⟨xs,off,eD,pr⟩
 rw [← lm [],yV] at pr
 have s4:=s2.trans off.same
 refine ⟨(by show 2≤yK;decide),fun t0 ht0=>?_⟩
 have k5:=zaf ht0 (.tup [.ref B,.ref D])
 refine ⟨(by show 1≤yK;decide),fun F hF=>?_⟩
 have k6:=zaf hF (.lst [.ref t0])
 have s6:=(s4.trans k5).trans k6
 have mk:zfU (upd H4 t0 (.tup [.ref B,.ref D])) D (zbb w []):=zfU.mono ⟨xs,eD,Paired.mapP pr fun v row ⟨q,a1,_,a4⟩=>⟨q,a1,a4⟩⟩ k5
 have et0:=zab (H:=H4) (a:=t0) (o:=.tup [.ref B,.ref D])
 have eR5:=(k2.trans (off.same.trans k5)) _ _ eR
 have at5:=at1.mono (k2.trans (off.same.trans k5))
 have s5:=s4.trans k5
 generalize upd H4 t0 (.tup [.ref B,.ref D])=H5 at k5 k6 s6 mk et0 eR5 at5 s5 hF
 refine ⟨_,rfl,.ref a,w,rfl,hx.mono s6,wf,fun L fs H8 s8 nL eL fa=>?_⟩
 have eF8:=s8 _ _ (zab (H:=H5) (a:=F) (o:=.lst [.ref t0]))
 have LF:F≠L:=zai (zab (H:=H5) (a:=F) (o:=.lst [.ref t0])) nL
 have sG:Same H5 (hole F H8):=zdP (k6.trans s8) hF
 have eLG:hole F H8 L=some (.lst fs):=by rw [zaL (qR LF)];exact eL
 have faG:FAll (hole F H8) fs (allF w):=Paired.mapP fa fun v f ⟨b,e1,e2⟩=>⟨b,e1,by rw [zaL (fun z=>by rw [z,eF8] at e2;cases e2)];exact e2⟩
 have lfs:=yX fa
 refine ⟨L,rfl,⟨_,.of eL⟩,zce (K:=K) (a:=L) (xs:=fs) (fun i σ H9=>∃ (o3:Option V) (us:List V),σ = [some (.ref a),some (.ref R),some (.ref F),o3]∧Off [F] (hole F H8) H9∧H9 F=some (.lst (.ref t0::us))∧Paired (zkz (hole F H9) w) us ((allF w).take i))
  ⟨_,[],rfl,zcp eF8,eF8,.nil⟩ (fun i σ H9 _ ⟨_,_,_,of9,_⟩=>.of (of9.same _ _ eLG)) ?_ ?_⟩
 ·rintro i v σ H9 hv ⟨o3,us,rfl,of9,eF,pu⟩
  obtain ⟨f,hf,b,rfl,hb⟩:=zaI faG hv
  have li:i < (allF w).length:=(yE.mp hf).1
  have et:(allF w).take (i+1)=(allF w).take i++ [f]:=by rw [yR,hf];rfl
  have gf:=zaW (yH hf)
  have lu:=yX pu
  rw [yU] at lu
  have s9:Same H5 H9:=sG.trans of9.same
  refine ⟨_,rfl,.inl ⟨rfl,_,.of eF⟩,_,rfl,_,rfl,R,rfl,⟨_,.of (s9 _ _ eR5)⟩,fun D2 hD2=>zaO (K:=K) (a:=R) (xs:=qs.map V.ref)
   (fun i H4=>∃ xs,Off [D2] H9 H4∧H4 D2=some (.lst xs)∧Paired (fun v row=>∃ q,v= .ref q∧q≠D2∧q≠F∧H4 q=some (.lst (row.map V.int))) xs ((zbb w [f]).take i))
   ⟨[],Off.start hD2 _,zab,.nil⟩ (fun i H4 _ ⟨_,off,_⟩=>.of ((s9.trans off.same) _ _ eR5)) ?_ ?_⟩
  ·rintro i v H4 hv ⟨xs,off,eD,pr⟩
   rw [yJ] at hv
   cases hz:qs[i]? with
   | none=>rw [hz] at hv;cases hv
   | some qq=>
    rw [hz] at hv
    cases hv
    obtain ⟨row,hrow,eq⟩:=at5.get hz
    have rr:=zcl _ _ (yH hrow)
    have lp:=yX pr
    have li:i < qs.length:=(yE.mp hz).1
    rw [yU] at lp
    have s94:=s9.trans off.same
    refine ⟨_,rfl,_,rfl,_,rfl,.ref a,b,qq,w,[f],row,rfl,hx.mono (s5.trans s94),wf,FC.of gf ((of9.same.trans off.same) _ _ hb),.of (s94 _ _ eq),by rw [rr.1];omega,rr.2,fun r H5 s5 n5 e5=>?_⟩
    have rD:r≠D2:=qR (zai eD n5)
    have rF:r≠F:=qR (zai (off.same _ _ eF) n5)
    refine ⟨xs,s5 _ _ eD,big (by omega),xs++ [.ref r],(off.grow s5).write (.head _) _,zab,?_⟩
    rw [zgE hrow]
    exact kF (Paired.mapP pr fun v row ⟨q,a1,a3,a5,a4⟩=>⟨q,a1,a3,a5,by rw [zah a3];exact s5 _ _ a4⟩) ⟨r,rfl,rD,rF,by rw [zah rD];exact e5⟩
  ·rintro H4 ⟨xs,off,eD,pr⟩
   rw [← lm [f],yV] at pr
   refine ⟨(by show 2≤yK;decide),fun t1 ht1=>?_⟩
   have k5:=zaf ht1 (.tup [.ref b,.ref D2])
   have s95:=off.same.trans k5
   have D2F:D2≠F:=qR (zai eF hD2)
   have t1F:t1≠F:=qR (zai (off.same _ _ eF) ht1)
   have bF:b≠F:=fun z=>by
    have:=of9.out F (.head _)
    rw [z,this] at hb
    cases hb
   refine ⟨F,_,_,rfl,rfl,s95 _ _ eF,big (by show us.length+1≤100000;omega),?_⟩
   refine ⟨_,us++ [.ref t1],rfl,(of9.grow s95).write (.head _) _,zab,?_⟩
   rw [et]
   refine kF (Paired.mapP pu fun _ _ z=>z.mono (zhw s95 eF _)) ⟨t1,b,D2,rfl,?_,?_,xs,?_,Paired.mapP pr fun v row ⟨q,a1,a3,a5,a4⟩=>⟨q,a1,?_⟩⟩
   ·rw [zaL t1F,zah t1F]
    exact zab
   ·rw [zaL bF,zah bF]
    exact s95 _ _ (of9.same _ _ hb)
   ·rw [zaL D2F,zah D2F]
    exact k5 _ _ eD
   ·rw [zaL a5,zah a5]
    exact k5 _ _ a4
 ·rintro σ H9 ⟨o3,us,rfl,of9,eF,pu⟩
  rw [lfs,yV] at pu
  have s9:Same H5 H9:=sG.trans of9.same
  exact ⟨_,rfl,q F t0 B D us H9 (s5.trans s9) (s5.free hF) eF (s9 _ _ et0) (mk.mono s9) (Paired.mapP pu fun _ _ z=>z.mono (zcp eF).same)⟩
theorem zbq:zaw ["works","answers","well","found","fault","outs"] ["works"] (zak zcu):=⟨rfl,rfl,rfl,by decide+kernel,rfl,by decide+kernel,by decide+kernel⟩
theorem zgn (T:Txt K mg t):FnOk P w K mg base CX0 4 t.f_law_finding t.fd_law_finding ["works"] (sp_lfd K):=by
 refine T.d_law_finding.F.okB zbq (fun vs H Q E h=>?_) (fun cdv A outer s H vs Q E hr h=>?_)
 ·obtain ⟨x,w,rfl,_⟩:=h
  rfl
 obtain ⟨x,w,rfl,hx,wf,q⟩:=h
 have hu1:=zgo hr
 have hu64:=hr.units
 have lf:=zcc wf
 have h64:=pow6 (n:=w.ins.toNat) (by have:=wf.i6;omega)
 refine ⟨_,(zad (zal (k:=1) zbq.nd rfl (Or.inl rfl) (zam (zgx T) (hr.mono (by decide)) rfl T.d_law_answers.m T.d_law_answers.F.kp T.d_law_answers.b .nil zaK (zaa (bpv 0) (zac))))
  (zad (zal (k:=2) zbq.nd rfl (Or.inr rfl) (zao zay (zao zaR (bpv 1) zae (fun _ _=>rfl)) zae (fun _ _=>rfl)))
  (zad (zal (k:=3) zbq.nd rfl (Or.inl rfl) zeP)
  (zad (zaQ qH rfl (zaH (zfE zlc (bpv 1) (zfu zae) ziW)) (zdz rfl (zaD (zaj (k:=4) zbq.nd rfl (Or.inl rfl)) (zaD (zaj (k:=5) zbq.nd rfl (Or.inr rfl)) zbI))) (zag (zhh hu1 (bpv 3) (bpv 4) (zaM rfl (N:=["k","outs","well"]) (n:=1) (cap:=[5,2]) (za5 rfl rfl) (zaZ rfl T.z_range (zaa (zat zaq rfl T.z_len qL (zaa (bpv 2) (zac))) (zac))) (zaz (by decide)) (fun _ _ _ _=>(zaj (k:=0) (show (["k","outs","well"]:List Str).Nodup by decide+kernel) rfl (Or.inl rfl))) (fun _ _ _ _=>(zc0 (zap (zoA (K:=K) hu64) (zao (zcU (K:=K)) (bpv 1) (bpv 0) (fun _ _=>rfl)) (zao (zcU (K:=K)) (bpv 2) (bpv 0) (fun _ _=>rfl)) (zaB _)))) (fun _ _ _ _=>(bpv 0))) rfl)))
  (zag (zar (bpv 3))))))),?_⟩
 refine ⟨_,rfl,x,w,rfl,hx,wf,fun r t0 b0 m0 xs H1 s1 nr er et0 mk pa=>?_⟩
 refine ⟨_,rfl,r,_,_,_,rfl,rfl,.of er,zdH (j:=0) rfl,t0,_,_,_,rfl,rfl,.of et0,rfl,fun fd hfd=>?_⟩
 have k2:=zaf hfd (.dT [])
 refine ⟨_,rfl,_,rfl,r,_,rfl,.of (k2 _ _ er),fun L hL=>?_⟩
 rw [zkk]
 have k3:=zaf hL (.lst xs)
 have s13:=k2.trans k3
 have ef3:=k3 _ _ (zab (H:=H1) (a:=fd) (o:=.dT []))
 have eL3:=zab (H:=upd H1 fd (.dT [])) (a:=L) (o:=.lst xs)
 have sG:Same H1 (hole fd (upd (upd H1 fd (.dT [])) L (.lst xs))):=zdP s13 hfd
 have hf0:=s1.free hfd
 have off:=zcp ef3
 have eLG:hole fd (upd (upd H1 fd (.dT [])) L (.lst xs)) L=some (.lst xs):=by rw [zaL (qR (zai (zab (H:=H1) (a:=fd) (o:=.dT [])) hL))];exact eL3
 generalize upd (upd H1 fd (.dT [])) L (.lst xs)=H3 at ef3 eL3 sG off eLG
 generalize hole fd H3=G at sG off eLG
 have mkG:=mk.mono sG
 have lx:=yX pa
 refine ⟨L,rfl,⟨_,.of eL3⟩,zce (K:=K) (a:=L) (xs:=xs) (fun i σ H4=>∃ (o4 o5:Option V) (kvs:List (List Key×V)),σ = [some x,some (.ref r),some (.ref m0),some (.ref fd),o4,o5]∧Off [fd] G H4∧H4 fd=some (.dT kvs)∧zbe H4 w kvs ((allF w).take i))
  ⟨_,_,[],rfl,off,ef3,.nil⟩ (fun i σ H4 _ ⟨_,_,_,_,o,_⟩=>.of (o.same _ _ eLG)) ?_ ?_⟩
 ·rintro i v σ H4 hv ⟨o4,o5,kvs,rfl,of4,ef4,fd4⟩
  obtain ⟨f,hf,t,b,m,rfl,ht,hb,mf⟩:=zaI pa hv
  have li:i < (allF w).length:=(yE.mp hf).1
  have et:(allF w).take (i+1)=(allF w).take i++ [f]:=by rw [yR,hf];rfl
  have gf:=zaW (yH hf)
  have s14:=sG.trans of4.same
  obtain ⟨zs,ez,pz⟩:=mkG
  obtain ⟨ys,ey,py⟩:=mf.mono sG
  have lz:=yX pz
  have ly:=yX py
  rw [zln] at lz ly
  refine ⟨t,_,rfl,.of (s14 _ _ ht),rfl,_,_,rfl,_,_,rfl,rfl,?_⟩
  refine ⟨_,rfl,m0,_,rfl,.inl (.of (of4.same _ _ ez)),_,rfl,by omega,by omega,fun D hD=>?_⟩
  refine zc5 (fun j H5=>Off [D] H4 H5∧H5 D=some (.lst (zaA ((qI j).filter fun j=>decide ((zbb w [f]).getD j []≠(zbb w []).getD j []))))) ⟨Off.start hD _,zab⟩ ?_ ?_
  ·rintro j H5 hj ⟨of5,eD⟩
   rw [vY]
   have lj:j < 2 ^ w.ins.toNat:=by omega
   obtain ⟨y,hy⟩:∃ y,ys[j]? =some y:=⟨_,yF (by omega)⟩
   obtain ⟨z,hz⟩:∃ z,zs[j]? =some z:=⟨_,yF (by omega)⟩
   obtain ⟨ry,hry,qy,rfl,e1⟩:=zaI py hy
   obtain ⟨rz,hrz,qz,rfl,e2⟩:=zaI pz hz
   have s45:=of4.same.trans of5.same
   have g1:(zbb w [f]).getD j []=ry:=by rw [yM,hry];rfl
   have g2:(zbb w []).getD j []=rz:=by rw [yM,hrz];rfl
   refine ⟨_,rfl,_,rfl,m,_,_,_,rfl,rfl,.of (s45 _ _ ey),zdH hy,_,rfl,_,rfl,m0,_,_,_,rfl,rfl,.of (s45 _ _ ez),zdH hz,_,_,Rep.lst (.of (s45 _ _ e1)) (Reps.ints _),Rep.lst (.of (s45 _ _ e2)) (Reps.ints _),zaJ _,zaJ _,fun e=>⟨_,rfl,iteF ⟨of5,?_⟩⟩,fun e=>⟨_,rfl,iteT ⟨_,rfl,_,eD,?_,of5.write (.head _) _,?_⟩⟩⟩
   ·have e':ry=rz:=wW (fun x y e=>Dat.int.inj e) |>.mp (Dat.list.inj e)
    rw [eD,xS,qP,qZ (by rw [g1,g2,e'];simp),vF,jH]
   ·rw [zaU]
    have:=qU (fun j=>decide ((zbb w [f]).getD j []≠(zbb w []).getD j [])) (qI j)
    rw [xH] at this
    exact big (by omega)
   ·have e':ry≠rz:=fun z=>e (by rw [z])
    rw [zab,xS,qP,jK (by rw [g1,g2];exact decide_eq_true e')]
    unfold zaA
    rw [yN]
    rfl
  ·rintro H5 ⟨of5,eD⟩
   have e64:(((zs.length:Nat):Int)).toNat=2 ^ w.ins.toNat:=by omega
   rw [e64] at eD
   have eD':H5 D=some (.lst (zaA (zaC w f))):=by rw [zdJ gf wf];exact eD
   have ef5:=of5.same _ _ ef4
   have lk:kvs.length≤400:=by
    have:=yX fd4
    rw [yU] at this
    omega
   have nf:f∉(allF w).take i:=fun z=>by
    have nd:=zc9 w
    rw [← vM (i+1) (allF w),et] at nd
    exact (jB.mp (jB.mp nd).1).2.2 _ z _ (yG.mpr rfl) rfl
   have nv:=zbe.miss fd4 nf
   have Dd:D≠fd:=fun z=>by rw [z,ef5] at eD';cases eD'
   refine ⟨_,rfl,_,rfl,fd,_,rfl,DPut.t (k:=fkK f) ef5 (by rw [zhD];exact (s14.trans of5.same) _ _ hb) (big (by omega)),_,_,_,rfl,(of4.grow of5.same).write (.head _) _,zab,?_⟩
   rw [zfo _ nv,et]
   exact zeg ((fd4.mono of5.same).put ef5 _) ⟨rfl,D,rfl,by rw [zah Dd];exact eD'⟩
 ·rintro σ H4 ⟨o4,o5,kvs,rfl,of4,ef4,fd4⟩
  rw [lx,yV] at fd4
  exact ⟨_,rfl,q fd kvs H4 (s1.trans (sG.trans of4.same)) hf0 ef4 fd4⟩
theorem zby:zaw ["choices","count","longer","choice","least"] ["choices","count"] (zak zbE):=⟨rfl,rfl,rfl,by decide+kernel,rfl,by decide+kernel,by decide+kernel⟩
theorem zeY (T:Txt K mg t):FnOk P w K mg base CX0 1 t.f_longer_choices t.fd_longer_choices ["choices","count"] sp_lc:=by
 refine T.d_longer_choices.F.okB zby (fun vs H Q E h=>?_) (fun cdv A outer s H vs Q E hr h=>?_)
 ·obtain ⟨a,xs,css,count,rfl,_⟩:=h
  rfl
 obtain ⟨a,xs,css,count,rfl,ha,ch,c8,lc,le,ll,q⟩:=h
 have lx:=yX ch
 refine ⟨_,(zad (zal (k:=2) zby.nd rfl (Or.inl rfl) (zav zac))
  (zad (zaQ qH rfl (zaH (bpv 0)) (zaj (k:=3) zby.nd rfl (Or.inr rfl)) (zad (zal (k:=4) zby.nd rfl (Or.inl rfl) (zhE (zap zoJ (zat zaq rfl T.z_len qL (zaa (bpv 3) (zac))) zae (zaB _)) (zan zbM (zao zaR (bpv 3) (zi5 zju zae) (fun _ _=>rfl)) zae) zae))
  (zag (zbm (zds qS PySem.F.slot_list_extend PySem.F.type_list_extend zl1 (bpv 2) (zaa (zaM rfl (N:=["number","choice"]) (n:=1) (cap:=[3]) (za5 rfl rfl) (zj1 rfl T.z_range (zaa (bpv 4) (zaa (bpv 1) (zac)))) (zaz (by decide)) (fun _ _ _ _=>(zaj (k:=0) (show (["number","choice"]:List Str).Nodup by decide+kernel) rfl (Or.inl rfl))) (fun _ _ _ _=>zaN) (fun _ _ _ _=>(zan zcY (bpv 1) (zav (zaa (bpv 0) (zac)))))) (zac)))))))
  (zag (zar (bpv 2))))),?_⟩
 refine ⟨(by show 0≤yK;decide),fun R hR=>?_⟩
 refine ⟨_,rfl,a,rfl,⟨_,.of (zaf hR _ _ _ ha)⟩,zce (K:=K) (a:=a) (xs:=xs) (fun i σ H4=>∃ (o3 o4:Option V) (ys:List V),σ = [some (.ref a),some (.int count),some (.ref R),o3,o4]∧Off [R] H H4∧H4 R=some (.lst ys)∧zgZ (hole R H4) ys ((css.take i).flatMap (zm6 count))∧ys.length≤8 * i)
  ⟨_,_,[],rfl,Off.start hR _,zab,.nil,qM _⟩ (fun i σ H4 _ ⟨_,_,_,_,o,_⟩=>.of (o.same _ _ ha)) ?_ ?_⟩
 ·rintro i v σ H4 hv ⟨o3,o4,ys,rfl,of4,eR,cy,ly⟩
  obtain ⟨cs,hcs,p,rfl,hp⟩:=zaI ch hv
  have li:i < css.length:=(yE.mp hcs).1
  have hcm:=yH hcs
  have lcs:=le cs hcm
  have lcl:=ll cs hcm
  have hp4:=of4.same _ _ hp
  have el:=zaU cs
  refine' zoh (C:=fun v=>v= .int (zbD cs:Nat)) (st:=fun v=>[some (.ref a),some (.int count),some (.ref R),some (.ref p),some v]) (H:=H4) (fun rest=>_) _
  rotate_left
  ·refine ⟨_,rfl,p,_,rfl,.inl (.of hp4),_,_,rfl,rfl,_,rfl,ite2 (fun c=>?_) (fun c=>?_)⟩
   ·have c':(0:Int) < ((zaA cs).length:Int):=of_decide_eq_true c
    have ne:cs≠[]:=fun z=>by rw [el,z] at c';exact absurd c' (by decide)
    refine ⟨_,rfl,_,rfl,p,_,_,_,rfl,rfl,.of hp4,zk1 cs ne,_,_,rfl,rfl,rest (.int ((((zbD cs:Nat):Int) - 1)+1)) ?_⟩
    rw [Int.sub_add_cancel]
   ·have c':¬(0:Int) < ((zaA cs).length:Int):=fun z=>c (decide_eq_true z)
    have e:cs= []:=jQ.mp (by omega)
    exact rest (.int 0) (by rw [e];rfl)
  ·rintro _ rfl
   refine ⟨_,rfl,.inl ⟨rfl,_,.of eR⟩,_,rfl,_,rfl,_,_,rfl,⟨by omega,by omega,by omega,by omega⟩,fun D hD=>?_⟩
   have ecl:((count:Int) - (zbD cs:Nat)).toNat=count - zbD cs:=by omega
   rw [ecl]
   refine zc5 (fun j H5=>∃ zs,Off [D] H4 H5∧H5 D=some (.lst zs)∧Paired (fun v cs=>∃ q,v= .ref q∧q≠D∧q≠R∧H5 q=some (.lst (zaA cs))) zs (((qI j).map fun i=>cs++ [zbD cs+i]))) ⟨[],Off.start hD _,zab,.nil⟩ ?_ ?_
   ·rintro j H5 hj ⟨zs,of5,eD,pz⟩
    have lz:=yX pz
    rw [yB,xH] at lz
    have hp5:=of5.same _ _ hp4
    refine ⟨_,rfl,_,rfl,(by show 1≤yK;decide),fun S hS=>?_⟩
    have kS:=zaf hS (.lst [.int ((zbD cs:Nat)+(j:Int))])
    refine ⟨p,S,_,_,rfl,rfl,kS _ _ hp5,zab,bigE (by rw [zaU];show cs.length+1≤100000;omega),fun B hB=>?_⟩
    have kB:=zaf hB (.lst (zaA cs++ [.int ((zbD cs:Nat)+(j:Int))]))
    have s56:=kS.trans kB
    have BD:B≠D:=qR (zai (kS _ _ eD) hB)
    have BR:B≠R:=qR (zai (kS _ _ (of5.same _ _ eR)) hB)
    refine ⟨zs,s56 _ _ eD,big (by omega),zs++ [.ref B],(of5.grow s56).write (.head _) _,zab,?_⟩
    rw [xS,yN]
    refine kF (Paired.mapP pz fun v cs ⟨q,a1,a2,a3,a4⟩=>⟨q,a1,a2,a3,by rw [zah a2];exact s56 _ _ a4⟩) ⟨B,rfl,BD,BR,?_⟩
    rw [zah BD,zab]
    unfold zaA
    rw [yN]
    rfl
   ·rintro H5 ⟨zs,of5,eD,pz⟩
    have lz:=yX pz
    rw [yB,xH] at lz
    have eR5:=of5.same _ _ eR
    refine ⟨R,D,_,_,rfl,rfl,eR5,eD,bigE (by omega),?_⟩
    refine ⟨_,_,ys++zs,rfl,(of4.grow of5.same).write (.head _) _,zab,?_,by rw [yI];omega⟩
    have et:css.take (i+1)=css.take i++ [cs]:=by rw [yR,hcs];rfl
    rw [et,vE,List.flatMap_singleton]
    refine zgO (cy.mono (zhw of5.same eR _)) (Paired.mapP pz fun v cs ⟨q,a1,a2,a3,a4⟩=>⟨q,a1,?_⟩)
    rw [zaL a3,zah a3]
    exact a4
 ·rintro σ H4 ⟨o3,o4,ys,rfl,of4,eR,cy,ly⟩
  rw [lx,yV] at cy
  exact ⟨_,rfl,q R ys H4 of4.same hR eR (cy.mono (zcp eR).same)⟩
theorem zbf:zaw ["count","finding","choices","enough"] ["count","finding"] (zak zbG):=⟨rfl,rfl,rfl,by decide+kernel,rfl,by decide+kernel,by decide+kernel⟩
theorem zc6 (T:Txt K mg t):FnOk P w K mg base CX0 3 t.f_fewest_numbers t.fd_fewest_numbers ["count","finding"] sp_fn:=by
 refine T.d_fewest_numbers.F.okB zbf (fun vs H Q E h=>?_) (fun cdv A outer s H vs Q E hr h=>?_)
 ·obtain ⟨count,d,kvs,nss,rfl,_⟩:=h
  rfl
 obtain ⟨count,d,kvs,nss,rfl,c1,c8,hd,nd,ln,le,met,q⟩:=h
 refine ⟨_,(zad (zal (k:=2) zbf.nd rfl (Or.inl rfl) (zav (zaa (zav zac) (zac))))
  (zad (zal (k:=3) zbf.nd rfl (Or.inl rfl) (zav zac))
  (zad (zkJ qH (zap zct (zat zaq rfl T.z_len qL (zaa (bpv 3) (zac))) zae (zaB _)) (zad (zal (k:=2) zbf.nd rfl (Or.inl rfl) (zam (zeY T) (hr.mono (by decide)) rfl T.d_longer_choices.m T.d_longer_choices.F.kp T.d_longer_choices.b .nil zaK (zaa (bpv 2) (zaa (bpv 0) (zac)))))
  (zag (zdn (k:=3) rfl (N:=["choice","finding"]) (n:=1) (cap:=[1]) (za5 rfl rfl) zbf.nd rfl rfl (zaH (bpv 2)) (zaz (by decide)) (fun _ _ _ _=>(zaj (k:=0) (show (["choice","finding"]:List Str).Nodup by decide+kernel) rfl (Or.inl rfl))) (fun _ _ _ _=>(zc0 (zc1 (zam (zeE T) (hr.mono (by decide)) rfl T.d_meets_each.m T.d_meets_each.F.kp T.d_meets_each.b .nil zaK (zaa (bpv 0) (zaa (bpv 1) (zac))))))) (fun _ _ _ _=>(bpv 0)) rfl))))
  (zag (zar (zao zaR (bpv 3) zae (fun _ _=>rfl))))))),?_⟩
 refine ⟨(by show 0≤yK;decide),fun e0 he0=>⟨(by show 1≤yK;decide),fun C hC=>⟨(by show 0≤yK;decide),fun E0 hE=>?_⟩⟩⟩
 have k0:=zaf he0 (.lst [])
 have k1:=zaf hC (.lst [.ref e0])
 have k2:=zaf hE (.lst [])
 refine ⟨fun m σ H2=>∃ (n:Nat) (C E:Addr) (xs ys:List V),m=count - n∧n≤count∧σ = [some (.int count),some (.ref d),some (.ref C),some (.ref E)]∧Same H H2∧H2 C=some (.lst xs)∧zgZ H2 xs (risV count n)∧H2 E=some (.lst ys)∧zgZ H2 ys (if n=0 then [] else (risV count n).filter (metV nss))∧∀ m,1≤m→m < n→(risV count m).filter (metV nss)= [],
  ⟨count,0,C,E0,[.ref e0],[],rfl,qM _,rfl,(k0.trans k1).trans k2,k2 _ _ zab,.cons ⟨e0,rfl,(k1.trans k2) _ _ zab⟩ .nil,zab,.nil,fun m h1 h2=>absurd h2 (yaD _)⟩,?_⟩
 rintro m σ H2 ⟨n,C,E1,xs,ys,rfl,hn,rfl,s2,eC,cx,eE,cy,before⟩
 have ly:=yX cy
 refine ⟨_,rfl,E1,_,rfl,.inl (.of eE),rfl,_,rfl,ite2 (fun c=>?_) (fun c=>?_)⟩
 ·have c':ys.length=0:=by have:=V.int.inj (of_decide_eq_true c);omega
  rw [c'] at ly
  have em:(if n=0 then [] else (risV count n).filter (metV nss))= []:=jQ.mp ly.symm
  have nc:n < count:=by
   rcases Nat.lt_or_ge n count with h | h
   ·exact h
   ·have e:n=count:=by omega
    rw [if_neg (by omega),e] at em
    have:=yT.mpr ⟨zll count,met⟩
    rw [em] at this
    cases this
  have lr:=zlv count (by omega) n (by omega)
  refine ⟨fun σ' H'=>∃ m',m' < count - n∧_,fun _ _ h=>h,?_⟩
  refine ⟨_,rfl,_,rfl,C,xs,risV count n,count,rfl,eC,cx,c8,by omega,fun cs hcs=>by have:=(zcm.mp hcs).2.2;omega,fun cs hcs=>zjc (zcm.mp hcs).2.1,fun r zs H3 s3 nr er cz=>?_⟩
  rw [show (risV count n).flatMap (zm6 count)=risV count (n+1) from rfl] at cz
  have lz:=yX cz
  have lr2:=zlv count (by omega) (n+1) (by omega)
  refine ⟨_,rfl,r,rfl,⟨_,.of er⟩,fun D hD=>zaO (K:=K) (a:=r) (xs:=zs) (fun i H4=>∃ us,Off [D] H3 H4∧H4 D=some (.lst us)∧zgZ H3 us (((risV count (n+1)).take i).filter (metV nss)))
   ⟨[],Off.start hD _,zab,.nil⟩ (fun i H4 _ ⟨_,o,_⟩=>.of (o.same _ _ er)) ?_ ?_⟩
  ·rintro i v H4 hv ⟨us,of4,eD,cu⟩
   obtain ⟨cs,hcs,p,rfl,hp⟩:=zaI cz hv
   have li:i < (risV count (n+1)).length:=(yE.mp hcs).1
   have et:(risV count (n+1)).take (i+1)=(risV count (n+1)).take i++ [cs]:=by rw [yR,hcs];rfl
   have s4:=(s2.trans s3).trans of4.same
   have lu:=yX cu
   have lf:=qU (metV nss) ((risV count (n+1)).take i)
   rw [yU] at lf
   refine ⟨_,rfl,_,rfl,p,d,cs,kvs,nss,rfl,.of (of4.same _ _ hp),s4 _ _ hd,nd.mono s4,ln,le,fun H5 s5=>?_⟩
   refine ⟨_,rfl,ite2 (fun c=>?_) (fun c=>?_)⟩
   ·have c':metV nss cs=true:=c
    refine ⟨_,rfl,us,s5 _ _ eD,big (by omega),us++ [.ref p],(of4.grow s5).write (.head _) _,zab,?_⟩
    rw [et,qP,jK c']
    exact kF cu ⟨p,rfl,hp⟩
   ·have c':¬metV nss cs=true:=c
    refine ⟨us,of4.grow s5,s5 _ _ eD,?_⟩
    rw [et,qP,qZ c',vF,jH]
    exact cu
  ·rintro H4 ⟨us,of4,eD,cu⟩
   rw [lz,yV] at cu
   refine ⟨count - (n+1),by omega,n+1,r,D,zs,us,rfl,by omega,rfl,(s2.trans s3).trans of4.same,of4.same _ _ er,cz.mono of4.same,eD,by rw [if_neg (by omega)];exact cu.mono of4.same,fun m h1 h2=>?_⟩
   rcases Nat.lt_or_ge m n with h | h
   ·exact before m h1 h
   ·have e:m=n:=by omega
    subst e
    rw [if_neg (by omega)] at em
    exact em
 ·have c':ys.length≠0:=fun z=>c (decide_eq_true (by rw [z];rfl))
  have n0:n≠0:=fun z=>by rw [z,if_pos rfl] at ly;exact c' ly
  rw [if_neg n0] at cy ly
  obtain ⟨y,hy⟩:∃ y,ys[0]? =some y:=⟨_,yF (by omega)⟩
  obtain ⟨cs,hcs,p,rfl,hp⟩:=zaI cy hy
  refine ⟨_,rfl,E1,_,_,_,rfl,rfl,.of eE,zdH (j:=0) hy,q p cs H2 s2 hp ⟨n,by omega,hn,?_,before⟩⟩
  rw [List.head?_eq_getElem?]
  exact hcs
theorem zfY:zaw ["works"] ["works"] (zak zb3):=⟨rfl,rfl,rfl,by decide+kernel,rfl,by decide+kernel,by decide+kernel⟩
theorem zdB (T:Txt K mg t):FnOk P w K mg base CX0 1 t.f_check_inputs t.fd_check_inputs ["works"] (sp_ci K):=by
 refine T.d_check_inputs.F.okB zfY (fun vs H Q E h=>?_) (fun cdv A outer s H vs Q E hr h=>?_)
 ·obtain ⟨a,ga,oa,i,rfl,_⟩:=h
  rfl
 obtain ⟨a,ga,oa,i,rfl,ha,i3,q⟩:=h
 refine ⟨_,(zag (zaP (zap zoJ (zao zay (bpv 0) zae (fun _ _=>rfl)) (zm2 (v:=.int 3) rfl T.g_MOST_INPUTS ⟨_,rfl⟩) (zaB _)) (zag zf5) zax)),?_⟩
 exact ⟨_,rfl,a,_,_,_,rfl,rfl,ha,rfl,_,_,rfl,rfl,_,rfl,ite2 (fun c=>absurd (of_decide_eq_true c) (by omega)) (fun _=>q)⟩
theorem zd7:zaw ["works","rows"] ["works"] (zak zco):=⟨rfl,rfl,rfl,by decide+kernel,rfl,by decide+kernel,by decide+kernel⟩
theorem zgm (T:Txt K mg t):FnOk P w K mg base CX0 7 t.f_fewest_rows t.fd_fewest_rows ["works"] (sp_fw K):=by
 refine T.d_fewest_rows.F.okB zd7 (fun vs H Q E h=>?_) (fun cdv A outer s H vs Q E hr h=>?_)
 ·obtain ⟨x,w,rfl,_⟩:=h
  rfl
 obtain ⟨x,w,rfl,hx,wf,i3,q⟩:=h
 obtain ⟨a,ga,oa,gs,os,rfl,ha,hg,ho,rg,ro⟩:=zbz hx
 have i1:=wf.i1
 have lf:=zcc wf
 refine ⟨_,(zad (zbm (zam (zdB T) (hr.mono (by decide)) rfl T.d_check_inputs.m T.d_check_inputs.F.kp T.d_check_inputs.b .nil zaK (zaa (bpv 0) (zac))))
  (zad (zal (k:=1) zd7.nd rfl (Or.inr rfl) (zam (zdC T) (hr.mono (by decide)) rfl T.d_every_row.m T.d_every_row.F.kp T.d_every_row.b .nil zaK (zaa (bpv 0) (zac))))
  (zag (zar (zaM rfl (N:=["number","rows"]) (n:=1) (cap:=[1]) (za5 rfl rfl) (zaH (zam (zc6 T) (hr.mono (by decide)) rfl T.d_fewest_numbers.m T.d_fewest_numbers.F.kp T.d_fewest_numbers.b .nil zaK (zaa (zat zaq rfl T.z_len qL (zaa (bpv 1) (zac))) (zaa (zam (zbP T) (hr.mono (by decide)) rfl T.d_finding_rows.m T.d_finding_rows.F.kp T.d_finding_rows.b .nil zaK (zaa (bpv 0) (zac))) (zac))))) (zaz (by decide)) (fun _ _ _ _=>(zaj (k:=0) (show (["number","rows"]:List Str).Nodup by decide+kernel) rfl (Or.inl rfl))) (fun _ _ _ _=>zaN) (fun _ _ _ _=>(zao (zcU (K:=K)) (bpv 1) (bpv 0) (fun _ _=>rfl)))))))),?_⟩
 refine ⟨_,rfl,a,ga,oa,w.ins,rfl,ha,i3,?_⟩
 refine ⟨_,rfl,a,ga,oa,w.ins,rfl,ha,by omega,by omega,fun R qs H1 r1=>?_⟩
 have lq:=r1.rows.len
 have many:=zaS w.ins.toNat
 have p8: 1≤2 ^ w.ins.toNat∧2 ^ w.ins.toNat≤8:=by
  have:w.ins.toNat=1∨w.ins.toNat=2∨w.ins.toNat=3:=by omega
  rcases this with e | e | e <;> rw [e] <;> decide
 refine ⟨_,rfl,R,_,rfl,.inl (.of r1.at_),_,rfl,.ref a,w,rfl,hx.mono r1.same,wf,fun d kvs H2 s2 nd ed fd=>?_⟩
 have lfo:(zaF w).length≤400:=by
  have:=qU (fun f=>decide (zaC w f≠[])) (allF w)
  unfold zaF
  omega
 refine ⟨2 ^ w.ins.toNat,d,kvs,(zaF w).map (zaC w),by rw [yB,lq,many];rfl,p8.1,p8.2,ed,fd.nums,by rw [yB];omega,fun ns hns=>?_,?_,fun p cs H3 s3 ep few=>?_⟩
 ·obtain ⟨f,hf,rfl⟩:=qE.mp hns
  exact zdR (zaW (yT.mp hf).1) wf
 ·unfold metV
  rw [vZ,yZ]
  intro f hf
  have gf:=zaW (yT.mp hf).1
  obtain ⟨j,hj⟩:=yaT _ (zfZ hf)
  show za7 (zaC w f) _=true
  unfold za7
  rw [xV]
  exact ⟨j,hj,decide_eq_true (qN.mpr (zdV gf wf hj))⟩
 ·have bel:∀ k∈cs,k < 2 ^ w.ins.toNat:=by
   obtain ⟨n,_,_,hc,_⟩:=few
   exact (zcm.mp (yT.mp (vB hc)).1).2.1
  have lcs:cs.length≤8:=by
   obtain ⟨n,_,h8,hc,_⟩:=few
   have:=(zcm.mp (yT.mp (vB hc)).1).2.2
   omega
  have s23:=s2.trans s3
  refine ⟨p,rfl,⟨_,.of ep⟩,fun D hD=>zaO (K:=K) (a:=p) (xs:=zaA cs) (fun j H4=>∃ ps:List Addr,Off [D] H3 H4∧H4 D=some (.lst (ps.map V.ref))∧At H3 ps ((cs.take j).map (zbZ w))∧∀ q∈ps,q∈qs)
   ⟨[],Off.start hD _,zab,.nil,fun _ z=>nomatch z⟩ (fun j H4 _ ⟨_,o,_⟩=>.of (o.same _ _ ep)) ?_ ?_⟩
  ·rintro j v H4 hv ⟨ps,of4,eD,atp,inq⟩
   obtain ⟨k,hk,rfl⟩:=zcj hv
   have lj:j < cs.length:=(yE.mp hk).1
   have bk:=bel k (yH hk)
   obtain ⟨qq,hqq⟩:∃ qq,qs[k]? =some qq:=⟨_,yF (by omega)⟩
   obtain ⟨row,hrow,eq⟩:=r1.rows.get hqq
   have er:zbZ w k=row:=by unfold zbZ;rw [yM,hrow];rfl
   have lp:=atp.len
   rw [yB,yU] at lp
   refine ⟨_,rfl,_,rfl,R,_,_,_,rfl,rfl,.of ((s23.trans of4.same) _ _ r1.at_),zdH (by rw [yJ,hqq];rfl),?_⟩
   refine ⟨_,eD,big (by rw [yB];omega),ps++ [qq],of4.write (.head _) _,by rw [zab,yN];rfl,?_,fun q hq=>?_⟩
   ·rw [yR,hk,yN]
    exact atp.append (.cons (by rw [er];exact s23 _ _ eq) .nil)
   ·rcases qG.mp hq with z | z
    ·exact inq q z
    ·rw [yG.mp z];exact yH hqq
  ·rintro H4 ⟨ps,of4,eD,atp,inq⟩
   rw [zaU,yV] at atp
   have s14:=s23.trans of4.same
   refine q D ps cs H4 (r1.same.trans s14) (r1.same.free (s23.free hD)) eD (atp.mono of4.same) (fun q hq=>⟨(r1.new q (inq q hq)).1,fun z=>?_⟩) few
   obtain ⟨row,_,e⟩:=r1.rows.here (inq q hq)
   rw [z,s23.free hD] at e
   cases e
theorem zef:zaw ["finding","taken","left","one"] ["finding","taken"] (zak zdX):=⟨rfl,rfl,rfl,by decide+kernel,rfl,by decide+kernel,by decide+kernel⟩
theorem zh1 (T:Txt K mg t):FnOk P w K mg base CX0 1 t.f_law_open t.fd_law_open ["finding","taken"] (zmC K):=by
 refine T.d_law_open.F.okB zef (fun vs H Q E h=>?_) (fun cdv A outer s H vs Q E hr h=>?_)
 ·obtain ⟨d,a,w,kvs,ts,rfl,_⟩:=h
  rfl
 obtain ⟨d,a,w,kvs,ts,rfl,hd,fd,wf,ha,q⟩:=h
 have hu1:=zgo hr
 have hu64:=hr.units
 have lf:=zcc wf
 have lk:=yX fd
 refine ⟨_,(zad (zal (k:=2) zef.nd rfl (Or.inl rfl) (zav zac))
  (zad (zaQ qH rfl (zjk (bpv 0)) (zaj (k:=3) zef.nd rfl (Or.inl rfl)) (zag (zaP (zdt (zir (zap (zfH hu64) (zcZ hu1 (bpv 0) (bpv 3) (fun _ _=>rfl)) (zav zac) (zaB _)) (zhq (zap (zk6 hu64) (zaM rfl (N:=["k","taken"]) (n:=1) (cap:=[1]) (za5 rfl rfl) (zaH (zcZ hu1 (bpv 0) (bpv 3) (fun _ _=>rfl))) (zaz (by decide)) (fun _ _ _ _=>(zaj (k:=0) (show (["k","taken"]:List Str).Nodup by decide+kernel) rfl (Or.inl rfl))) (fun _ _ _ _=>(zc0 (zap (zdU (K:=K)) (bpv 0) (bpv 1) rfl))) (fun _ _ _ _=>(bpv 0))) (zav zac) (zaB _))))) (zag (zbm (zds qS jC jD zbv (bpv 2) (zaa (bpv 3) (zac))))) zax)))
  (zag (zar (bpv 2))))),?_⟩
 refine ⟨(by show 0≤yK;decide),fun R hR=>?_⟩
 have dR:d≠R:=zai hd hR
 refine ⟨_,rfl,d,kvs,rfl,zaf hR _ _ _ hd,fun ob=>?_⟩
 obtain ⟨G,eG⟩:∃ G,upd H d (.frz ob (.dT kvs))=G:=⟨_,rfl⟩
 have nG:G R=none:=by rw [← eG,zah (qR dR)];exact hR
 have com:upd (upd H R (.lst [])) d (.frz ob (.dT kvs))=upd G R (.lst []):=by
  rw [← eG]
  funext b
  by_cases z:b=d
  ·rw [z,zab,zah dR,zab]
  ·rw [zah z]
   by_cases y:b=R
   ·rw [y,zab,zab]
   ·rw [zah y,zah y,zah z]
 have sG:Same (hole d H) G:=fun b o e=>by
  by_cases z:b=d
  ·unfold hole at e
   rw [if_pos z] at e
   cases e
  ·rw [zaL z] at e
   rw [← eG,zah z]
   exact e
 have haG:SqL K G a (zaA ts):=sG.seq (zfW ha hd)
 have fdG:zbe G w kvs (allF w):=by rw [← eG];exact fd.put hd _
 have edG:G d=some (.frz ob (.dT kvs)):=by rw [← eG,zab]
 rw [com]
 refine zmq (d:=d) (ob:=ob) (kvs:=kvs) (fun i σ H4=>∃ (o3:Option V) (ys:List V),σ = [some (.ref d),some (.ref a),some (.ref R),o3]∧Off [R] G H4∧H4 R=some (.lst ys)∧zbT H4 ys (((allF w).take i).filter fun f=>decide (zaC w f≠[]) && !za7 (zaC w f) ts))
  ⟨_,[],rfl,Off.start nG _,zab,.nil⟩ (fun i σ H4 _ ⟨_,_,_,o,_⟩=>o.same _ _ edG) ?_ ?_
 ·rintro i b p σ H4 hp ⟨o3,ys,rfl,of4,eR,fa⟩ hb
  obtain ⟨f,hf,ep,l,el,hl⟩:=zaI fdG hp
  have li:i < (allF w).length:=(yE.mp hf).1
  have et:(allF w).take (i+1)=(allF w).take i++ [f]:=by rw [yR,hf];rfl
  have gf:=zaW (yH hf)
  have hit:=zbe.hit fdG (zc9 w) hp hf
  rw [el] at hit
  rw [ep] at hb
  have lf2:=yX fa
  have lf3:=qU (fun f=>decide (zaC w f≠[]) && !za7 (zaC w f) ts) ((allF w).take i)
  rw [yU] at lf3
  have dg:∀ {H5:Hp},Same H4 H5→DGet H5 d (.ref b) (some (.ref l)):=fun {H5} s=>.inr ⟨kvs,fkK f,b,.inr ⟨ob,s _ _ (of4.same _ _ edG)⟩,rfl,hb.same s,hit.symm⟩
  have ln:=zdR gf wf
  refine ⟨_,rfl,_,rfl,d,_,rfl,dg (Same.refl _),(by show 0≤yK;decide),fun E1 hE1=>?_⟩
  have k1:=zaf hE1 (.lst [])
  refine ⟨_,_,Rep.lst (.of (k1 _ _ (of4.same _ _ hl))) (zc8 _),Rep.lst (.of zab) .nil,zaJ _,zaJ [],fun e=>?_,fun e=>?_⟩
  ·have ne:=(zdW _).mp e
   refine ⟨_,rfl,iteF ?_⟩
   refine ⟨_,ys,rfl,of4.grow k1,k1 _ _ eR,?_⟩
   rw [et,qP,qZ (by simp [ne]),vF,jH]
   exact fa.mono k1
  ·have ne:zaC w f≠[]:=fun z=>e ((zdW _).mpr z)
   refine ⟨_,rfl,iteT ⟨_,rfl,_,rfl,d,_,rfl,dg k1,l,rfl,⟨_,.of (k1 _ _ (of4.same _ _ hl))⟩,fun D hD=>?_⟩⟩
   refine zaO (K:=K) (a:=l) (xs:=zaA (zaC w f)) (fun j H5=>Off [D] (upd H4 E1 (.lst [])) H5∧H5 D=some (.lst (zaA (((zaC w f).take j).filter fun k=>decide (k∈ts)))))
    ⟨Off.start hD _,zab⟩ (fun j H5 _ ⟨o,_⟩=>.of (o.same _ _ (k1 _ _ (of4.same _ _ hl)))) ?_ ?_
   ·rintro j v H5 hv ⟨of5,eD⟩
    obtain ⟨k,hk,rfl⟩:=zcj hv
    have lj:j < (zaC w f).length:=(yE.mp hk).1
    have et5:(zaC w f).take (j+1)=(zaC w f).take j++ [k]:=by rw [yR,hk];rfl
    refine ⟨_,rfl,_,rfl,a,_,rfl,.inl ((of4.same.trans (k1.trans of5.same)).seq haG),rfl,zes ts,?_⟩
    rw [if_neg yQ,zfq]
    by_cases c:k∈ts
    ·rw [decide_eq_true c]
     refine ⟨_,rfl,iteT ⟨_,rfl,_,eD,?_,of5.write (.head _) _,?_⟩⟩
     ·rw [zaU]
      have:=qU (fun k=>decide (k∈ts)) ((zaC w f).take j)
      rw [yU] at this
      exact big (by omega)
     ·rw [zab,et5,qP,jK (by simpa using c)]
      unfold zaA
      rw [yN]
      rfl
    ·rw [decide_eq_false c]
     refine ⟨_,rfl,iteF ⟨of5,?_⟩⟩
     rw [eD,et5,qP,qZ (by simpa using c),vF,jH]
   ·rintro H5 ⟨of5,eD⟩
    rw [zaU,yV] at eD
    have em:za7 (zaC w f) ts=false↔(zaC w f).filter (fun k=>decide (k∈ts))= []:=by
     unfold za7
     rw [vU,ybf]
    have s45:=k1.trans of5.same
    refine ⟨(by show 0≤yK;decide),fun E2 hE2=>?_⟩
    have k6:=zaf hE2 (.lst [])
    have s46:=s45.trans k6
    refine ⟨_,_,Rep.lst (.of (k6 _ _ eD)) (zc8 _),Rep.lst (.of zab) .nil,zaJ _,zaJ [],fun e=>?_,fun e=>?_⟩
    ·have no:=em.mpr ((zdW _).mp e)
     refine ⟨_,rfl,iteT ⟨_,rfl,.inl ⟨rfl,_,.of (s46 _ _ eR)⟩,_,rfl,R,_,_,rfl,rfl,s46 _ _ eR,big (by omega),?_⟩⟩
     refine ⟨_,ys++ [.ref b],rfl,(of4.grow s46).write (.head _) _,zab,?_⟩
     rw [et,qP,jK (by simp [ne,no])]
     refine zbT.write (zbT.app (fa.mono s46) (.cons ⟨b,rfl,?_⟩ .nil)) (s46 _ _ eR) _
     rw [← zhD]
     exact hb.same s46
    ·have yes:za7 (zaC w f) ts=true:=by
      cases z:za7 (zaC w f) ts with
      | true=>rfl
      | false=>exact absurd ((zdW _).mpr (em.mp z)) e
     refine ⟨_,rfl,iteF ⟨_,ys,rfl,of4.grow s46,s46 _ _ eR,?_⟩⟩
     rw [et,qP,qZ (by simp [yes]),vF,jH]
     exact fa.mono s46
 ·rintro σ H4 ⟨o3,ys,rfl,of4,eR,fa⟩
  rw [lk,yV] at fa
  exact ⟨_,rfl,q R ob ys H4 (sG.trans of4.same) (of4.same _ _ edG) hR eR fa⟩
theorem ziC (T:Txt K mg t):FnOk P w K mg base CX0 1 t.f_law_open t.fd_law_open ["finding","taken"] (zoa K):=by
 refine (zh1 T).thaw.imp fun vs H Q E h=>?_
 obtain ⟨d,a,w,kvs,ts,rfl,hd,fd,wf,ha,q⟩:=h
 refine ⟨d,a,w,kvs,ts,rfl,hd,fd,wf,ha,fun r ob ys H' s e nr er fa=>⟨d,ob,_,_,hd,e,q r ys _ (fun b o hb=>?_) ?_ ?_⟩⟩
 ·by_cases z:b=d
  ·rw [z,hd] at hb
   cases hb
   rw [z]
   exact zab
  ·rw [zah z]
   exact s _ _ (by rw [zaL z];exact hb)
 ·rw [zah (qR (zai hd nr))]
  exact er
 ·exact Paired.mapP fa fun v f ⟨b,e1,e2⟩=>⟨b,e1,e2.put (fun z=>by rcases e2 with h | ⟨_,h⟩ <;> (rw [z,e] at h;cases h))⟩
theorem zbd:zaw ["finding","taken","k","paper","fault","numbers","number","inner"] ["finding","taken","k","paper"] (zak zbJ):=⟨rfl,rfl,rfl,by decide+kernel,rfl,by decide+kernel,by decide+kernel⟩
theorem zoq {k0 m:Nat}(T:Txt K mg t)(hk: 1≤k0)(rec:FnOk P w K mg base CX0 k0 t.f_is_need_let_by t.fd_is_need_let_by ["finding","taken","k","paper"] (zm4 m)):FnOk P w K mg base CX0 (k0+1) t.f_is_need_let_by t.fd_is_need_let_by ["finding","taken","k","paper"] (zm4 (m+1)):=by
 refine T.d_is_need_let_by.F.okB zbd (fun vs H Q E h=>?_) (fun cdv A outer s H vs Q E hr h=>?_)
 ·obtain ⟨d,ta,k,v,w,kvs,ts,p,rfl,_⟩:=h
  rfl
 obtain ⟨d,ta,k,v,w,kvs,ts,p,rfl,hd,fd,wf,hta,lts,pa,q⟩:=h
 have hu1:=zgo hr
 have lfd:=ziz wf
 refine ⟨_,(zad (zal (k:=4) zbd.nd rfl (Or.inl rfl) (zao zay (bpv 3) zae (fun _ _=>rfl)))
  (zad (zaP (zdt (zdu (zkE (zgB hu1 (bpv 4) (bpv 0))) (zdi (zc1 (zam (zio T) (hr.mono (jY (by decide) hk)) rfl T.d_meet.m T.d_meet.F.kp T.d_meet.b .nil zaK (zaa (zcZ hu1 (bpv 0) (bpv 4) (fun _ _=>rfl)) (zaa (bpv 1) (zac)))))))) (zag (zar zbR)) zax)
  (zad (zaP (zap zct (zao zay (bpv 3) zae (fun _ _=>rfl)) zau (zaB _)) (zag (zar (zcs zct (bpv 2) zae (zaB _)))) zax)
  (zad (zal (k:=5) zbd.nd rfl (Or.inl rfl) (zcZ hu1 (bpv 0) (bpv 4) (fun _ _=>rfl)))
  (zad (zaP (zdt (zdu (zap zlo (bpv 2) zae (zaB _)) (zdi (zap zkZ (zat zaq rfl T.z_len qL (zaa (zao zay (bpv 3) zae (fun _ _=>rfl)) (zac))) (zat zaq rfl T.z_len qL (zaa (bpv 5) (zac))) (zaB _))))) (zag (zar zbR)) zax)
  (zad (zaQ qH rfl (zim rfl T.z_zip (zaa (bpv 5) (zaa (zao zay (bpv 3) zae (fun _ _=>rfl)) (zac)))) (zdz rfl (zaD (zaj (k:=6) zbd.nd rfl (Or.inl rfl)) (zaD (zaj (k:=7) zbd.nd rfl (Or.inl rfl)) zbI))) (zag (zaP (zdG (zc1 (zam rec hr rfl T.d_is_need_let_by.m T.d_is_need_let_by.F.kp T.d_is_need_let_by.b .nil zaK (zaa (bpv 0) (zaa (zan zcY (bpv 1) (zav (zaa (bpv 6) (zac)))) (zaa (zan zc4 (bpv 2) zae) (zaa (bpv 7) (zac)))))))) (zag (zar zbR)) zax)))
  (zag (zar zbR)))))))),?_⟩
 have bad:∀ {H'},Same H H'→zbB (fdW w) (m+1) ts k p=false→Q (.bl false) H':=fun {H'} s e=>by
  have:=q H' s
  rw [e] at this
  exact this
 have no0:∀ {f:List Key},fdW w f= []→∀ p',(p'= .none f∨∃ ps,p'= .of f ps)→zbB (fdW w) (m+1) ts k p'=false:=fun {f} e p' h=>by
  rcases h with rfl | ⟨ps,rfl⟩ <;> (unfold zbB;rw [e];rfl)
 have no1:∀ {f:List Key},za7 (fdW w f) ts=true→∀ p',(p'= .none f∨∃ ps,p'= .of f ps)→zbB (fdW w) (m+1) ts k p'=false:=fun {f} e p' h=>by
  rcases h with rfl | ⟨ps,rfl⟩ <;> (unfold zbB;rw [e];simp)
 cases p with
 | none f=>
  obtain ⟨a,b,rfl,ha,hb⟩:=pa
  refine ⟨_,rfl,a,_,_,_,rfl,rfl,.of ha,rfl,?_⟩
  refine ⟨_,rfl,_,rfl,d,_,rfl,DGet.r hd hb,?_⟩
  rcases ze0 fd f with ⟨e1,e2⟩ | ⟨e1,l,e2,e3⟩
  ·rw [e1]
   exact ⟨_,rfl,iteT (iteT (bad (Same.refl _) (no0 e2 _ (.inl rfl))))⟩
  ·rw [e2]
   refine ⟨_,rfl,iteF ⟨_,rfl,_,rfl,d,_,rfl,by rw [← e2];exact DGet.r hd hb,_,rfl,l,ta,fdW w f,ts,rfl,.of e3,.of hta,lfd f,fun H1 s1=>?_⟩⟩
   cases mt:za7 (fdW w f) ts with
   | true=>exact ⟨_,rfl,iteT (bad s1 (no1 mt _ (.inl rfl)))⟩
   | false=>
    refine ⟨_,rfl,iteF ⟨_,rfl,a,_,_,_,rfl,rfl,.of (s1 _ _ ha),rfl,rfl,_,rfl,ite2 (fun c=>?_) (fun c=>absurd (decide_eq_true rfl) c)⟩⟩
    refine ⟨_,rfl,rfl,?_⟩
    have:=q H1 s1
    unfold zbB at this
    rw [mt,decide_eq_true e1] at this
    have e:(decide (V.int k=V.int 0))=decide (k=0):=decide_eq_decide.mpr ⟨V.int.inj,fun z=>by rw [z]⟩
    rw [e]
    exact this
 | of f ps=>
  obtain ⟨a,b,pl,xs,rfl,ha,hb,hpl,pr,lxs⟩:=pa
  refine ⟨_,rfl,a,_,_,_,rfl,rfl,.of ha,rfl,?_⟩
  refine ⟨_,rfl,_,rfl,d,_,rfl,DGet.r hd hb,?_⟩
  rcases ze0 fd f with ⟨e1,e2⟩ | ⟨e1,l,e2,e3⟩
  ·rw [e1]
   exact ⟨_,rfl,iteT (iteT (bad (Same.refl _) (no0 e2 _ (.inr ⟨ps,rfl⟩))))⟩
  ·have len:=yX pr
   rw [e2]
   refine ⟨_,rfl,iteF ⟨_,rfl,_,rfl,d,_,rfl,by rw [← e2];exact DGet.r hd hb,_,rfl,l,ta,fdW w f,ts,rfl,.of e3,.of hta,lfd f,fun H1 s1=>?_⟩⟩
   cases mt:za7 (fdW w f) ts with
   | true=>exact ⟨_,rfl,iteT (bad s1 (no1 mt _ (.inr ⟨ps,rfl⟩)))⟩
   | false=>
    refine ⟨_,rfl,iteF ⟨_,rfl,a,_,_,_,rfl,rfl,.of (s1 _ _ ha),rfl,rfl,_,rfl,ite2 (fun c=>absurd (V.str.inj (of_decide_eq_true c)) (by decide)) (fun c=>?_)⟩⟩
    refine ⟨_,rfl,_,rfl,d,_,rfl,by rw [← e2];exact DGet.r (s1 _ _ hd) (hb.same s1),?_⟩
    have ew:zbB (fdW w) (m+1) ts k (.of f ps)=(decide (1≤k) && decide (ps.length=(fdW w f).length) && ((fdW w f).zip ps).all fun jp=>zbB (fdW w) m (ts++ [jp.1]) (k - 1) jp.2):=by
     conv=>lhs;unfold zbB
     rw [mt,decide_eq_true e1]
     rfl
    rw [ew] at q bad
    refine ⟨_,rfl,_,_,rfl,rfl,_,rfl,ite2 (fun c1=>iteT (bad s1 ?_)) (fun c1=>?_)⟩
    ·rw [decide_eq_false (by have:=of_decide_eq_true c1;omega)]
     rfl
    have k1: 1≤k:=by
     have:¬k < 1:=fun z=>c1 (decide_eq_true z)
     omega
    have ln:=zaU (fdW w f)
    refine ⟨_,rfl,a,_,_,_,rfl,rfl,.of (s1 _ _ ha),rfl,pl,_,rfl,.inl (.of (s1 _ _ hpl)),_,rfl,l,_,rfl,.inl (.of (s1 _ _ e3)),rfl,_,rfl,ite2 (fun c2=>bad s1 ?_) (fun c2=>?_)⟩
    ·have:¬ps.length=(fdW w f).length:=fun z=>by
      rw [len,ln,z] at c2
      simp at c2
     rw [decide_eq_false this,Bool.and_false]
     rfl
    have el:ps.length=(fdW w f).length:=by
     by_cases z:ps.length=(fdW w f).length
     ·exact z
     ·refine absurd ?_ c2
      rw [len,ln]
      simpa using fun y=>z (by omega)
    rw [decide_eq_true k1,decide_eq_true el,yaw,yaw] at q bad
    obtain ⟨F,eF⟩:∃ F:Nat×Pap→Bool,(fun jp:Nat×Pap=>zbB (fdW w) m (ts++ [jp.1]) (k - 1) jp.2)=F:=⟨_,rfl⟩
    rw [eF] at q bad
    refine ⟨_,rfl,_,rfl,a,_,_,_,rfl,rfl,.of (s1 _ _ ha),rfl,l,pl,_,_,rfl,s1 _ _ e3,s1 _ _ hpl,ziD (a:=l) (b:=pl) (xs:=zaA (fdW w f)) (ys:=xs) (by rw [ln,len,el]) (fun i σ H2=>∃ o6 o7:Option V,σ = [some (.ref d),some (.ref ta),some (.int k),some (.ref a),some (.ref b),some (.ref l),o6,o7]∧Same H H2∧∀ jp∈((fdW w f).zip ps).take i,F jp=true)
     ⟨_,_,rfl,s1,fun _ z=>by simp at z⟩ (fun i σ H2 _ ⟨_,_,_,s,_⟩=>⟨s _ _ e3,s _ _ hpl⟩) ?_ ?_⟩
    ·rintro i x y σ H2 T1 hx hy ⟨o6,o7,rfl,s2,bef⟩ hT
     obtain ⟨j,hj,rfl⟩:=zcj hx
     obtain ⟨pi,hpi,pai⟩:=zaI pr hy
     have kT:=zaf hT (.tup [.int (j:Int),y])
     have ez:((fdW w f).zip ps)[i]? =some (j,pi):=by rw [wG];exact ⟨hj,hpi⟩
     refine ⟨T1,_,rfl,.of zab,rfl,_,_,rfl,_,_,rfl,rfl,?_⟩
     refine ⟨_,rfl,_,rfl,_,rfl,(by show 1≤yK;decide),fun S hS=>?_⟩
     have kS:=zaf hS (.lst [.int (j:Int)])
     have s3:=s2.trans (kT.trans kS)
     refine ⟨ta,S,_,_,rfl,rfl,s3 _ _ hta,zab,bigE (by rw [zaU];show ts.length+1≤100000;omega),fun B hB=>?_⟩
     have kB:=zaf hB (.lst (zaA ts++ [.int (j:Int)]))
     have s4:=s3.trans kB
     have eB:zaA (ts++ [j])=zaA ts++ [.int (j:Int)]:=by unfold zaA;rw [yN];rfl
     refine ⟨_,rfl,_,_,rfl,rfl,_,rfl,d,B,k - 1,y,w,kvs,ts++ [j],pi,rfl,s4 _ _ hd,fd.mono s4,wf,by rw [zab,eB],by rw [yI,qC];omega,pai.mono s4,fun H3 s5=>?_⟩
     have s6:=s4.trans s5
     have eFj:zbB (fdW w) m (ts++ [j]) (k - 1) pi=F (j,pi):=by rw [← eF]
     rw [eFj]
     cases z:F (j,pi) with
     | true=>
      refine ⟨_,rfl,iteF ⟨_,_,rfl,s6,fun jp hjp=>?_⟩⟩
      rw [yR,ez] at hjp
      rcases qG.mp hjp with y | y
      ·exact bef jp y
      ·rw [yG.mp y];exact z
     | false=>
      refine ⟨_,rfl,iteT (bad s6 ?_)⟩
      rw [yb1]
      exact ⟨(j,pi),yH ez,by rw [z];decide⟩
    ·rintro σ H2 ⟨o6,o7,rfl,s2,bef⟩
     have:=q H2 s2
     have e:((fdW w f).zip ps).all F=true:=by
      rw [yZ]
      intro jp hjp
      refine bef jp ?_
      rw [xD (by rw [List.length_zip,ln];omega)]
      exact hjp
     rw [e] at this
     exact this
theorem zma (T:Txt K mg t):∀ m:Nat,FnOk P w K mg base CX0 (1+m) t.f_is_need_let_by t.fd_is_need_let_by ["finding","taken","k","paper"] (zm4 m)
 | 0=>⟨fun vs H Q E ⟨_,_,_,_,_,_,_,_,_,_,_,_,_,_,z,_⟩=>z.elim,fun A outer s H args us vs Q E hr a b c ⟨_,_,_,_,_,_,_,_,_,_,_,_,_,_,z,_⟩=>z.elim⟩
 | m+1=>zoq T (xT 1 m) (zma T m)
theorem zeU (T:Txt K mg t):FnOk P w K mg base CX0 9 t.f_is_need_let_by t.fd_is_need_let_by ["finding","taken","k","paper"] (zm4 8):=zma T 8
theorem zg2:zaw ["works","k","paper"] ["works","k","paper"] (zak zcN):=⟨rfl,rfl,rfl,by decide+kernel,rfl,by decide+kernel,by decide+kernel⟩
theorem zez (T:Txt K mg t):FnOk P w K mg base CX0 10 t.f_need_shows t.fd_need_shows ["works","k","paper"] (sp_ns8 K):=by
 refine T.d_need_shows.F.okB zg2 (fun vs H Q E h=>?_) (fun cdv A outer s H vs Q E hr h=>?_)
 ·obtain ⟨x,v,k,w,p,rfl,_⟩:=h
  rfl
 obtain ⟨x,v,k,w,p,rfl,hx,wf,pa,q⟩:=h
 refine ⟨_,(zag (zar (zam (zeU T) (hr.mono (by decide)) rfl T.d_is_need_let_by.m T.d_is_need_let_by.F.kp T.d_is_need_let_by.b .nil zaK (zaa (zam (zbP T) (hr.mono (by decide)) rfl T.d_finding_rows.m T.d_finding_rows.F.kp T.d_finding_rows.b .nil zaK (zaa (bpv 0) (zac))) (zaa (zav zac) (zaa (bpv 1) (zaa (bpv 2) (zac)))))))),?_⟩
 refine ⟨_,rfl,x,w,rfl,hx,wf,fun d kvs H1 s1 nd ed fd=>⟨(by show 0≤yK;decide),fun E1 hE1=>?_⟩⟩
 have kE:=zaf hE1 (.lst [])
 exact ⟨_,rfl,_,rfl,d,E1,k,v,w,kvs,[],p,rfl,kE _ _ ed,fd.mono kE,wf,zab,by decide,pa.mono (s1.trans kE),fun H2 s2=>q H2 ((s1.trans kE).trans s2)⟩
theorem zb4:zaw ["finding","taken","k","left","fault","papers"] ["finding","taken","k"] (zak zbW):=⟨rfl,rfl,rfl,by decide+kernel,rfl,by decide+kernel,by decide+kernel⟩
theorem znS {k0 m:Nat}(T:Txt K mg t)(hk: 1≤k0)(rec:FnOk P w K mg base CX0 k0 t.f_need_behind t.fd_need_behind ["finding","taken","k"] (znl t.lp m)):FnOk P w K mg base CX0 (k0+1) t.f_need_behind t.fd_need_behind ["finding","taken","k"] (znl t.lp (m+1)):=by
 obtain ⟨_,lc,ecd,hck⟩:=zly T.kl
 refine T.d_need_behind.F.okL zb4 (fun vs H Q E h=>?_) (fun cdv A outer s H vs Q E hcd hr h=>?_)
 ·obtain ⟨d,ta,k,w,kvs,ts,rfl,_⟩:=h
  rfl
 obtain ⟨d,ta,k,w,kvs,ts,rfl,hd,fd,wf,i3,hta,lts,km,low,tab,q⟩:=h
 have hu1:=zgo hr
 have hcode:cdv= .ref lc:=hcd.symm.trans ecd
 have hdep:=hr.depth
 have huL:∀ {e:Env},((A.deeper (PyProof.Rows.envOfC "need_behind" (zak zbW) s.heap.objs.size t.f_need_behind cdv)).in1.deeper e).units+1 < cLine:=fun {e}=>by
  have:=hr.units
  show _+1+3+1 < _
  omega
 have lk:=yX fd
 have lfd:=ziz wf
 have lfo:(zaF w).length≤400:=by
  have:=qU (fun f=>decide (zaC w f≠[])) (allF w)
  have:=zcc wf
  unfold zaF
  omega
 refine ⟨_,(zad (zmE (zdn (k:=3) rfl (N:=["fault","taken","finding"]) (n:=1) (cap:=[1,0]) (za5 rfl rfl) zb4.nd rfl rfl (zjk (bpv 0)) (zaz (by decide)) (fun _ _ _ _=>(zaj (k:=0) (show (["fault","taken","finding"]:List Str).Nodup by decide+kernel) rfl (Or.inl rfl))) (fun _ _ _ _=>(zc0 (zdG (zc1 (zam (zio T) (hr.mono (jY (by decide) hk)) rfl T.d_meet.m T.d_meet.F.kp T.d_meet.b .nil zaK (zaa (zcZ hu1 (bpv 2) (bpv 0) (fun _ _=>rfl)) (zaa (bpv 1) (zac)))))))) (fun _ _ _ _=>(bpv 0)) rfl))
  (zad (zal (k:=4) zb4.nd rfl (Or.inl rfl) (zmn (N:=["one","finding"]) (cap:=[0]) (x:="one") rfl hdep rfl T.z_min (zaa (bpv 3) (zac)) (za5 rfl rfl) hcode hck T.kb rfl rfl rfl rfl (fun _ _ _ _ _=>rfl) rfl (fun _ _ _ _ _=>(zat (zhs (K:=K)) rfl T.z_len qL (zaa (zcZ huL (bpv 1) (bpv 0) (fun _ _=>rfl)) (zac))))))
  (zad (zaP (zap zct (bpv 2) zae (zaB _)) (zag (zar (za0 (zaa zau (zaa (bpv 4) (zac)))))) zax)
  (zad (zdn (k:=5) rfl (N:=["number","finding","taken","k"]) (n:=1) (cap:=[0,1,2]) (za5 rfl rfl) zb4.nd rfl rfl (zaH (zcZ hu1 (bpv 0) (bpv 4) (fun _ _=>rfl))) (zaz (by decide)) (fun _ _ _ _=>(zaj (k:=0) (show (["number","finding","taken","k"]:List Str).Nodup by decide+kernel) rfl (Or.inl rfl))) (fun _ _ _ _=>zaN) (fun _ _ _ _=>(zam rec hr rfl T.d_need_behind.m T.d_need_behind.F.kp T.d_need_behind.b .nil zaK (zaa (bpv 1) (zaa (zan zcY (bpv 2) (zav (zaa (bpv 0) (zac)))) (zaa (zan zc4 (bpv 3) zae) (zac)))))) rfl)
  (zag (zar (za0 (zaa zau (zaa (bpv 4) (zaa (bpv 5) (zac))))))))))),?_⟩
 refine ⟨_,rfl,d,kvs,rfl,hd,fun ob D hD=>?_⟩
 obtain ⟨G,eG⟩:∃ G,upd H d (.frz ob (.dT kvs))=G:=⟨_,rfl⟩
 rw [eG] at hD ⊢
 have sG:∀ b o,b≠d→H b=some o→G b=some o:=fun b o n e=>by rw [← eG,zah n];exact e
 have taG:G ta=some (.lst (zaA ts)):=sG _ _ (zeZ hta hd fun z=>nomatch z) hta
 have fdG:zbe G w kvs (zaF w):=by rw [← eG];exact fd.put hd _
 have edG:G d=some (.frz ob (.dT kvs)):=by rw [← eG,zab]
 refine zlH (d:=d) (ob:=ob) (kvs:=kvs) (fun j H4=>∃ ys:List V,Off [D] G H4∧H4 D=some (.lst ys)∧zbT H4 ys (((zaF w).take j).filter fun f=>!za7 (zaC w f) ts))
  ⟨[],Off.start hD _,zab,.nil⟩ (fun i H4 _ ⟨_,o,_⟩=>o.same _ _ edG) ?_ ?_
 ·rintro i b p H4 hp ⟨ys,of4,eD,fa⟩ hb
  obtain ⟨f,hf,ep,l,el,hl⟩:=zaI fdG hp
  have li:i < (zaF w).length:=(yE.mp hf).1
  have et:(zaF w).take (i+1)=(zaF w).take i++ [f]:=by rw [yR,hf];rfl
  have gf:=zaW (yT.mp (yH hf)).1
  have hit:=zbe.hit fdG ((zc9 w).sublist yaG) hp hf
  rw [el] at hit
  rw [ep] at hb
  have lf2:=yX fa
  have lf3:=qU (fun f=>!za7 (zaC w f) ts) ((zaF w).take i)
  rw [yU] at lf3
  have ln:=zdR gf wf
  refine ⟨_,rfl,_,rfl,d,_,rfl,.inr ⟨kvs,fkK f,b,.inr ⟨ob,of4.same _ _ edG⟩,rfl,hb,hit.symm⟩,_,rfl,l,ta,zaC w f,ts,rfl,.of (of4.same _ _ hl),.of (of4.same _ _ taG),ln,fun H5 s5=>⟨_,rfl,?_⟩⟩
  cases mt:za7 (zaC w f) ts with
  | true=>
   refine iteF ⟨ys,of4.grow s5,s5 _ _ eD,?_⟩
   rw [et,qP,qZ (by simp [mt]),vF,jH]
   exact fa.mono s5
  | false=>
   refine iteT ⟨_,rfl,_,s5 _ _ eD,big (by omega),ys++ [.ref b],(of4.grow s5).write (.head _) _,zab,?_⟩
   rw [et,qP,jK (by simp [mt])]
   refine zbT.write (zbT.app (fa.mono s5) (.cons ⟨b,rfl,?_⟩ .nil)) (s5 _ _ eD) _
   rw [← zhD]
   exact hb.same s5
 rintro H4 ⟨ys,of4,eD,fa⟩
 rw [lk,yV] at fa
 refine ⟨d,ob,kvs,kvs,hd,of4.same _ _ edG,?_⟩
 have hHD:H D=none:=by
  have:D≠d:=fun z=>by rw [z,edG] at hD;cases hD
  rw [← eG,zah this] at hD
  exact hD
 have dD:d≠D:=zai hd hHD
 have s1:Same H (upd H4 d (.dT kvs)):=fun b o e=>by
  by_cases z:b=d
  ·rw [z,hd] at e;cases e
   rw [z];exact zab
  ·rw [zah z]
   exact of4.same _ _ (sG _ _ z e)
 have eD1:upd H4 d (.dT kvs) D=some (.lst ys):=by rw [zah (qR dD)];exact eD
 have fa1:zbT (upd H4 d (.dT kvs)) ys ((zaF w).filter fun f=>!za7 (zaC w f) ts):=Paired.mapP fa fun v f ⟨b,e1,e2⟩=>⟨b,e1,e2.put (fun z=>by rcases e2 with h | ⟨_,h⟩ <;> (rw [z,of4.same _ _ edG] at h;cases h))⟩
 generalize upd H4 d (.dT kvs)=H1 at s1 eD1 fa1
 have tab1:=tab.same s1
 have ny: 0 < ys.length:=by
  rw [yX fa1]
  obtain ⟨f,hf,e⟩:=znI low
  exact ybh (yT.mpr ⟨hf,by simp [e]⟩)
 refine ⟨_,rfl,D,ys,rfl,.of eD1,ny,tab1,fun H2 s2 tab2=>?_⟩
 have kp2:Kp H H2:=(zge s1).trans (zhi s2 tab1)
 have hd2:=kp2 _ _ hd fun _ z=>nomatch z
 have hta2:=kp2 _ _ hta fun _ z=>nomatch z
 have fd2:=fd.kp kp2
 have sp2:SamP t.lp H H2:=(Same.samP s1).trans s2
 have item:∀ (i:Nat) (v:V),ys[i]? =some v→∃ (f:Flt) (b l:Addr),((zaF w).filter fun f=>!za7 (zaC w f) ts)[i]? =some f∧v= .ref b∧RdT H2 b ((fkK f).map kV)∧fdW w (fkK f)≠[]∧valV kvs (fkK f)=some (.ref l)∧H2 l=some (.lst (zaA (fdW w (fkK f))))∧za7 (fdW w (fkK f)) ts=false∧f∈zaF w:=fun i v hv=>by
  obtain ⟨f,hf,b,ev,hb⟩:=zaI fa1 hv
  obtain ⟨hf1,hf2⟩:=yT.mp (yH hf)
  have ef:=zd2 (yT.mp hf1).1
  rcases ze0 fd2 (fkK f) with ⟨_,e2⟩ | ⟨e1,l,e2,e3⟩
  ·rw [ef] at e2
   exact absurd e2 (zfZ hf1)
  ·refine ⟨f,b,l,hf,ev,zi0 s2 tab1 (by rw [zhD];exact hb),e1,e2,e3,?_,hf1⟩
   rw [ef]
   simpa using hf2
 refine ⟨fun i=>((((zaF w).filter fun f=>!za7 (zaC w f) ts)[i]?).map fun f=>((fdW w (fkK f)).length:Int)).getD 0,fun i v hv=>?_,fun i v hv _=>?_⟩
 ·obtain ⟨f,b,l,hf,rfl,hb,e1,e2,e3,_⟩:=item i v hv
  refine ⟨_,rfl,_,rfl,d,_,rfl,by rw [← e2];exact DGet.r hd2 hb,l,_,rfl,.inl (.of e3),?_,rfl⟩
  dsimp only
  rw [hf,zaU]
  rfl
 obtain ⟨f,b,l,hf,rfl,hb,e1,e2,e3,mt,hff⟩:=item i v hv
 clear item
 refine ⟨_,rfl,rfl,_,rfl,ite2 (fun c=>?_) (fun c=>?_)⟩
 ·have k0':k=0:=by
   have:=V.int.inj (of_decide_eq_true c)
   omega
  subst k0'
  refine ⟨_,rfl,(by show 2≤yK;decide),fun a ha=>?_⟩
  have ka:=zaf ha (.tup [.str "none",.ref b])
  refine q (.ref a) (.none (fkK f)) _ (sp2.trans (Same.samP ka)) (tab2.same ka) ⟨a,b,rfl,zab,hb.same ka⟩ ?_
  unfold zbB
  rw [mt,decide_eq_true e1]
  rfl
 obtain ⟨k',rfl⟩:∃ k',k=k'+1:=⟨k - 1,by
  have:¬k=0:=fun z=>c (by rw [z];exact decide_eq_true rfl)
  omega⟩
 have ek:(((k'+1:Nat):Int) - 1)=(k':Int):=by omega
 have gf:=zaW (yT.mp hff).1
 have l1000:=lfd (fkK f)
 have l8:(fdW w (fkK f)).length≤8:=by
  rw [zd2 (yT.mp hff).1,zdJ gf wf]
  unfold zmS
  have:=qU (fun j=>decide ((zbb w [f]).getD j []≠(zbb w []).getD j [])) (qI (2 ^ w.ins.toNat))
  rw [xH] at this
  have i1:=wf.i1
  have:w.ins.toNat=1∨w.ins.toNat=2∨w.ins.toNat=3:=by omega
  have: 2 ^ w.ins.toNat≤8:=by rcases this with e | e | e <;> rw [e] <;> decide
  omega
 refine ⟨_,rfl,_,rfl,d,_,rfl,by rw [← e2];exact DGet.r hd2 hb,l,rfl,⟨_,.of e3⟩,fun D2 hD2=>?_⟩
 have nlP:∀ {b o},H2 b=some o→(∀ ps,o≠.tbl ps)→b≠t.lp:=fun {b o} e n z=>by
  obtain ⟨ps,hP,_⟩:=tab2
  rw [z,hP] at e
  exact n ps (qF e).symm
 have lD:t.lp≠D2:=fun z=>by
  obtain ⟨ps,hP,_⟩:=tab2
  rw [z,hD2] at hP;cases hP
 refine zaO (K:=K) (a:=l) (xs:=zaA (fdW w (fkK f))) (fun j H5=>∃ (xs:List V) (ps:List Pap),(∀ b o,b≠t.lp→b≠D2→H2 b=some o→H5 b=some o)∧zbO t.lp zfd lamQ H5∧H5 D2=some (.lst xs)∧Paired (PapF (upd H2 D2 (.lst [])) H5 (k'+1)) xs ps∧xs.length=j∧∀ (i x:Nat) (p:Pap),(fdW w (fkK f))[i]? =some x→ps[i]? =some p→zbB (fdW w) (k'+1) (ts++ [x]) k' p=true)
  ⟨[],[],fun b o _ n e=>by rw [zah n];exact e,tab2.same (zaf hD2 _),zab,.nil,rfl,fun i x p _ z=>by simp at z⟩ (fun j H5 _ ⟨_,_,k5,_⟩=>.of (k5 _ _ (nlP e3 fun _ z=>nomatch z) (zai e3 hD2) e3)) ?_ ?_
 ·rintro j v H5 hv ⟨xs,ps,k5,tab5,eD5,pr,lx,wk⟩
  obtain ⟨x,hx,rfl⟩:=zcj hv
  have lj:j < (fdW w (fkK f)).length:=(yE.mp hx).1
  have lps:=yX pr
  have get5:∀ {b:Addr} {o:HO},H2 b=some o→(∀ ps,o≠.tbl ps)→H5 b=some o:=fun {b o} e n=>k5 _ _ (nlP e n) (zai e hD2) e
  refine ⟨_,rfl,_,rfl,_,rfl,(by show 1≤yK;decide),fun S hS=>?_⟩
  have kS:=zaf hS (.lst [.int (x:Int)])
  refine ⟨ta,S,_,_,rfl,rfl,kS _ _ (get5 hta2 fun _ z=>nomatch z),zab,bigE (by rw [zaU];show ts.length+1≤100000;omega),fun B hB=>?_⟩
  have kB:=zaf hB (.lst (zaA ts++ [.int (x:Int)]))
  have eB:zaA (ts++ [x])=zaA ts++ [.int (x:Int)]:=by unfold zaA;rw [yN];rfl
  have s6:=kS.trans kB
  have eB6:upd (upd H5 S (.lst [.int (x:Int)])) B (.lst (zaA ts++ [.int (x:Int)])) B=some (.lst (zaA (ts++ [x]))):=by rw [zab,eB]
  generalize upd (upd H5 S (.lst [.int (x:Int)])) B (.lst (zaA ts++ [.int (x:Int)]))=H6 at s6 eB6
  have fd6:zbe H6 w kvs (zaF w):=Paired.mapP fd2 fun _ _ ⟨a,l,b,c⟩=>⟨a,l,b,s6 _ _ (get5 c fun _ z=>nomatch z)⟩
  refine ⟨_,rfl,_,_,rfl,rfl,d,B,k',w,kvs,ts++ [x],by show [V.ref d,V.ref B,V.int (((k'+1:Nat):Int) - 1)]=_;rw [ek],s6 _ _ (get5 hd2 fun _ z=>nomatch z),fd6,wf,i3,eB6,by rw [yI,qC];omega,by omega,zne low x,tab5.same s6,fun v p H7 s7 tab7 pf wv=>?_⟩
  have tab6:=tab5.same s6
  have eD7:H7 D2=some (.lst xs):=s7 _ _ (qR lD) (s6 _ _ eD5)
  have none6:∀ {l:Addr},H6 l=none→upd H2 D2 (.lst []) l=none:=fun {l} e=>by
   have n1:l≠D2:=fun z=>by rw [z,s6 _ _ eD5] at e;cases e
   rw [zah n1]
   cases z:H2 l with
   | none=>rfl
   | some o=>
    by_cases y:l=t.lp
    ·obtain ⟨ps,hP,_⟩:=tab6
     rw [y,hP] at e;cases e
    ·rw [s6 _ _ (k5 _ _ y n1 z)] at e;cases e
  have tD:∀ {b:Addr} {ys:List V},H7 b=some (.tup ys)→upd H7 D2 (.lst (xs++ [v])) b=some (.tup ys):=fun {b ys} e=>by rw [zah (zeZ e eD7 fun z=>nomatch z)];exact e
  refine ⟨xs,eD7,big (by omega),xs++ [v],ps++ [p],fun b o n1 n2 e=>?_,?_,zab,zeX (Paired.mapP pr fun _ _ q=>?_) (.cons ?_ .nil),by rw [yI,lx];rfl,?_⟩
  ·rw [zah n2]
   exact s7 _ _ n1 (s6 _ _ (k5 _ _ n1 n2 e))
  ·obtain ⟨pt,hP,ok,hh⟩:=tab7
   refine ⟨pt,by rw [zah lD];exact hP,ok,?_⟩
   rcases hh with hh | ⟨c,h1,h2⟩
   ·exact .inl hh
   ·exact .inr ⟨c,h1,by rw [zah (zeZ h2 eD7 fun z=>nomatch z)];exact h2⟩
  ·refine PapF.keep (fun b ys e=>tD (zdm s7 tab6 (s6 _ _ e) fun _ z=>nomatch z)) (fun b ys e=>(zi0 s7 tab6 (e.same s6)).write eD7) (fun l ys e0 e=>⟨?_,e0⟩) q
   have n1:l≠D2:=fun z=>by rw [z,zab] at e0;cases e0
   rw [zah n1]
   exact zdm s7 tab6 (s6 _ _ e) fun _ z=>nomatch z
  ·refine PapF.keep (fun b ys e=>tD e) (fun b ys e=>e.write eD7) (fun l ys e0 e=>⟨?_,none6 e0⟩) pf
   have n1:l≠D2:=fun z=>by rw [z,s6 _ _ eD5] at e0;cases e0
   rw [zah n1]
   exact e
  ·intro i y p' hy hp'
   by_cases z:i < ps.length
   ·rw [jG z] at hp'
    exact wk i y p' hy hp'
   ·rw [jJ (by omega)] at hp'
    have ei:i=ps.length:=by
     have:=(yE.mp hp').1
     rw [qC] at this
     omega
    have ex:i=j:=by omega
    rw [ei,ybp] at hp'
    cases hp'
    rw [ex,hx] at hy
    cases hy
    exact wv
 rintro H5 ⟨xs,ps,k5,tab5,eD5,pr,lx,wk⟩
 rw [zaU] at lx
 have lps:=yX pr
 refine ⟨_,rfl,_,rfl,(by show 3≤yK;decide),fun a ha=>?_⟩
 have ka:=zaf ha (.tup [.str "of",.ref b,.ref D2])
 have nH:∀ {l:Addr},H2 l=none→H l=none:=fun {l} e=>by
  cases z:H l with
  | none=>rfl
  | some o=>
   by_cases y:l=t.lp
   ·obtain ⟨ps,hP,_⟩:=tab2
    rw [y,hP] at e;cases e
   ·rw [sp2 _ _ y z] at e;cases e
 refine q (.ref a) (.of (fkK f) ps) _ (sp2.trans (SamP.trans (fun b o n e=>k5 _ _ n (zai e hD2) e) (Same.samP ka))) (tab5.same ka) ⟨a,b,D2,xs,rfl,zab,?_,ka _ _ eD5,nH hD2,Paired.mapP pr fun _ _ q=>?_,by omega⟩ ?_
 ·rcases hb with h | ⟨o,h⟩
  ·exact .inl (ka _ _ (k5 _ _ (nlP h fun _ z=>nomatch z) (zai h hD2) h))
  ·exact .inr ⟨o,ka _ _ (k5 _ _ (nlP h fun _ z=>nomatch z) (zai h hD2) h)⟩
 ·refine PapF.keep (fun _ _ e=>ka _ _ e) (fun _ _ e=>e.same ka) (fun l ys e0 e=>⟨ka _ _ e,?_⟩) q
  by_cases y:l=D2
  ·rw [y,zab] at e0;cases e0
  ·rw [zah y] at e0;exact nH e0
 ·unfold zbB
  rw [mt,decide_eq_true e1,decide_eq_true (show (1:Int)≤((k'+1:Nat):Int) by omega),decide_eq_true (show ps.length=(fdW w (fkK f)).length by omega),ek]
  simp only [Bool.not_false,Bool.and_self,yaw,yZ]
  rintro ⟨x,p⟩ hxp
  obtain ⟨i,hi,e⟩:=List.getElem_of_mem hxp
  have:=yF hi
  rw [e] at this
  obtain ⟨h1,h2⟩:=wG.mp this
  exact wk i x p h1 h2
theorem zkx (T:Txt K mg t):∀ m:Nat,FnOk P w K mg base CX0 (1+m) t.f_need_behind t.fd_need_behind ["finding","taken","k"] (znl t.lp m)
 | 0=>⟨fun vs H Q E ⟨_,_,_,_,_,_,_,_,_,_,_,_,_,z,_⟩=>absurd z (yaD _),fun A outer s H args us vs Q E hr a b c ⟨_,_,_,_,_,_,_,_,_,_,_,_,_,z,_⟩=>absurd z (yaD _)⟩
 | m+1=>znS T (xT 1 m) (zkx T m)
theorem zgl (T:Txt K mg t):FnOk P w K mg base CX0 9 t.f_need_behind t.fd_need_behind ["finding","taken","k"] (znl t.lp 8):=zkx T 8
theorem zdc:zaw ["works","finding","fewest"] ["works"] (zak zcW):=⟨rfl,rfl,rfl,by decide+kernel,rfl,by decide+kernel,by decide+kernel⟩
theorem zeG (T:Txt K mg t):FnOk P w K mg base CX0 10 t.f_need_paper t.fd_need_paper ["works"] (sp_np K t.lp):=by
 refine T.d_need_paper.F.okB zdc (fun vs H Q E h=>?_) (fun cdv A outer s H vs Q E hr h=>?_)
 ·obtain ⟨x,w,rfl,_⟩:=h
  rfl
 obtain ⟨x,w,rfl,hx,wf,i3,tab,q⟩:=h
 obtain ⟨a,ga,oa,gs,os,rfl,ha,hg,ho,rg,ro⟩:=zbz hx
 have i1:=wf.i1
 have lf:=zcc wf
 have many:=zaS w.ins.toNat
 have p8: 1≤2 ^ w.ins.toNat∧2 ^ w.ins.toNat≤8:=by
  have:w.ins.toNat=1∨w.ins.toNat=2∨w.ins.toNat=3:=by omega
  rcases this with e | e | e <;> rw [e] <;> decide
 have lfo:(zaF w).length≤400:=by
  have:=qU (fun f=>decide (zaC w f≠[])) (allF w)
  unfold zaF
  omega
 refine ⟨_,(zad (zbm (zam (zdB T) (hr.mono (by decide)) rfl T.d_check_inputs.m T.d_check_inputs.F.kp T.d_check_inputs.b .nil zaK (zaa (bpv 0) (zac))))
  (zad (zal (k:=1) zdc.nd rfl (Or.inl rfl) (zam (zbP T) (hr.mono (by decide)) rfl T.d_finding_rows.m T.d_finding_rows.F.kp T.d_finding_rows.b .nil zaK (zaa (bpv 0) (zac))))
  (zad (zal (k:=2) zdc.nd rfl (Or.inl rfl) (zam (zc6 T) (hr.mono (by decide)) rfl T.d_fewest_numbers.m T.d_fewest_numbers.F.kp T.d_fewest_numbers.b .nil zaK (zaa (zat zaq rfl T.z_len qL (zaa (zam (zdC T) (hr.mono (by decide)) rfl T.d_every_row.m T.d_every_row.F.kp T.d_every_row.b .nil zaK (zaa (bpv 0) (zac))) (zac))) (zaa (bpv 1) (zac)))))
  (zag (zar (zam (zgl T) (hr.mono (by decide)) rfl T.d_need_behind.m T.d_need_behind.F.kp T.d_need_behind.b .nil zaK (zaa (bpv 1) (zaa (zav zac) (zaa (zan zc4 (zat zaq rfl T.z_len qL (zaa (bpv 2) (zac))) zae) (zac)))))))))),?_⟩
 refine ⟨_,rfl,a,ga,oa,w.ins,rfl,ha,i3,?_⟩
 refine ⟨_,rfl,.ref a,w,rfl,hx,wf,fun d kvs H1 s1 nd ed fd=>?_⟩
 refine ⟨_,rfl,a,ga,oa,w.ins,rfl,s1.seqT ha,by omega,by omega,fun R qs H2 r2=>?_⟩
 have lq:=r2.rows.len
 refine ⟨R,_,rfl,.inl (.of r2.at_),_,rfl,2 ^ w.ins.toNat,d,kvs,(zaF w).map (zaC w),by rw [yB,lq,many];rfl,p8.1,p8.2,r2.same _ _ ed,(fd.mono r2.same).nums,by rw [yB];omega,fun ns hns=>?_,?_,fun p cs H3 s3 ep few=>?_⟩
 ·obtain ⟨f,hf,rfl⟩:=qE.mp hns
  exact zdR (zaW (yT.mp hf).1) wf
 ·unfold metV
  rw [vZ,yZ]
  intro f hf
  have gf:=zaW (yT.mp hf).1
  obtain ⟨j,hj⟩:=yaT _ (zfZ hf)
  show za7 (zaC w f) _=true
  unfold za7
  rw [xV]
  exact ⟨j,hj,decide_eq_true (qN.mpr (zdV gf wf hj))⟩
 obtain ⟨k,lk,_,low⟩:=zoo wf few
 have k8:k < 8:=by
  obtain ⟨n,_,h8,hc,_⟩:=few
  have:=(zcm.mp (yT.mp (vB hc)).1).2.2
  omega
 have s13:=s1.trans (r2.same.trans s3)
 refine ⟨_,rfl,(by show 0≤yK;decide),fun E1 hE1=>?_⟩
 have kE:=zaf hE1 (.lst [])
 have s14:=s13.trans kE
 have eE:upd H3 E1 (.lst []) E1=some (.lst (zaA [])):=zab
 have ep4:=kE _ _ ep
 have ed4:=(r2.same.trans (s3.trans kE)) _ _ ed
 have fd4:=fd.mono (r2.same.trans (s3.trans kE))
 generalize upd H3 E1 (.lst [])=H4 at s14 eE ep4 ed4 fd4
 have ek:(((zaA cs).length:Nat):Int) - 1=(k:Int):=by rw [zaU,lk];omega
 refine ⟨_,rfl,p,_,rfl,.inl (.of ep4),_,_,rfl,rfl,d,E1,k,w,kvs,[],by show [V.ref d,V.ref E1,V.int ((((zaA cs).length:Nat):Int) - 1)]=_;rw [ek],ed4,fd4,wf,i3,eE,by rw [vD];omega,k8,low,tab.same s14,fun v pp H5 s5 tab5 pf wv=>?_⟩
 refine q v pp cs k H5 ((Same.samP s14).trans s5) tab5 few lk k8 (PapF.keep (fun _ _ e=>e) (fun _ _ e=>e) (fun l ys e0 e=>⟨e,s14.free e0⟩) pf) wv
theorem zdr:zaw ["finding","taken","k","paper","rows","row","part"] ["finding","taken","k","paper"] (zak zd4):=⟨rfl,rfl,rfl,by decide+kernel,rfl,by decide+kernel,by decide+kernel⟩
theorem znN {k0 m:Nat}(T:Txt K mg t)(hk: 0≤k0)(rec:FnOk P w K mg base CX0 k0 t.f_law_walk t.fd_law_walk ["finding","taken","k","paper"] (ziU m)):FnOk P w K mg base CX0 (k0+1) t.f_law_walk t.fd_law_walk ["finding","taken","k","paper"] (ziU (m+1)):=by
 refine T.d_law_walk.F.okB zdr (fun vs H Q E h=>?_) (fun cdv A outer s H vs Q E hr h=>?_)
 ·obtain ⟨d,ta,k,v,w,kvs,ts,p,rfl,_⟩:=h
  rfl
 obtain ⟨d,ta,k,v,w,kvs,ts,p,rfl,hd,fd,wf,hta,lts,pa,wv,q⟩:=h
 have hu1:=zgo hr
 have hu64:=hr.units
 have lfd:=ziz wf
 refine ⟨_,(zad (zaP (zdt (zdu (zdG (zc1 (zat zha rfl T.z_isinstance kP (zaa (bpv 3) (zaa (zgY (v:=.ty "tuple") rfl T.z_tuple ya9 rfl) (zac)))))) (zdu (zap zlo (zat zaq rfl T.z_len qL (zaa (bpv 3) (zac))) zae (zaB _)) (zdi (zkE (zgB hu1 (zao zay (bpv 3) zae (fun _ _=>rfl)) (bpv 0))))))) (zag (zar zbR)) zax)
  (zad (zal (k:=4) zdr.nd rfl (Or.inl rfl) (zcZ hu1 (bpv 0) (zao zay (bpv 3) zae (fun _ _=>rfl)) (fun _ _=>rfl)))
  (zad (zaP (zdt (zdu (zap (zk6 hu64) (bpv 4) (zav zac) (zaB _)) (zdi (zap (zfH hu64) (zaM rfl (N:=["row","taken"]) (n:=1) (cap:=[1]) (za5 rfl rfl) (zaH (bpv 4)) (zaz (by decide)) (fun _ _ _ _=>(zaj (k:=0) (show (["row","taken"]:List Str).Nodup by decide+kernel) rfl (Or.inl rfl))) (fun _ _ _ _=>(zc0 (zap (zdU (K:=K)) (bpv 0) (bpv 1) rfl))) (fun _ _ _ _=>(bpv 0))) (zav zac) (zaB _))))) (zag (zar zbR)) zax)
  (zad (zaP (zap zct (zao zay (bpv 3) zae (fun _ _=>rfl)) zau (zaB _)) (zag (zar (zkN (zcs zct (bpv 2) zae (zaB _)) (zld (zcs zct (zat zaq rfl T.z_len qL (zaa (bpv 3) (zac))) zae (zaB _)))))) zax)
  (zad (zaP (zdt (zdu (zap zkZ (zao zay (bpv 3) zae (fun _ _=>rfl)) zau (zaB _)) (zdu (zap zlo (bpv 2) zae (zaB _)) (zdu (zap zkZ (zat zaq rfl T.z_len qL (zaa (bpv 3) (zac))) zae (zaB _)) (zdi (zdG (zc1 (zat zha rfl T.z_isinstance kP (zaa (zao zay (bpv 3) zae (fun _ _=>rfl)) (zaa (zgY (v:=.ty "list") rfl T.z_list vH rfl) (zac))))))))))) (zag (zar zbR)) zax)
  (zad (zaP (zap zkZ (zat zaq rfl T.z_len qL (zaa (zao zay (bpv 3) zae (fun _ _=>rfl)) (zac))) (zat zaq rfl T.z_len qL (zaa (bpv 4) (zac))) (zaB _)) (zag (zar zbR)) zax)
  (zad (zaQ qH rfl (zim rfl T.z_zip (zaa (bpv 4) (zaa (zao zay (bpv 3) zae (fun _ _=>rfl)) (zac)))) (zdz rfl (zaD (zaj (k:=5) zdr.nd rfl (Or.inl rfl)) (zaD (zaj (k:=6) zdr.nd rfl (Or.inl rfl)) zbI))) (zag (zaP (zdG (zc1 (zam rec hr rfl T.d_law_walk.m T.d_law_walk.F.kp T.d_law_walk.b .nil zaK (zaa (bpv 0) (zaa (zan zcY (bpv 1) (zav (zaa (bpv 5) (zac)))) (zaa (zan zc4 (bpv 2) zae) (zaa (bpv 6) (zac)))))))) (zag (zar zbR)) zax)))
  (zag (zar zbR))))))))),?_⟩
 cases p with
 | none f=>
  obtain ⟨a,b,rfl,ha,hb⟩:=pa
  unfold zbB at wv
  simp only [yW,kY,decide_eq_true_eq] at wv
  obtain ⟨⟨e1,mt⟩,ek⟩:=wv
  refine ⟨_,rfl,_,_,_,_,rfl,.tup (.of ha),rfl,_,rfl,iteF ?_⟩
  refine ⟨_,rfl,a,_,rfl,.inr (.of ha),_,_,rfl,rfl,_,rfl,ite2 (fun c=>absurd (of_decide_eq_true c) (by simp)) (fun _=>?_)⟩
  obtain ⟨l,e2,e3⟩:∃ l,valV kvs f=some (.ref l)∧H l=some (.lst (zaA (fdW w f))):=by
   rcases ziX fd f with ⟨_,z⟩ | ⟨l,z1,z2⟩
   ·exact absurd z e1
   ·exact ⟨l,z1,z2⟩
  have dg:DGet H d (.ref b) (some (.ref l)):=by rw [← e2];exact DGet.r hd hb
  refine ⟨_,rfl,a,_,_,_,rfl,rfl,.of ha,rfl,_,rfl,d,_,rfl,dg,_,rfl,iteF ?_⟩
  refine ⟨_,rfl,_,rfl,a,_,_,_,rfl,rfl,.of ha,rfl,d,_,rfl,dg,?_⟩
  refine ⟨_,rfl,(by show 0≤yK;decide),fun E1 hE1=>?_⟩
  have kE1:=zaf hE1 (.lst [])
  refine ⟨_,_,Rep.lst (.of (kE1 _ _ e3)) (zc8 _),Rep.lst (.of zab) .nil,zaJ _,zaJ [],fun e=>absurd ((zdW _).mp e) e1,fun _=>?_⟩
  refine ⟨_,rfl,iteF ?_⟩
  refine ⟨_,rfl,l,rfl,⟨_,.of (kE1 _ _ e3)⟩,fun D hD=>zaO (K:=K) (a:=l) (xs:=zaA (fdW w f)) (fun j H5=>Off [D] (upd H E1 (.lst [])) H5∧H5 D=some (.lst []))
   ⟨Off.start hD _,zab⟩ (fun j H5 _ ⟨o,_⟩=>.of (o.same _ _ (kE1 _ _ e3))) ?_ ?_⟩
  ·rintro j v H5 hv ⟨of5,eD⟩
   obtain ⟨x,hx,rfl⟩:=zcj hv
   refine ⟨_,rfl,_,rfl,ta,_,rfl,.inl (.of ((kE1.trans of5.same) _ _ hta)),rfl,zes ts,?_⟩
   rw [if_neg yQ,zfq]
   have c:¬x∈ts:=fun z=>by
    unfold za7 at mt
    rw [vU] at mt
    exact mt x (yH hx) (decide_eq_true z)
   rw [decide_eq_false c]
   exact ⟨_,rfl,iteF ⟨of5,eD⟩⟩
  rintro H5 ⟨of5,eD⟩
  refine ⟨(by show 0≤yK;decide),fun E2 hE2=>?_⟩
  have k6:=zaf hE2 (.lst [])
  have s6:=kE1.trans (of5.same.trans k6)
  refine ⟨_,_,Rep.lst (.of (k6 _ _ eD)) .nil,Rep.lst (.of zab) .nil,zaJ [],zaJ [],fun _=>?_,fun e=>absurd rfl e⟩
  generalize upd H5 E2 (.lst [])=H6 at s6
  refine ⟨_,rfl,iteF ⟨_,rfl,a,_,_,_,rfl,rfl,.of (s6 _ _ ha),rfl,rfl,_,rfl,ite2 (fun c=>?_) (fun c=>absurd (decide_eq_true rfl) c)⟩⟩
  subst ek
  exact ⟨_,rfl,rfl,_,rfl,iteT ⟨_,rfl,a,_,rfl,.inr (.of (s6 _ _ ha)),rfl,q H6 s6⟩⟩
 | of f ps=>
  obtain ⟨a,b,pl,xs,rfl,ha,hb,hpl,pr,lxs⟩:=pa
  unfold zbB at wv
  simp only [yW,kY,decide_eq_true_eq,yZ] at wv
  obtain ⟨⟨⟨⟨e1,mt⟩,k1⟩,el⟩,wv⟩:=wv
  refine ⟨_,rfl,_,_,_,_,rfl,.tup (.of ha),rfl,_,rfl,iteF ?_⟩
  refine ⟨_,rfl,a,_,rfl,.inr (.of ha),_,_,rfl,rfl,_,rfl,ite2 (fun c=>absurd (of_decide_eq_true c) (by simp)) (fun _=>?_)⟩
  obtain ⟨l,e2,e3⟩:∃ l,valV kvs f=some (.ref l)∧H l=some (.lst (zaA (fdW w f))):=by
   rcases ziX fd f with ⟨_,z⟩ | ⟨l,z1,z2⟩
   ·exact absurd z e1
   ·exact ⟨l,z1,z2⟩
  have dg:DGet H d (.ref b) (some (.ref l)):=by rw [← e2];exact DGet.r hd hb
  refine ⟨_,rfl,a,_,_,_,rfl,rfl,.of ha,rfl,_,rfl,d,_,rfl,dg,_,rfl,iteF ?_⟩
  refine ⟨_,rfl,_,rfl,a,_,_,_,rfl,rfl,.of ha,rfl,d,_,rfl,dg,?_⟩
  refine ⟨_,rfl,(by show 0≤yK;decide),fun E1 hE1=>?_⟩
  have kE1:=zaf hE1 (.lst [])
  refine ⟨_,_,Rep.lst (.of (kE1 _ _ e3)) (zc8 _),Rep.lst (.of zab) .nil,zaJ _,zaJ [],fun e=>absurd ((zdW _).mp e) e1,fun _=>?_⟩
  refine ⟨_,rfl,iteF ?_⟩
  refine ⟨_,rfl,l,rfl,⟨_,.of (kE1 _ _ e3)⟩,fun D hD=>zaO (K:=K) (a:=l) (xs:=zaA (fdW w f)) (fun j H5=>Off [D] (upd H E1 (.lst [])) H5∧H5 D=some (.lst []))
   ⟨Off.start hD _,zab⟩ (fun j H5 _ ⟨o,_⟩=>.of (o.same _ _ (kE1 _ _ e3))) ?_ ?_⟩
  ·rintro j v H5 hv ⟨of5,eD⟩
   obtain ⟨x,hx,rfl⟩:=zcj hv
   refine ⟨_,rfl,_,rfl,ta,_,rfl,.inl (.of ((kE1.trans of5.same) _ _ hta)),rfl,zes ts,?_⟩
   rw [if_neg yQ,zfq]
   have c:¬x∈ts:=fun z=>by
    unfold za7 at mt
    rw [vU] at mt
    exact mt x (yH hx) (decide_eq_true z)
   rw [decide_eq_false c]
   exact ⟨_,rfl,iteF ⟨of5,eD⟩⟩
  rintro H5 ⟨of5,eD⟩
  refine ⟨(by show 0≤yK;decide),fun E2 hE2=>?_⟩
  have k6:=zaf hE2 (.lst [])
  have s6:=kE1.trans (of5.same.trans k6)
  refine ⟨_,_,Rep.lst (.of (k6 _ _ eD)) .nil,Rep.lst (.of zab) .nil,zaJ [],zaJ [],fun _=>?_,fun e=>absurd rfl e⟩
  generalize upd H5 E2 (.lst [])=H6 at s6
  have len:=yX pr
  have ln:=zaU (fdW w f)
  have e36:=s6 _ _ e3
  refine ⟨_,rfl,iteF ⟨_,rfl,a,_,_,_,rfl,rfl,.of (s6 _ _ ha),rfl,rfl,_,rfl,ite2 (fun c=>absurd (V.str.inj (of_decide_eq_true c)) (by decide)) (fun c=>?_)⟩⟩
  refine ⟨_,rfl,a,_,_,_,rfl,rfl,.of (s6 _ _ ha),rfl,rfl,_,rfl,iteF ?_⟩
  refine ⟨_,rfl,_,_,rfl,rfl,_,rfl,ite2 (fun c1=>absurd (of_decide_eq_true c1) (by omega)) (fun c1=>?_)⟩
  refine ⟨_,rfl,a,_,rfl,.inr (.of (s6 _ _ ha)),rfl,_,rfl,iteF ?_⟩
  refine ⟨_,rfl,a,_,_,_,rfl,rfl,.of (s6 _ _ ha),rfl,_,_,_,_,rfl,.lst (.of (s6 _ _ hpl)),rfl,_,rfl,iteF ?_⟩
  refine ⟨_,rfl,a,_,_,_,rfl,rfl,.of (s6 _ _ ha),rfl,pl,_,rfl,.inl (.of (s6 _ _ hpl)),_,rfl,l,_,rfl,.inl (.of e36),rfl,_,rfl,ite2 (fun c2=>?_) (fun c2=>?_)⟩
  ·exfalso
   rw [len,ln,el] at c2
   simp at c2
  refine ⟨_,rfl,_,rfl,a,_,_,_,rfl,rfl,.of (s6 _ _ ha),rfl,l,pl,_,_,rfl,e36,s6 _ _ hpl,ziD (a:=l) (b:=pl) (xs:=zaA (fdW w f)) (ys:=xs) (by rw [ln,len,el]) (fun i σ H2=>∃ o6 o7:Option V,σ = [some (.ref d),some (.ref ta),some (.int k),some (.ref a),some (.ref l),o6,o7]∧Same H H2)
   ⟨_,_,rfl,s6⟩ (fun i σ H2 _ ⟨_,_,_,s⟩=>⟨s _ _ e3,s _ _ hpl⟩) ?_ ?_⟩
  ·rintro i x y σ H2 T1 hx hy ⟨o6,o7,rfl,s2⟩ hT
   obtain ⟨j,hj,rfl⟩:=zcj hx
   obtain ⟨pi,hpi,pai⟩:=zaI pr hy
   have kT:=zaf hT (.tup [.int (j:Int),y])
   have ez:((fdW w f).zip ps)[i]? =some (j,pi):=by rw [wG];exact ⟨hj,hpi⟩
   refine ⟨T1,_,rfl,.of zab,rfl,_,_,rfl,_,_,rfl,rfl,?_⟩
   refine ⟨_,rfl,_,rfl,_,rfl,(by show 1≤yK;decide),fun S hS=>?_⟩
   have kS:=zaf hS (.lst [.int (j:Int)])
   have s3:=s2.trans (kT.trans kS)
   refine ⟨ta,S,_,_,rfl,rfl,s3 _ _ hta,zab,bigE (by rw [zaU];show ts.length+1≤100000;omega),fun B hB=>?_⟩
   have kB:=zaf hB (.lst (zaA ts++ [.int (j:Int)]))
   have s4:=s3.trans kB
   have eB:zaA (ts++ [j])=zaA ts++ [.int (j:Int)]:=by unfold zaA;rw [yN];rfl
   refine ⟨_,rfl,_,_,rfl,rfl,_,rfl,d,B,k - 1,y,w,kvs,ts++ [j],pi,rfl,s4 _ _ hd,fd.mono s4,wf,by rw [zab,eB],by rw [yI,qC];omega,pai.mono s4,wv _ (yH ez),fun H3 s5=>?_⟩
   exact ⟨_,rfl,iteF ⟨_,_,rfl,s4.trans s5⟩⟩
  ·rintro σ H2 ⟨o6,o7,rfl,s2⟩
   exact q H2 s2
theorem zlM (T:Txt K mg t):∀ m:Nat,FnOk P w K mg base CX0 (0+m) t.f_law_walk t.fd_law_walk ["finding","taken","k","paper"] (ziU m)
 | 0=>⟨fun vs H Q E ⟨_,_,_,_,_,_,_,_,_,_,_,_,_,_,z,_⟩=>z.elim,fun A outer s H args us vs Q E hr a b c ⟨_,_,_,_,_,_,_,_,_,_,_,_,_,_,z,_⟩=>z.elim⟩
 | m+1=>znN T (qM _) (zlM T m)
theorem zfB (T:Txt K mg t):FnOk P w K mg base CX0 8 t.f_law_walk t.fd_law_walk ["finding","taken","k","paper"] (ziU 8):=zlM T 8
theorem zeb:zaw ["script","works","every","finding","given","rows","paper","some","size","off"] ["script"] (zak zhz):=⟨rfl,rfl,rfl,by decide+kernel,rfl,by decide+kernel,by decide+kernel⟩
theorem ok_law (T:Txt K mg t):FnOk P w K mg base CX0 11 t.f_law t.fd_law ["script"] (zgQ K t.lp):=by
 refine T.d_law.F.okB zeb (fun vs H Q E h=>?_) (fun cdv A outer s H vs Q E hr h=>?_)
 ·obtain ⟨a,ns,rfl,_⟩:=h
  rfl
 obtain ⟨a,ns,rfl,hS,h63,hP,q⟩:=h
 have hu64:=hr.units
 have tab:zbO t.lp zfd lamQ H:=⟨#[],hP,trivial,.inl rfl⟩
 refine ⟨_,(zad (zal (k:=1) zeb.nd rfl (Or.inl rfl) (zam (zhB T) (hr.mono (by decide)) rfl T.d_law_works.m T.d_law_works.F.kp T.d_law_works.b .nil zaK (zaa (bpv 0) (zaa zae (zac)))))
  (zad (zal (k:=2) zeb.nd rfl (Or.inr rfl) (zam (zdN T) (hr.mono (by decide)) rfl T.d_law_all_rows.m T.d_law_all_rows.F.kp T.d_law_all_rows.b .nil zaK (zaa (zao zay (bpv 1) zae (fun _ _=>rfl)) (zac))))
  (zad (zal (k:=3) zeb.nd rfl (Or.inl rfl) (zam (zgn T) (hr.mono (by decide)) rfl T.d_law_finding.m T.d_law_finding.F.kp T.d_law_finding.b .nil zaK (zaa (bpv 1) (zac))))
  (zad (zal (k:=4) zeb.nd rfl (Or.inl rfl) (zam (ziE T) (hr.mono (by decide)) rfl T.d_law_copy.m T.d_law_copy.F.kp T.d_law_copy.b .nil zaK (zaa (bpv 1) (zac))))
  (zad (zal (k:=5) zeb.nd rfl (Or.inl rfl) (zam (zgm T) (hr.mono (by decide)) rfl T.d_fewest_rows.m T.d_fewest_rows.F.kp T.d_fewest_rows.b .nil zaK (zaa (bpv 4) (zac))))
  (zad (zal (k:=6) zeb.nd rfl (Or.inl rfl) (zam (zeG T) (hr.mono (by decide)) rfl T.d_need_paper.m T.d_need_paper.F.kp T.d_need_paper.b .nil zaK (zaa (bpv 4) (zac))))
  (zad (zaP (zdt (zdu (zdG (zc1 (zat zha rfl T.z_isinstance kP (zaa (bpv 5) (zaa (zgY (v:=.ty "list") rfl T.z_list vH rfl) (zac)))))) (zdi (zap (zfH hu64) (bpv 4) (bpv 1) (zaB _))))) (zag (zar zbR)) zax)
  (zad (zaP (zap (zfH hu64) (zaM rfl (N:=["row","every"]) (n:=1) (cap:=[2]) (za5 rfl rfl) (zaH (bpv 5)) (zaz (by decide)) (fun _ _ _ _=>(zaj (k:=0) (show (["row","every"]:List Str).Nodup by decide+kernel) rfl (Or.inl rfl))) (fun _ _ _ _=>(zc0 (zap (zj7 (K:=K) hu64) (bpv 0) (bpv 1) rfl))) (fun _ _ _ _=>(bpv 0))) (zav zac) (zaB _)) (zag (zar zbR)) zax)
  (zad (zdn (k:=7) rfl (N:=["row","every"]) (n:=1) (cap:=[2]) (za5 rfl rfl) zeb.nd rfl rfl (zaH (bpv 5)) (zaz (by decide)) (fun _ _ _ _=>(zaj (k:=0) (show (["row","every"]:List Str).Nodup by decide+kernel) rfl (Or.inl rfl))) (fun _ _ _ _=>zaN) (fun _ _ _ _=>(znT (K:=K) qS ya6 PySem.F.type_list_index (zjP (K:=K) hu64) (bpv 1) (zaa (bpv 0) (zac)))) rfl)
  (zad (zaP (zdt (zdu (zap (zfH hu64) (bpv 7) (zgk rfl rfl T.z_sorted rfl T.z_set (bpv 7)) (zaB _)) (zdi (zap (zfH hu64) (zam (ziC T) (hr.mono (by decide)) rfl T.d_law_open.m T.d_law_open.F.kp T.d_law_open.b .nil zaK (zaa (bpv 3) (zaa (bpv 7) (zac)))) (zav zac) (zaB _))))) (zag (zar zbR)) zax)
  (zad (zaP (zap zgb (zam (zh8 T) (hr.mono (by decide)) rfl T.d_finds_all.m T.d_finds_all.F.kp T.d_finds_all.b .nil zaK (zaa (bpv 4) (zaa (zaM rfl (N:=["row"]) (n:=1) (cap:=[]) (za5 rfl rfl) (zaH (bpv 5)) (zaz (by decide)) (fun _ _ _ _=>(zaj (k:=0) (show (["row"]:List Str).Nodup by decide+kernel) rfl (Or.inl rfl))) (fun _ _ _ _=>zaN) (fun _ _ _ _=>(zbK (zhj (K:=K)) rfl T.z_list vH (zaa (bpv 0) (zac))))) (zac)))) zbR (zaB _)) (zag (zar zbR)) zax)
  (zad (zal (k:=8) zeb.nd rfl (Or.inl rfl) (zan zc4 (zat zaq rfl T.z_len qL (zaa (bpv 5) (zac))) zae))
  (zad (zaP (zdt (zdu (zdG (zc1 (zam (zfB T) (hr.mono (by decide)) rfl T.d_law_walk.m T.d_law_walk.F.kp T.d_law_walk.b .nil zaK (zaa (bpv 3) (zaa (zav zac) (zaa (bpv 8) (zaa (bpv 6) (zac)))))))) (zdi (zap zgb (zam (zez T) (hr.mono (by decide)) rfl T.d_need_shows.m T.d_need_shows.F.kp T.d_need_shows.b .nil zaK (zaa (bpv 4) (zaa (bpv 8) (zaa (bpv 6) (zac))))) zbR (zaB _))))) (zag (zar zbR)) zax)
  (zad (zaQ qH rfl (zin (za0 (zaa zae (zaa (zi5 zju zae) (zac))))) (zaj (k:=9) zeb.nd rfl (Or.inl rfl)) (zag (zaP (zap zgb (zam (zez T) (hr.mono (by decide)) rfl T.d_need_shows.m T.d_need_shows.F.kp T.d_need_shows.b .nil zaK (zaa (bpv 4) (zaa (zan zbM (bpv 8) (bpv 9)) (zaa (bpv 6) (zac))))) zbR (zaB _)) (zag (zar zbR)) zax)))
  (zad (zaP (zap zct (zao zay (bpv 6) zae (fun _ _=>rfl)) zau (zaB _)) (zag (zbm (zkp qS PySem.F.slot_list_clear PySem.F.type_list_clear zmV (zao zay (bpv 6) zae (fun _ _=>rfl))))) zax)
  (zag (zar (zkN (zam (zfB T) (hr.mono (by decide)) rfl T.d_law_walk.m T.d_law_walk.F.kp T.d_law_walk.b .nil zaK (zaa (bpv 3) (zaa (zav zac) (zaa (bpv 8) (zaa (zam (zeG T) (hr.mono (by decide)) rfl T.d_need_paper.m T.d_need_paper.F.kp T.d_need_paper.b .nil zaK (zaa (bpv 4) (zac))) (zac)))))) (zld (zcs (zk6 hu64) (bpv 4) (bpv 1) (zaB _))))))))))))))))))))),?_⟩
 refine ⟨_,rfl,a,ns,4,rfl,hS,by decide,fun r w H1 s1 rw1 wf i3=>?_⟩
 obtain ⟨a1,ga,oa,gs,os,ea,ha,hg,ho,rg,ro⟩:=zbz rw1
 cases ea
 have i1:=wf.i1
 have many:=zaS w.ins.toNat
 have p8: 1≤2 ^ w.ins.toNat∧2 ^ w.ins.toNat≤8:=by
  have:w.ins.toNat=1∨w.ins.toNat=2∨w.ins.toNat=3:=by omega
  rcases this with e | e | e <;> rw [e] <;> decide
 refine ⟨_,rfl,r,_,_,_,rfl,rfl,ha,rfl,w.ins,rfl,by omega,by omega,fun R qs H2 s2 eR at2=>?_⟩
 have lq:=at2.len
 refine ⟨_,rfl,.ref r,w,rfl,rw1.mono s2,wf,fun d kvs H3 s3 nd ed fd=>?_⟩
 refine ⟨_,rfl,.ref r,w,rfl,rw1.mono (s2.trans s3),wf,fun gv H6 s6 rgv=>?_⟩
 refine ⟨_,rfl,.ref gv,w,rfl,rgv,wf,i3,fun F fs cs H7 s7 nF eF at7 new7 few=>?_⟩
 have s17:=s1.trans (s2.trans (s3.trans (s6.trans s7)))
 have tab7:=tab.same s17
 refine ⟨_,rfl,.ref gv,w,rfl,rgv.mono s7,wf,i3,tab7,fun v p cs' k H8 sp8 tab8 few' lk k8 pf wv=>?_⟩
 have ecs:=zie few' few
 subst ecs
 clear few'
 have k78:Kp H7 H8:=zhi sp8 tab7
 have bel:∀ k∈cs',k < 2 ^ w.ins.toNat:=by
  obtain ⟨n,_,_,hc,_⟩:=few
  exact (zcm.mp (yT.mp (vB hc)).1).2.1
 have rgv8:=zdD k78 (rgv.mono s7)
 have rw8:=zdD k78 (rw1.mono (s2.trans (s3.trans (s6.trans s7))))
 have eR8:=k78 _ _ ((s3.trans (s6.trans s7)) _ _ eR) fun _ z=>nomatch z
 have at2_8:=at_kp (at2.mono (s3.trans (s6.trans s7))) k78
 have ed8:=k78 _ _ ((s6.trans s7) _ _ ed) fun _ z=>nomatch z
 have fd8:=(fd.mono (s6.trans s7)).kp k78
 have eF8:=k78 _ _ eF fun _ z=>nomatch z
 have at7_8:=at_kp at7 k78
 refine ⟨_,rfl,_,_,_,_,rfl,.lst (.of eF8),rfl,_,rfl,iteF ?_⟩
 refine ⟨_,rfl,_,rfl,_,_,rgv8,rw8,zd5 wf,zd5 wf,fun _=>⟨_,rfl,iteF ?_⟩,fun ne=>absurd rfl ne⟩
 have lfs:=at7_8.len
 rw [yB] at lfs
 have lcs:cs'.length≤8:=by omega
 have oks:∀ e∈(zaT w.ins.toNat).map rowD,kqdOk 8 e=true:=fun e he=>by
  obtain ⟨r,_,rfl⟩:=qE.mp he
  exact zaJ r
 have rowj:∀ {j:Nat} {q:Addr},fs[j]? =some q→∃ x,cs'[j]? =some x∧x < 2 ^ w.ins.toNat∧H8 q=some (.lst ((zbZ w x).map V.int))∧(zaT w.ins.toNat)[x]? =some (zbZ w x):=fun {j q} hq=>by
  obtain ⟨row,hrow,e⟩:=at7_8.get hq
  rw [yJ] at hrow
  cases hx:cs'[j]? with
  | none=>rw [hx] at hrow;cases hrow
  | some x=>
   rw [hx] at hrow
   have er:zbZ w x=row:=qF hrow
   have lx:=bel x (yH hx)
   refine ⟨x,rfl,lx,by rw [er];exact e,?_⟩
   unfold zbZ
   rw [yM,yF (by rw [many];exact lx)]
   rfl
 refine ⟨_,rfl,F,rfl,⟨_,.of eF8⟩,fun D hD=>zaO (K:=K) (a:=F) (xs:=fs.map V.ref) (fun j H5=>Off [D] H8 H5∧H5 D=some (.lst []))
  ⟨Off.start hD _,zab⟩ (fun j H5 _ ⟨o,_⟩=>.of (o.same _ _ eF8)) ?_ ?_⟩
 ·rintro j v H5 hv ⟨of5,eD⟩
  rw [yJ] at hv
  cases hq:fs[j]? with
  | none=>rw [hq] at hv;cases hv
  | some q=>
   rw [hq] at hv
   cases hv
   obtain ⟨x,hx,lx,e,er⟩:=rowj hq
   exact ⟨_,rfl,_,rfl,rowD (zbZ w x),(zaT w.ins.toNat).map rowD,.lst (.of (of5.same _ _ e)) (Reps.ints _),.lst (.of (of5.same _ _ eR8)) (at2_8.mono of5.same).reps,zaJ _,oks,fun _=>⟨_,rfl,iteF ⟨of5,eD⟩⟩,fun hn=>absurd (ybI (yH er)) hn⟩
 rintro H5 ⟨of5,eD⟩
 refine ⟨(by show 0≤yK;decide),fun E2 hE2=>?_⟩
 have k6:=zaf hE2 (.lst [])
 have s9:=of5.same.trans k6
 refine ⟨_,_,Rep.lst (.of (k6 _ _ eD)) .nil,Rep.lst (.of zab) .nil,zaJ [],zaJ [],fun _=>⟨_,rfl,iteF ?_⟩,fun e=>absurd rfl e⟩
 generalize upd H5 E2 (.lst [])=H9 at s9
 clear eD of5 k6 hE2 hD
 refine ⟨_,rfl,F,rfl,⟨_,.of (s9 _ _ eF8)⟩,fun S hS=>zaO (K:=K) (a:=F) (xs:=fs.map V.ref) (fun j H5=>Off [S] H9 H5∧H5 S=some (.lst (zaA (cs'.take j))))
  ⟨Off.start hS _,zab⟩ (fun j H5 _ ⟨o,_⟩=>.of ((s9.trans o.same) _ _ eF8)) ?_ ?_⟩
 ·rintro j v H5 hv ⟨of5,eD⟩
  rw [yJ] at hv
  cases hq:fs[j]? with
  | none=>rw [hq] at hv;cases hv
  | some q=>
   rw [hq] at hv
   cases hv
   obtain ⟨x,hx,lx,e,er⟩:=rowj hq
   have s5:=s9.trans of5.same
   have lj:=(yE.mp hx).1
   refine ⟨_,rfl,.inl ⟨rfl,_,.of (s5 _ _ eR8)⟩,_,rfl,.ref q,rowD (zbZ w x),(zaT w.ins.toNat).map rowD,x,rfl,.lst (.of (s5 _ _ e)) (Reps.ints _),.lst (.of (s5 _ _ eR8)) (at2_8.mono s5).reps,zaJ _,oks,by rw [yJ,er];rfl,fun i2 hi2 z=>?_,_,eD,big (by rw [zaU,yU];omega),of5.write (.head _) _,?_⟩
   ·rw [yJ] at z
    have l2:i2 < 2 ^ w.ins.toNat:=by omega
    have e2:(zaT w.ins.toNat)[i2]? =some (zbZ w i2):=by
     unfold zbZ
     rw [yM,yF (by rw [many];exact l2)]
     rfl
    rw [e2] at z
    have z2:rowD (zbZ w i2)=rowD (zbZ w x):=qF z
    have z3:=zhU l2 lx (znj z2)
    omega
   ·rw [zab,yR,hx]
    unfold zaA
    rw [yN]
    rfl
 rintro H10 ⟨of10,eS⟩
 rw [yB,lfs,yV] at eS
 have s10:=s9.trans of10.same
 have up:UpI 0 cs':=by
  obtain ⟨n,_,_,hc,_⟩:=few
  have:=(zcm.mp (yT.mp (vB hc)).1).1
  exact up_of cs' 0 this fun j hj=>⟨qM _,qB (bel j hj) p8.2⟩
 refine ⟨_,rfl,_,rfl,S,cs',rfl,.of eS,up,fun D2 hD2=>?_⟩
 have k11:=zaf hD2 (.lst (cs'.map fun c=>V.int ((c:Nat):Int)))
 refine ⟨_,_,Rep.lst (.of (k11 _ _ eS)) (zc8 _),Rep.lst (.of zab) (zc8 cs'),zaJ _,zaJ _,fun _=>⟨_,rfl,iteF ?_⟩,fun e=>absurd rfl e⟩
 have met:((zaF w).all fun f=>za7 (zaC w f) cs')=true:=by
  obtain ⟨n,_,_,hc,_⟩:=few
  have:=(yT.mp (vB hc)).2
  unfold metV at this
  rw [vZ] at this
  exact this
 have s11:=s10.trans k11
 have eS11:=k11 _ _ eS
 generalize upd H10 D2 (.lst (cs'.map fun c=>V.int ((c:Nat):Int)))=H11 at s11 eS11
 refine ⟨_,rfl,_,rfl,d,S,w,kvs,cs',rfl,s11 _ _ ed8,fd8.mono s11,wf,.of eS11,fun ro ws H12 s12 ero fao=>?_⟩
 refine ⟨(by show 0≤yK;decide),fun E2 hE2=>?_⟩
 have kE:=zaf hE2 (.lst [])
 have opn:zj6 w cs'= []:=(znc w cs').mpr met
 refine ⟨_,_,Rep.lst (.of (kE _ _ ero)) (fao.mono kE).reps,Rep.lst (.of zab) .nil,zok w cs',zaJ [],fun _=>⟨_,rfl,iteF ?_⟩,fun e=>absurd (by rw [opn];rfl) e⟩
 have s13:=s11.trans (s12.trans kE)
 generalize upd H12 E2 (.lst [])=H13 at s13
 clear kE hE2 ero fao
 refine ⟨_,rfl,_,rfl,F,rfl,⟨_,.of (s13 _ _ eF8)⟩,fun D3 hD3=>zaO (K:=K) (a:=F) (xs:=fs.map V.ref) (fun j H5=>∃ ys,Off [D3] H13 H5∧H5 D3=some (.lst ys)∧Paired (fun v row=>∃ q,v= .ref q∧q≠D3∧H5 q=some (.lst (row.map V.int))) ys ((cs'.take j).map (zbZ w)))
  ⟨[],Off.start hD3 _,zab,.nil⟩ (fun j H5 _ ⟨_,o,_⟩=>.of ((s13.trans o.same) _ _ eF8)) ?_ ?_⟩
 ·rintro j v H5 hv ⟨ys,of5,eD,pr⟩
  rw [yJ] at hv
  cases hq:fs[j]? with
  | none=>rw [hq] at hv;cases hv
  | some q=>
   rw [hq] at hv
   cases hv
   obtain ⟨x,hx,lx,e,er⟩:=rowj hq
   have s5:=s13.trans of5.same
   have lj:=(yE.mp hx).1
   have ly:=yX pr
   rw [yB,yU] at ly
   refine ⟨_,rfl,q,_,rfl,.inl (.of (s5 _ _ e)),fun C hC=>?_⟩
   have kC:=zaf hC (.lst ((zbZ w x).map V.int))
   have CD:C≠D3:=qR (zai eD hC)
   refine ⟨ys,kC _ _ eD,big (by omega),ys++ [.ref C],(of5.grow kC).write (.head _) _,zab,?_⟩
   rw [yR,hx,yN]
   exact kF (Paired.mapP pr fun v row ⟨q,a1,a3,a4⟩=>⟨q,a1,a3,by rw [zah a3];exact kC _ _ a4⟩) ⟨C,rfl,CD,by rw [zah CD];exact zab⟩
 rintro H14 ⟨ys,of14,eD3,pr⟩
 rw [yB,lfs,yV] at pr
 have s14:=s13.trans of14.same
 have rD:Rep K H14 (.ref D3) (.list ((cs'.map (zbZ w)).map rowD)):=.lst (.of eD3) (zhO (Paired.mapP pr fun v row ⟨q,a1,_,a4⟩=>⟨q,a1,a4⟩))
 refine ⟨.ref gv,.ref D3,w,cs'.map (zbZ w),rfl,rgv8.mono s14,wf,rD,?_,by rw [yB];omega,fun H15 s15=>?_⟩
 ·intro row hrow
  obtain ⟨k,hk,rfl⟩:=qE.mp hrow
  have lk:k < (zaT w.ins.toNat).length:=by rw [many];exact bel k hk
  have rr:=zcl w.ins.toNat (zbZ w k) (by
   unfold zbZ
   rw [yM,yF lk]
   exact xU lk)
  exact ⟨by rw [rr.1];omega,rr.2⟩
 rw [zk0 wf bel,met]
 refine ⟨_,_,rfl,rfl,_,rfl,iteF ?_⟩
 have s16:=s14.trans s15
 have esz:(((fs.map V.ref).length:Nat):Int) - 1=(k:Int):=by rw [yB,lfs,lk];omega
 have pa8:zdA H8 8 v p:=pf.at.upto k8
 refine ⟨_,rfl,F,_,rfl,.inl (.of (s16 _ _ eF8)),_,_,rfl,rfl,?_⟩
 dsimp only
 rw [esz]
 have w8:zbB (fdW w) 8 [] k p=true:=zht _ _ _ _ _ k8 wv
 have w8n:∀ z:Int,z≠k→zbB (fdW w) 8 [] z p=false:=fun z hz=>by
  cases e:zbB (fdW w) 8 [] z p with
  | false=>rfl
  | true=>exact absurd (ziQ p 8 8 [] z k e w8) hz
 refine ⟨_,rfl,(by show 0≤yK;decide),fun E3 hE3=>?_⟩
 have kE3:=zaf hE3 (.lst [])
 have s17:=s16.trans kE3
 have eE3:upd H15 E3 (.lst []) E3=some (.lst (zaA [])):=zab
 generalize upd H15 E3 (.lst [])=H17 at s17 eE3
 refine ⟨_,rfl,_,rfl,d,E3,k,v,w,kvs,[],p,rfl,s17 _ _ ed8,fd8.mono s17,wf,eE3,by decide,pa8.mono s17,w8,fun H18 s18=>⟨_,rfl,iteF ?_⟩⟩
 have s18':=s17.trans s18
 refine ⟨_,rfl,_,rfl,_,rfl,.ref gv,v,k,w,p,rfl,rgv8.mono s18',wf,pa8.mono s18',fun H19 s19=>?_⟩
 rw [w8]
 refine ⟨_,_,rfl,rfl,_,rfl,iteF ?_⟩
 have s19':=s18'.trans s19
 refine ⟨_,rfl,(by show 2≤yK;decide),fun T1 hT1=>?_⟩
 have kT1:=zaf hT1 (.tup [.int 1,.int (-1)])
 refine ⟨T1,rfl,⟨_,.of zab⟩,zon (K:=K) (a:=T1) (xs:=[.int 1,.int (-1)]) (fun i σ HX=>∃ o9:Option V,σ = [some (.ref a),some (.ref r),some (.ref R),some (.ref d),some (.ref gv),some (.ref F),some v,some (.ref S),some (.int k),o9]∧Same H8 HX∧HX T1=some (.tup [.int 1,.int (-1)]))
  ⟨_,rfl,s19'.trans kT1,zab⟩ (fun i σ HX _ ⟨_,_,_,e⟩=>.of e) ?_ ?_⟩
 ·rintro i x σ HX hx ⟨o9,rfl,sX,eT⟩
  obtain ⟨z,rfl,hz⟩:∃ z:Int,x= .int z∧z≠0:=by
   match i,hx with
   | 0,hx=>cases hx;exact ⟨1,rfl,by decide⟩
   | 1,hx=>cases hx;exact ⟨-1,rfl,by decide⟩
  refine ⟨_,rfl,_,rfl,_,rfl,_,_,rfl,rfl,_,rfl,.ref gv,v,(k:Int)+z,w,p,rfl,rgv8.mono sX,wf,pa8.mono sX,fun HY sY=>?_⟩
  rw [w8n _ (by omega)]
  exact ⟨_,_,rfl,rfl,_,rfl,iteF ⟨_,rfl,sX.trans sY,sY _ _ eT⟩⟩
 rintro σ HY ⟨o9,rfl,sY,_⟩
 have tabY:=tab8.same sY
 cases p with
 | none f=>
  obtain ⟨a0,b0,rfl,ha0,_⟩:=id pf
  refine ⟨_,rfl,a0,_,_,_,rfl,rfl,.of (sY _ _ ha0),rfl,rfl,_,rfl,ite2 (fun c=>absurd (V.str.inj (of_decide_eq_true c)) (by decide)) (fun c=>?_)⟩
  obtain ⟨HX,eX⟩:∃ HX,HY=HX:=⟨_,rfl⟩
  have tabx:zbO t.lp zfd lamQ HX:=by rw [← eX];exact tabY
  have k7x:Kp H7 HX:=by rw [← eX];exact k78.trans (zge sY)
  rw [eX]
  have rgx:=zdD k7x (rgv.mono s7)
  have rwx:=zdD k7x (rw1.mono (s2.trans (s3.trans (s6.trans s7))))
  have edx:=k7x _ _ ((s6.trans s7) _ _ ed) fun _ z=>nomatch z
  have fdx:=(fd.mono (s6.trans s7)).kp k7x
  refine ⟨_,rfl,(by show 0≤yK;decide),fun E4 hE4=>?_⟩
  have kE4:=zaf hE4 (.lst [])
  refine ⟨_,rfl,_,rfl,.ref gv,w,rfl,rgx.mono kE4,wf,i3,tabx.same kE4,fun v2 p2 cs2 k2 H20 sp20 tab20 few2 lk2 k82 pf2 wv2=>?_⟩
  have ecs:=zie few2 few
  subst ecs
  have ek2:k2=k:=by omega
  subst ek2
  have k20:Kp HX H20:=(zge kE4).trans (zhi sp20 (tabx.same kE4))
  have eE4:H20 E4=some (.lst (zaA [])):=zdm sp20 (tabx.same kE4) zab fun _ z=>nomatch z
  refine ⟨d,E4,_,v2,w,kvs,[],p2,rfl,k20 _ _ edx (fun _ z=>nomatch z),fdx.kp k20,wf,eE4,by decide,pf2.at.upto k82,zht _ _ _ _ _ k82 wv2,fun H21 s21=>⟨_,rfl,iteT ?_⟩⟩
  exact ⟨_,rfl,_,rfl,_,_,(zdD k20 rgx).mono s21,(zdD k20 rwx).mono s21,zd5 wf,zd5 wf,fun _=>q _,fun ne=>absurd rfl ne⟩
 | of f ps=>
  obtain ⟨a0,b0,l0,xs0,rfl,ha0,_,hl0,nl0,_⟩:=id pf
  have hl0Y:=sY _ _ hl0
  refine ⟨_,rfl,a0,_,_,_,rfl,rfl,.of (sY _ _ ha0),rfl,rfl,_,rfl,ite2 (fun c=>?_) (fun c=>absurd (decide_eq_true rfl) c)⟩
  refine ⟨_,rfl,a0,_,_,_,rfl,rfl,.of (sY _ _ ha0),rfl,.inl ⟨rfl,_,.of hl0Y⟩,l0,_,rfl,rfl,hl0Y,?_⟩
  obtain ⟨HX,eX⟩:∃ HX,upd HY l0 (.lst [])=HX:=⟨_,rfl⟩
  have tabx:zbO t.lp zfd lamQ HX:=by
   rw [← eX]
   obtain ⟨pt,hP,ok,hh⟩:=tabY
   refine ⟨pt,by rw [zah (zeZ hP hl0Y fun z=>nomatch z)];exact hP,ok,?_⟩
   rcases hh with hh | ⟨c,h1,h2⟩
   ·exact .inl hh
   ·exact .inr ⟨c,h1,by rw [zah (zeZ h2 hl0Y fun z=>nomatch z)];exact h2⟩
  have k7x:Kp H7 HX:=fun b o e n=>by
   rw [← eX,zah (zai e nl0)]
   exact (k78.trans (zge sY)) _ _ e n
  rw [eX]
  have rgx:=zdD k7x (rgv.mono s7)
  have rwx:=zdD k7x (rw1.mono (s2.trans (s3.trans (s6.trans s7))))
  have edx:=k7x _ _ ((s6.trans s7) _ _ ed) fun _ z=>nomatch z
  have fdx:=(fd.mono (s6.trans s7)).kp k7x
  refine ⟨_,rfl,(by show 0≤yK;decide),fun E4 hE4=>?_⟩
  have kE4:=zaf hE4 (.lst [])
  refine ⟨_,rfl,_,rfl,.ref gv,w,rfl,rgx.mono kE4,wf,i3,tabx.same kE4,fun v2 p2 cs2 k2 H20 sp20 tab20 few2 lk2 k82 pf2 wv2=>?_⟩
  have ecs:=zie few2 few
  subst ecs
  have ek2:k2=k:=by omega
  subst ek2
  have k20:Kp HX H20:=(zge kE4).trans (zhi sp20 (tabx.same kE4))
  have eE4:H20 E4=some (.lst (zaA [])):=zdm sp20 (tabx.same kE4) zab fun _ z=>nomatch z
  refine ⟨d,E4,_,v2,w,kvs,[],p2,rfl,k20 _ _ edx (fun _ z=>nomatch z),fdx.kp k20,wf,eE4,by decide,pf2.at.upto k82,zht _ _ _ _ _ k82 wv2,fun H21 s21=>⟨_,rfl,iteT ?_⟩⟩
  exact ⟨_,rfl,_,rfl,_,_,(zdD k20 rgx).mono s21,(zdD k20 rwx).mono s21,zd5 wf,zd5 wf,fun _=>q _,fun ne=>absurd rfl ne⟩
end
noncomputable def DfK (K:PySem.W.Frag) (x:Str) (st:Stmt) (f:Addr):Prop:=∃ (oc:Value) (od:Option Addr) (kV dc pm:Value) (an:Option Addr) (cd ct:Value) (sl:Array (Option Value)),PySem.W.nsIn K qQ x=some (some (.ref f))∧K.lookup f=some ⟨oc,od,.func (PySem.W.fnOf x x (zbV st) (zbs st) (zak st) .none kV dc pm an cd ct),sl⟩∧PySem.W.codeIn K cd x=true∧PySem.W.keepIn K (.ref f)=true
noncomputable def DfV (K:PySem.W.Frag) (x:Str) (st:Stmt) (f T:Addr) (kT:Tok):Prop:=∃ (oc:Value) (od:Option Addr) (kV dc pm:Value) (an:Option Addr) (cd ct:Value) (sl:Array (Option Value)) (cT:Value) (dT:Option Addr) (nT:Nat) (sT:Array (Option Value)),PySem.W.nsIn K qQ x=some (some (.ref f))∧K.lookup f=some ⟨oc,od,.func (PySem.W.fnOf x x (zbV st) (zbs st) (zak st) (.ref T) kV dc pm an cd ct),sl⟩∧PySem.W.codeIn K cd x=true∧PySem.W.keepIn K (.ref f)=true∧K.lookup T=some ⟨cT,dT,.seq #[.int 1 kT] nT,sT⟩
theorem DfK.mk {K:PySem.W.Frag}{h:Heap}{mg:Str→Option Value}{x:Str}{st:Stmt}{f:Addr}{c:Addr}(ku:LamC K c)(d:DfK K x st f)(X:K.In h)(G:h.Ns qQ mg)(ps:List Str)
  (hb:∀ (kV doc pm:Value) (an:Option Addr) (cdv ct:Value) (us:List Value),us.length=ps.length→bindArgs (PySem.W.fnOf x x (zbV st) (zbs st) (zak st) .none kV doc pm an cdv ct) ⟨us,[]⟩=pure (ps.zip us)):∃ fd,Def (zb1 K c) mg x st ps f fd:=by
 obtain ⟨oc,od,kV,dc,pm,an,cd,ct,sl,a,l,cc,k⟩:=d
 exact ⟨_,zkB (st:=st) (zcG ku l) (zcx ku cc) (zcw ku l),(zkB (st:=st) (zcG ku l) (zcx ku cc) (zcw ku l)).binds hb,PySem.W.mg_of X G a⟩
theorem all_mk {l:ybt}{w:World}{K:PySem.W.Frag}{h:Heap}{mg:Str→Option Value}{fa f1 f2 f3 f4 f5 f6 f7 f8 f9 f10 f11 f12 f13 f14 f15 f16 f17 f18 f19 f20 f21 f22 f23 f24 f25 f26 f27 f28 f29 f30 f31 f32 f33 f34 f35 f36 f37 f38:Addr}(X:K.In h)(G:h.Ns qQ mg)(hfa:mg "law" =some (.ref fa))
  (h1:DfK K "every_row" zdq f1)
  (h2:DfK K "check_row" zdf f2)
  {T3:Addr} {kT3:Tok} (h3:DfV K "gate_worth" zci f3 T3 kT3)
  (h4:DfK K "every_fault" zcv f4)
  {T5:Addr} {kT5:Tok} (h5:DfV K "worths_with" zbX f5 T5 kT5)
  (h6:DfK K "leg_worths" zcT f6)
  {T7:Addr} {kT7:Tok} (h7:DfV K "outputs_with" zbC f7 T7 kT7)
  (h8:DfK K "outputs_seen" zcg f8)
  (h9:DfK K "rows_at_once" zb6 f9)
  (h10:DfK K "seen_of_each" zb9 f10)
  (h11:DfK K "unlike_numbers" zbF f11)
  (h12:DfK K "finding_rows" zca f12)
  (h13:DfK K "finds_all" zdp f13)
  (h14:DfK K "fewest_rows" zco f14)
  (h15:DfK K "need_paper" zcW f15)
  (h16:DfK K "need_shows" zcN f16)
  (h17:DfK K "check_inputs" zb3 f17)
  (h18:DfK K "meets_each" zcP f18)
  (h19:DfK K "meet" ziS f19)
  (h20:DfK K "fewest_numbers" zbG f20)
  (h21:DfK K "longer_choices" zbE f21)
  (h22:DfK K "need_behind" zbW f22)
  (h23:DfK K "is_need_let_by" zbJ f23)
  (h24:DfK K "_law_cell_at" zcr f24)
  (h25:DfK K "_law_digits" zcJ f25)
  (h26:DfK K "_law_gate" zdZ f26)
  (h27:DfK K "_law_works_of" zb7 f27)
  (h28:DfK K "_law_works" zdg f28)
  (h29:DfK K "_law_worth" zdo f29)
  (h30:DfK K "_law_outs" zdY f30)
  (h31:DfK K "_law_faults" zcR f31)
  (h32:DfK K "_law_all_rows" zcf f32)
  (h33:DfK K "_law_answers" zcq f33)
  (h34:DfK K "_law_finding" zcu f34)
  (h35:DfK K "_law_open" zdX f35)
  (h36:DfK K "_law_copy" zdS f36)
  (h37:DfK K "_law_walk" zd4 f37)
  (h38:DfK K "law" zhz f38)
  (z1:PySem.W.nsIn K qQ "all" =some none)
  (z2:PySem.W.nsIn K qQ "any" =some none)
  (z3:PySem.W.nsIn K qQ "dict" =some none)
  (z4:PySem.W.nsIn K qQ "enumerate" =some none)
  (z5:PySem.W.nsIn K qQ "int" =some none)
  (z6:PySem.W.nsIn K qQ "isinstance" =some none)
  (z7:PySem.W.nsIn K qQ "len" =some none)
  (z8:PySem.W.nsIn K qQ "list" =some none)
  (z9:PySem.W.nsIn K qQ "min" =some none)
  (z10:PySem.W.nsIn K qQ "range" =some none)
  (z11:PySem.W.nsIn K qQ "set" =some none)
  (z12:PySem.W.nsIn K qQ "sorted" =some none)
  (z13:PySem.W.nsIn K qQ "sum" =some none)
  (z14:PySem.W.nsIn K qQ "tuple" =some none)
  (z15:PySem.W.nsIn K qQ "zip" =some none)
  {s1_:Tok} (as1:PySem.W.nsIn K qQ "MOST_INPUTS" =some (some (.int 3 s1_)))
  {lp lb:Addr} (kt:LamC K lp) (kl:lamK (zb1 K lp) f22 lp=true) (kb:PySem.W.nsIn K qQ "__builtins__" =some (some (.ref lb))) (kd:bltK (zb1 K lp) lb=true)
  :∃ (T c:Addr) (fd:FuncData),(LamC K T∧zdh (zb1 K T) c T=true)∧(∀ (s:Shared) (v:Value),BindsTo s fd ⟨[v],[]⟩ [("script",v)])∧∀ base:Heap,(zb1 K T).In base→base.Ns qQ mg→FnOk l.prog w (zb1 K T) mg base CX0 11 fa fd ["script"] (zgQ (zb1 K T) T):=by
 obtain ⟨ln,lc,_,lh⟩:=zly kl
 obtain ⟨oc,od,kVL,dcL,pmL,anL,cdL,ctL,sl,aL,lL,cL,kL⟩:=h38
 have e:=hfa.symm.trans (PySem.W.mg_of X G aL)
 cases e
 obtain ⟨e1,D1⟩:=h1.mk kt X G ["works"] fun _ _ _ _ _ _ us hl=>by obtain ⟨x0,e⟩:=zeF hl;subst e;rfl
 obtain ⟨e2,D2⟩:=h2.mk kt X G ["works","row"] fun _ _ _ _ _ _ us hl=>by obtain ⟨x0,x1,e⟩:=zeR hl;subst e;rfl
 obtain ⟨oc,od,kV,dc,pm,an,cd,ct,sl,cT,dT,nT,sT,a3,l3,c3,k3,v3⟩:=h3
 have v3:=zfS kt v3
 have F3:=ziK (st:=zci) (zcG kt l3) (zcx kt c3) (zcw kt l3)
 have b3:=F3.binds (ps:=["kind","worths","ones"]) (ds:=[]) fun _ _ _ _ _ _ s us X hl=>match us,hl with | [_,_,_],_=>PySem.W.binds_K X rfl v3 rfl rfl rfl
 have e3:=F3.binds (ps:=["kind","worths","ones"]) (ds:=[.int 1 kT3]) fun _ _ _ _ _ _ s us X hl=>match us,(show us.length=2 by rw [yI] at hl;exact ybq hl) with | [_,_],_=>PySem.W.binds_K X rfl v3 rfl rfl rfl
 obtain ⟨e4,D4⟩:=h4.mk kt X G ["works"] fun _ _ _ _ _ _ us hl=>by obtain ⟨x0,e⟩:=zeF hl;subst e;rfl
 obtain ⟨oc,od,kV,dc,pm,an,cd,ct,sl,cT,dT,nT,sT,a5,l5,c5,k5,v5⟩:=h5
 have v5:=zfS kt v5
 have F5:=ziK (st:=zbX) (zcG kt l5) (zcx kt c5) (zcw kt l5)
 have b5:=F5.binds (ps:=["works","stuck","row","ones"]) (ds:=[]) fun _ _ _ _ _ _ s us X hl=>match us,hl with | [_,_,_,_],_=>PySem.W.binds_K X rfl v5 rfl rfl rfl
 have e5:=F5.binds (ps:=["works","stuck","row","ones"]) (ds:=[.int 1 kT5]) fun _ _ _ _ _ _ s us X hl=>match us,(show us.length=3 by rw [yI] at hl;exact ybq hl) with | [_,_,_],_=>PySem.W.binds_K X rfl v5 rfl rfl rfl
 obtain ⟨e6,D6⟩:=h6.mk kt X G ["stuck","gate","worths"] fun _ _ _ _ _ _ us hl=>by obtain ⟨x0,x1,x2,e⟩:=zke hl;subst e;rfl
 obtain ⟨oc,od,kV,dc,pm,an,cd,ct,sl,cT,dT,nT,sT,a7,l7,c7,k7,v7⟩:=h7
 have v7:=zfS kt v7
 have F7:=ziK (st:=zbC) (zcG kt l7) (zcx kt c7) (zcw kt l7)
 have b7:=F7.binds (ps:=["works","stuck","row","ones"]) (ds:=[]) fun _ _ _ _ _ _ s us X hl=>match us,hl with | [_,_,_,_],_=>PySem.W.binds_K X rfl v7 rfl rfl rfl
 have e7:=F7.binds (ps:=["works","stuck","row","ones"]) (ds:=[.int 1 kT7]) fun _ _ _ _ _ _ s us X hl=>match us,(show us.length=3 by rw [yI] at hl;exact ybq hl) with | [_,_,_],_=>PySem.W.binds_K X rfl v7 rfl rfl rfl
 obtain ⟨e8,D8⟩:=h8.mk kt X G ["works","stuck"] fun _ _ _ _ _ _ us hl=>by obtain ⟨x0,x1,e⟩:=zeR hl;subst e;rfl
 obtain ⟨e9,D9⟩:=h9.mk kt X G ["inputs"] fun _ _ _ _ _ _ us hl=>by obtain ⟨x0,e⟩:=zeF hl;subst e;rfl
 obtain ⟨e10,D10⟩:=h10.mk kt X G ["works"] fun _ _ _ _ _ _ us hl=>by obtain ⟨x0,e⟩:=zeF hl;subst e;rfl
 obtain ⟨e11,D11⟩:=h11.mk kt X G ["seen","others"] fun _ _ _ _ _ _ us hl=>by obtain ⟨x0,x1,e⟩:=zeR hl;subst e;rfl
 obtain ⟨e12,D12⟩:=h12.mk kt X G ["works"] fun _ _ _ _ _ _ us hl=>by obtain ⟨x0,e⟩:=zeF hl;subst e;rfl
 obtain ⟨e13,D13⟩:=h13.mk kt X G ["works","rows"] fun _ _ _ _ _ _ us hl=>by obtain ⟨x0,x1,e⟩:=zeR hl;subst e;rfl
 obtain ⟨e14,D14⟩:=h14.mk kt X G ["works"] fun _ _ _ _ _ _ us hl=>by obtain ⟨x0,e⟩:=zeF hl;subst e;rfl
 obtain ⟨e15,D15⟩:=h15.mk kt X G ["works"] fun _ _ _ _ _ _ us hl=>by obtain ⟨x0,e⟩:=zeF hl;subst e;rfl
 obtain ⟨e16,D16⟩:=h16.mk kt X G ["works","k","paper"] fun _ _ _ _ _ _ us hl=>by obtain ⟨x0,x1,x2,e⟩:=zke hl;subst e;rfl
 obtain ⟨e17,D17⟩:=h17.mk kt X G ["works"] fun _ _ _ _ _ _ us hl=>by obtain ⟨x0,e⟩:=zeF hl;subst e;rfl
 obtain ⟨e18,D18⟩:=h18.mk kt X G ["taken","finding"] fun _ _ _ _ _ _ us hl=>by obtain ⟨x0,x1,e⟩:=zeR hl;subst e;rfl
 obtain ⟨e19,D19⟩:=h19.mk kt X G ["numbers","others"] fun _ _ _ _ _ _ us hl=>by obtain ⟨x0,x1,e⟩:=zeR hl;subst e;rfl
 obtain ⟨e20,D20⟩:=h20.mk kt X G ["count","finding"] fun _ _ _ _ _ _ us hl=>by obtain ⟨x0,x1,e⟩:=zeR hl;subst e;rfl
 obtain ⟨e21,D21⟩:=h21.mk kt X G ["choices","count"] fun _ _ _ _ _ _ us hl=>by obtain ⟨x0,x1,e⟩:=zeR hl;subst e;rfl
 obtain ⟨e22,D22⟩:=h22.mk kt X G ["finding","taken","k"] fun _ _ _ _ _ _ us hl=>by obtain ⟨x0,x1,x2,e⟩:=zke hl;subst e;rfl
 obtain ⟨e23,D23⟩:=h23.mk kt X G ["finding","taken","k","paper"] fun _ _ _ _ _ _ us hl=>by obtain ⟨x0,x1,x2,x3,e⟩:=lenV4 hl;subst e;rfl
 obtain ⟨e24,D24⟩:=h24.mk kt X G ["script","k"] fun _ _ _ _ _ _ us hl=>by obtain ⟨x0,x1,e⟩:=zeR hl;subst e;rfl
 obtain ⟨e25,D25⟩:=h25.mk kt X G ["cell","many","top"] fun _ _ _ _ _ _ us hl=>by obtain ⟨x0,x1,x2,e⟩:=zke hl;subst e;rfl
 obtain ⟨e26,D26⟩:=h26.mk kt X G ["cell","wires"] fun _ _ _ _ _ _ us hl=>by obtain ⟨x0,x1,e⟩:=zeR hl;subst e;rfl
 obtain ⟨e27,D27⟩:=h27.mk kt X G ["script","inputs","most"] fun _ _ _ _ _ _ us hl=>by obtain ⟨x0,x1,x2,e⟩:=zke hl;subst e;rfl
 obtain ⟨e28,D28⟩:=h28.mk kt X G ["script","most"] fun _ _ _ _ _ _ us hl=>by obtain ⟨x0,x1,e⟩:=zeR hl;subst e;rfl
 obtain ⟨e29,D29⟩:=h29.mk kt X G ["kind","legs"] fun _ _ _ _ _ _ us hl=>by obtain ⟨x0,x1,e⟩:=zeR hl;subst e;rfl
 obtain ⟨e30,D30⟩:=h30.mk kt X G ["works","fault","row"] fun _ _ _ _ _ _ us hl=>by obtain ⟨x0,x1,x2,e⟩:=zke hl;subst e;rfl
 obtain ⟨e31,D31⟩:=h31.mk kt X G ["works"] fun _ _ _ _ _ _ us hl=>by obtain ⟨x0,e⟩:=zeF hl;subst e;rfl
 obtain ⟨e32,D32⟩:=h32.mk kt X G ["inputs"] fun _ _ _ _ _ _ us hl=>by obtain ⟨x0,e⟩:=zeF hl;subst e;rfl
 obtain ⟨e33,D33⟩:=h33.mk kt X G ["works"] fun _ _ _ _ _ _ us hl=>by obtain ⟨x0,e⟩:=zeF hl;subst e;rfl
 obtain ⟨e34,D34⟩:=h34.mk kt X G ["works"] fun _ _ _ _ _ _ us hl=>by obtain ⟨x0,e⟩:=zeF hl;subst e;rfl
 obtain ⟨e35,D35⟩:=h35.mk kt X G ["finding","taken"] fun _ _ _ _ _ _ us hl=>by obtain ⟨x0,x1,e⟩:=zeR hl;subst e;rfl
 obtain ⟨e36,D36⟩:=h36.mk kt X G ["works"] fun _ _ _ _ _ _ us hl=>by obtain ⟨x0,e⟩:=zeF hl;subst e;rfl
 obtain ⟨e37,D37⟩:=h37.mk kt X G ["finding","taken","k","paper"] fun _ _ _ _ _ _ us hl=>by obtain ⟨x0,x1,x2,x3,e⟩:=lenV4 hl;subst e;rfl
 have F38:=zkB (st:=zhz) (zcG kt lL) (zcx kt cL) (zcw kt lL)
 have b38:=F38.binds (ps:=["script"]) fun _ _ _ _ _ _ us hl=>by obtain ⟨x0,e⟩:=zeF hl;subst e;rfl
 refine ⟨lp,lc,PySem.W.fnOf "law" "law" (zbV zhz) (zbs zhz) (zak zhz) .none kVL dcL pmL anL cdL ctL,⟨kt,lh⟩,fun s v=>.of_eq rfl,fun base _ _=>?_⟩
 exact ok_law (t:=⟨f1,e1,f2,e2,f3,_,T3,kT3,f4,e4,f5,_,T5,kT5,f6,e6,f7,_,T7,kT7,f8,e8,f9,e9,f10,e10,f11,e11,f12,e12,f13,e13,f14,e14,f15,e15,f16,e16,f17,e17,f18,e18,f19,e19,f20,e20,f21,e21,f22,e22,f23,e23,f24,e24,f25,e25,f26,e26,f27,e27,f28,e28,f29,e29,f30,e30,f31,e31,f32,e32,f33,e33,f34,e34,f35,e35,f36,e36,f37,e37,_,_,s1_,lp,lb⟩) ⟨D1,D2,⟨F3,b3,e3,PySem.W.mg_of X G a3⟩,D4,⟨F5,b5,e5,PySem.W.mg_of X G a5⟩,D6,⟨F7,b7,e7,PySem.W.mg_of X G a7⟩,D8,D9,D10,D11,D12,D13,D14,D15,D16,D17,D18,D19,D20,D21,D22,D23,D24,D25,D26,D27,D28,D29,D30,D31,D32,D33,D34,D35,D36,D37,⟨F38,b38,PySem.W.mg_of X G aL⟩,PySem.W.mg_none_of X G z1,PySem.W.mg_none_of X G z2,PySem.W.mg_none_of X G z3,PySem.W.mg_none_of X G z4,PySem.W.mg_none_of X G z5,PySem.W.mg_none_of X G z6,PySem.W.mg_none_of X G z7,PySem.W.mg_none_of X G z8,PySem.W.mg_none_of X G z9,PySem.W.mg_none_of X G z10,PySem.W.mg_none_of X G z11,PySem.W.mg_none_of X G z12,PySem.W.mg_none_of X G z13,PySem.W.mg_none_of X G z14,PySem.W.mg_none_of X G z15,PySem.W.mg_of X G as1,kl,zoH (PySem.W.mg_of X G kb) kd⟩
theorem walk {l:ybt}{q:Program}{loose:List Str}{XP:(Str→Option Value)→Heap→Prop}{YP:World→Heap→Prop}{d:DefRec}{K:Params→PySem.W.Frag}(hn:l.most=some 63)(hdf:d.params.defaults= [])
  (hY:∀ (w:World) (h:Heap),YP w h→(K w.params).In h)
  (F:∀ (w:World) (mg:Str→Option Value) (fa:Addr) (h:Heap),(K w.params).In h→h.Ns qQ mg→mg d.name=some (.ref fa)→
   ∃ (T c:Addr) (fd:FuncData),(LamC (K w.params) T∧zdh (zb1 (K w.params) T) c T=true)∧(∀ (s:Shared) (u:Value),BindsTo s fd ⟨[u],[]⟩ [("script",u)])∧∀ base:Heap,(zb1 (K w.params) T).In base→base.Ns qQ mg→FnOk l.prog w (zb1 (K w.params) T) mg base CX0 11 fa fd ["script"] (zgQ (zb1 (K w.params) T) T)):
  PySem.W.WalkO q loose XP YP l.row.toRowW d [] (fun f vs=>ych f vs):=
 L2.zmQ (n:=63) (k:=11) (x:="script") (CX:=CX0) (sp:=zgQ) hn (by decide) hdf ⟨rfl,by decide,by decide,rfl⟩ hY F (fun _ _ _ a ns hl hS hW=>⟨a,ns,rfl,hS,hl,hW,fun _=>rfl⟩) fun _ _ _ _ z=>z
end My
open PySem PySem.W PyProof.Rows
set_option maxRecDepth 100000 in
set_option maxHeartbeats 0 in
theorem PySem.Challenge.cw_stuckwires_k36_whole_no_fewer_rows_holds : PySem.Challenge.rw_stuckwires_k36_whole_no_fewer_rows.Holds := by
 w_on;o_law
 refine PySem.W.holds_open (q:=My.view) (loose:=My.loo)
  (Xt:=fun s=>xlAt My.view [] s && recOk (RowW.records (OpenRow.toRowW qV.row)) s) (XP:=XL My.view [])
  (Yf:=Hook.obs (kHook My.part My.zhx (fun _=>by kernel_rfl))) (Ya:=Hook.val (kHook My.part My.zhx (fun _=>by kernel_rfl)))
  (YP:=Hook.says (kHook My.part My.zhx (fun _=>by kernel_rfl))) (N:=3654) ?hl (Hook.of _) (Hook.keeps _)
  (fun s e=>xl_of s (ybE.mp e).1) XL.keeps (by rfl) (by rfl) (by rfl)
  (fun s e=>recFacts_of (ybE.mp e).2) (by rfl) (by first | assumption | decide+kernel) (by decide+kernel)
  ⟨rfl,rfl,rfl,rfl,rfl,by decide+kernel⟩ ?hw ?hc
 case hl=>exact My.hl0
 case hw=>w_witness2
 k_fill
 refine My.walk (l:=qV) rfl rfl (fun w h Y=>PySem.W.kIn_of Y) ?F
 case F=>
  intro w mg fa h KX G hmg
  refine' My.all_mk (lp:=My.lamT) KX G hmg ?h1 ?h2 ?h3 ?h4 ?h5 ?h6 ?h7 ?h8 ?h9 ?h10 ?h11 ?h12 ?h13 ?h14 ?h15 ?h16 ?h17 ?h18 ?h19 ?h20 ?h21 ?h22 ?h23 ?h24 ?h25 ?h26 ?h27 ?h28 ?h29 ?h30 ?h31 ?h32 ?h33 ?h34 ?h35 ?h36 ?h37 ?h38 ?z1 ?z2 ?z3 ?z4 ?z5 ?z6 ?z7 ?z8 ?z9 ?z10 ?z11 ?z12 ?z13 ?z14 ?z15 ?as1 ?kt ?kl ?kb ?kd
  all_goals first | ((iterate 9 apply Exists.intro);(refine ⟨?_,?_,?_,?_⟩ <;> k_is)) | ((iterate 13 apply Exists.intro);(refine ⟨?_,?_,?_,?_,?_⟩ <;> k_is)) | skip
  (case z1=>k_is)
  (case z2=>k_is)
  (case z3=>k_is)
  (case z4=>k_is)
  (case z5=>k_is)
  (case z6=>k_is)
  (case z7=>k_is)
  (case z8=>k_is)
  (case z9=>k_is)
  (case z10=>k_is)
  (case z11=>k_is)
  (case z12=>k_is)
  (case z13=>k_is)
  (case z14=>k_is)
  (case z15=>k_is)
  (case as1=>k_is)
  (case kt=>(unfold L2.LamC;kernel_rfl))
  (case kl=>kernel_rfl)
  (case kb=>k_is)
  (case kd=>kernel_rfl)
