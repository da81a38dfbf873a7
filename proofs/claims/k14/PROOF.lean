import PyProof.Rows.All
import Wide.All
import OpenK.AllK
import Wide.FinOn
import Lean
import PyProof.EqAt
import PyProof.EqKinds
import PyProof.TupleCall
import PySem.Challenge.RW_stuckwires_k14_no_faults
noncomputable def PySem.W.Fast.tw8987429763830643407:PySem.Program:=PySem.Challenge.pw_stuckwires_k14_no_faults
theorem PySem.W.Fast.te8987429763830643407:PySem.Challenge.pw_stuckwires_k14_no_faults=PySem.W.Fast.tw8987429763830643407:=rfl
open List renaming length_map→yA,getElem?_eq_getElem→yC,getElem?_map→yE,mem_singleton→yF,getElem?_eq_some_iff→yG,mem_of_getElem?→yI,length_append→yJ,getD_eq_getElem?_getD→yK,map_append→yM,mem_cons→yO,mem_append→yP,size_toArray→yQ,length_take→yR,mem_map→yS,take_add_one→yV,all_eq_true→yX,take_length→qB,mem_range→qE,replicate→qH,range→qI,not_mem_nil→qJ,filterMap_cons→qK,length_singleton→qO,length_cons→qP,getElem?_append_right→qR,contains_iff_mem→qU,map_cons→qW,getElem?_append_left→qY,getElem?_mapIdx→jF,mem_append_right→jG,append_assoc→jH,mem_cons_of_mem→jK,getElem?_toArray→jN,getElem_mem→jO,mem_cons_self→jP,take_of_length_le→jR,mem_append_left→jS,nodup_cons→jV,length_drop→jW,replicate_succ→xE,nodup_nil→xG,ext_getElem?→xH,mem_of_mem_take→xJ,mem_filterMap→xK,map_congr_left→xO,length_replicate→xQ,getElem?_set_ne→xX,getElem?_of_mem→xY,Perm→vB,length→vC,mem_mapIdx→vI,filterMap_append→vK,find?_eq_none→vM,append_nil→vQ,foldl_cons→vR,find?_cons→vS,lookup_cons→vT,getElem?_eq_none→vW,mem_of_find?_eq_some→vZ,mem_of_mem_drop→kA,mem_filter→kC,reverse_cons→kK,flatten_cons→kN,length_eq_zero_iff→wA,map_take→wB,mem_flatMap→wD,getElem?_set_self→wF,length_mapIdx→wJ,map_map→wM,take_append_drop→wN,length_filter_le→wO,foldl_append→wR,nodup_append→wS,map_drop→wT,filterMap_eq_nil_iff→wZ,getElem?_replicate→yak,length_nil→yal,mapIdx_concat→yam,length_range→yav,length_filterMap_eq_countP→yaw,perm_middle→yaD,any_cons→yaG,getElem?_range→yaL,perm_ext_iff_of_nodup→yaT,contains_cons→yaY,drop_eq_getElem_cons→ya4,getElem?_take_of_lt→ya5,filter_congr→ya9,flatMap_cons→ybb,pairwise_filterMap→ybl,find?_cons_of_pos→ybo,of_mem_zip→ybu,length_set→ybG,flatMap_append→ybL,length_pos_iff→ybO,sum_cons→ybV,getElem_range→ybX,getElem?_drop→ybY,mem_replicate→yb2,map_replicate→yb3,filter_append→yb4,map_nil→yb8,all_map→yb9,filter_cons→ycd,any_eq_true→ycf,nodup_range→ycg,mapIdx_cons→ych,forIn_cons→ycm,find?_some→ycn,all_append→yco,sum_append→ycp,range_succ→ycs,foldl→yct,Nodup→ycv
open PySem renaming wpAny_bind→yB,wpAny_pure→yD,sizeLine→yL,mainGlobals→qM,boot_len→jJ,Data→xW,Obj→vG,ClassData→kB,mem_of_lookup→kZ,ItemsAre→ya3,evalArgs_none→ybK,call→ycu
open PySem.Heap renaming get?_push_of_some→yH,lt_size→yU,get?_push_size→yW,SameBut→jB,size_push→xR,get?_update_other→vA,get?_update_self→vJ,get?_none_of_le→yaE
open Nat renaming le_refl→yN,ne_of_lt→qC,lt_of_lt_of_le→qL,zero_le→qN,le_trans→qX,pow_le_pow_right→xC,not_lt_zero→xV,le_add_right→xZ,lt_irrefl→vE,le_of_lt_succ→vP,le_of_lt→kU,succ_pos→wP,lt_succ_self→yaa,ne_of_gt→yae,sub_self→yaf,two_pow_pos→yan,lt_succ_of_lt→yat,mod_lt→yau,testBit_two_pow_sub_one→yaM,mul_comm→yaW,pow_succ→yaX,div_div_eq_div_mul→ybs,testBit_lt_two_pow→ybt,min_eq_left→ybF,lt_of_le_of_lt→ybS,add_right_comm→ybZ,zero_testBit→yce,testBit_xor→ycq,testBit_and→ycr
open Bool renaming false_eq_true→yT,false_ne_true→yY,and_eq_true→qA,not_eq_true'→jT,eq_iff_iff→vH,noConfusion→vU,not_true→wC,and_false→ya1,and_eq_true_iff→ybJ,true_and→ybT
open Prod renaming fst→yZ
open Option.some renaming inj→qF
open PySem.Builtin.Int renaming intBits→qG
open PySem.F renaming plainAttrs_list→qQ,called_set→qZ,slot_list_append→jC,type_list_append→jD,slot_dict_itemiterator_next→jU,attr_ValueError→xI,args_dict_itemiterator_next_1→wV,entry_dict_itemiterator_next→wX,slot_list_extend→yah,type_list_extend→yai,slot_dict_get→yaz,slot_dict_items_iter→yaH,sub_list_frozenset→yaS,excBase_ValueError→yaU,args_tuple_add_2→ya6,entry_tuple_add→ybc,args_dict_get_3→ybd,plainAttrs_dict→ybe,slot_dict_items→ybg,slot_tuple_hash→ybh,entry_type_call→ybi,plain_list_iadd→ybk,slot_tuple_add→ybm,entry_dict_get→ybn,args_list_ne_2→ybp,typeCall_set_1→ybq,entry_set_init→ybr,entry_list_ne→ybz,plain_set_new→ybA,slot_set_iter→ybD,slot_list_ne→ybH,sub_list_set→ybI
open PySem.Builtin renaming bitXor→qS,bitAnd→qT,bitOr→jE,bitNot→jZ
open PySem.PassesOwn renaming never→qV
open PySem.SetTable renaming runEnd→jA,bits→jM,Probe→xA,below→xM,turns→xS,insertAt→kP,layClean→kQ,toList_insertAt→yag,probe→yay,fill→yb0,sizeAbove→yb1,Met→yca,has→ycb
open Int renaming emod_lt_of_pos→jI,emod_nonneg→jX,toNat_natCast→vO,zero_add→vX,natCast_nonneg→yaj,fdiv_eq_ediv_of_nonneg→yaP,le_refl→ybN
open PySem.Challenge renaming rw_stuckwires_k14_no_faults→jL,pw_stuckwires_k14_no_faults→xT
open Option renaming map_eq_some_iff→jQ,isNone_iff_eq_none→ya2,isSome_map→ya7,getD_none→ycc
open PySem.SeqAt renaming EqAt→jY,canLay_of_shaped→wH,shaped→ybw,in_listAt→yck
open PySem.Around renaming under_plainId→xB,under_plain→ybW
open PyProof.Rows renaming callWith_type1→xD,slot_tuple_getitem→kI,callWith_builtin1→kW,boot_isinstance→wL,boot_int→yaA,boot_all→yaB
open Array renaming getD_eq_getD_getElem?→xF,getElem?_eq_getElem→xN,length_toList→kY,forIn_toList→yao,replicate→yaq,toList_inj→yaC,getElem?_eq_some_iff→yaR,getElem?_toList→ybB,toList_filter→ybM,append_assoc→ybR
open PyProof.Rows.F renaming plain_set_update_loop→xL,entry_set_update_loop→wY
open PySem.Heap.SameBut renaming update→xP,extBut→yad
open Ne renaming symm→xU
open PySem.Obj renaming mapSeq→vD,putSet→vN,data_mapFields→yap,mapFields→ybj,isFreed_of_fields→ybC,cls_mapFields→yb6
open Classical renaming byContradiction→vF
open PySem.Calls renaming spliced_cons→vL,spliced_nil→kH,callWith_builtin→wG,evalArgs_plain→yaF,Name_function_global→yaO
open PySem.Paired renaming length→vV,snoc→ycl
open PySem.Builtin.Slice renaming slicePlaces→vY,sliceAdjust→wW,sliceApplied→yaQ
open False renaming elim→kE
open PySem.Builtin.Tuple renaming tupleExact→kJ
open PySem.Builtin.List renaming listTooLong→kO,listExtendWith→yaN,listSameRef→ya8
open PySem.PyData renaming strOk→kX,eqv→wQ,canLay0→yax,eqvAll→yaK,depth→ya0,canLayAll0→yba,depthAll→ybE
open PySem.Value.type renaming inj→wE
open PySem.SetTable.layClean renaming free→wI
open PySem.Builtin.Dict_items renaming ownsTuple→wK,ownedTupleFields→yab,ownedTupleIsFree→yac,pairFromOwner→yar
open PySem.SetTable.probe renaming go→wU
open PySem.Value renaming isInt_shape→yas
open PySem.Shared renaming TypeIs→yaI
open PySem.Builtin.Frozenset renaming updateFrom→yaJ
open PySem.Str renaming ofString→yaV
open PySem.Code renaming quiet_builtin→yaZ
open PySem.Builtin.Dict renaming updateFrom→ybf,showsAll→yby
open PySem.W renaming OpenLaw→ybv
open Nat.succ renaming inj→ybx
open PySem.SeqAt.EqAt renaming int_str→ybP,str_int→ybQ
open PySem.SeqAt.Reads renaming unique→ybU
open PySem.Walks renaming list→yb5
open PySem.SetTable.below renaming go→yb7
open Sum.inl renaming inj→yci
open Sum.inr renaming inj→ycj
open PyProof.Rows.IsTup renaming new→ycw
set_option Elab.async false
set_option linter.all false
set_option maxRecDepth 100000
set_option genSizeOf false
local macro_rules | `(tactic| omega)=>`(tactic| lia)
namespace L2
open PySem
noncomputable def zbS (s:Stmt):Arguments:=match s with
 | .FunctionDef _ a _ _ _ _ _ _ _ _=>a
 | _=>{posonlyargs:=[],args:=[],vararg:=none,kwonlyargs:=[],kw_defaults:=[],kwarg:=none,defaults:=[]}
noncomputable def zbp (s:Stmt):List Stmt:=match s with
 | .FunctionDef _ _ b _ _ _ _ _ _ _=>b
 | _=>[]
noncomputable def zaj (s:Stmt):Scope:=match s with
 | .FunctionDef _ _ _ _ _ _ sc _ _ _=>sc
 | _=>{kind:=.function,names:=[],isGenerator:=false,isCoroutine:=false}
end L2
namespace My
open PySem L2
noncomputable def top (i:Nat):Stmt:=xT.main.body.getD i (.Pass ⟨0,0,0,0⟩)
noncomputable abbrev zdm:Stmt:=top 9
noncomputable abbrev zb8:Stmt:=top 10
noncomputable abbrev zci:Stmt:=top 12
noncomputable abbrev zbZ:Stmt:=top 13
noncomputable abbrev zbV:Stmt:=top 14
noncomputable abbrev zcF:Stmt:=top 15
noncomputable abbrev zbF:Stmt:=top 16
noncomputable abbrev zdY:Stmt:=top 19
noncomputable abbrev zco:Stmt:=top 20
noncomputable abbrev zdt:Stmt:=top 21
noncomputable abbrev zcr:Stmt:=top 22
noncomputable abbrev zcj:Stmt:=top 23
noncomputable abbrev zdj:Stmt:=top 24
noncomputable abbrev zcJ:Stmt:=top 25
noncomputable abbrev zcP:Stmt:=top 26
noncomputable abbrev zb6:Stmt:=top 27
noncomputable abbrev zcl:Stmt:=top 28
noncomputable abbrev zbW:Stmt:=top 29
noncomputable abbrev zdn:Stmt:=top 30
noncomputable abbrev zb4:Stmt:=top 32
noncomputable abbrev zb2:Stmt:=top 33
noncomputable abbrev zb0:Stmt:=top 34
noncomputable abbrev zbG:Stmt:=top 35
noncomputable abbrev zcR:Stmt:=top 37
noncomputable abbrev zdu:Stmt:=top 38
noncomputable abbrev zb3:Stmt:=top 39
noncomputable abbrev zdr:Stmt:=top 41
noncomputable abbrev zck:Stmt:=top 43
noncomputable abbrev zcp:Stmt:=top 44
noncomputable abbrev zdV:Stmt:=top 45
noncomputable abbrev zdp:Stmt:=top 46
noncomputable abbrev zbA:Stmt:=top 47
noncomputable abbrev zbD:Stmt:=top 48
noncomputable abbrev zdv:Stmt:=top 49
noncomputable abbrev zct:Stmt:=top 50
noncomputable abbrev zeI:Stmt:=top 51
noncomputable abbrev zcm:Stmt:=top 52
noncomputable abbrev zio:Stmt:=top 53
end My
namespace My
open PySem PySem.W
noncomputable abbrev dE (P:Params) (x:Str) (n:Nat) (v:Value):DictEntry:=.mk (PyData.keyHash P x) (.str x n) v
noncomputable abbrev tO (vs:Array Value):Obj:=.mk (.type "tuple") none (.seq vs) #[]
noncomputable abbrev fO (x:Str) (s:Stmt) (dV kV doc pm:Value) (an:Option Addr) (cd ct:Value):Obj:=.mk (.type "function") none (.func (PySem.W.fnOf x x (L2.zbS s) (L2.zbp s) (L2.zaj s) dV kV doc pm an cd ct)) #[]
noncomputable abbrev fM (x y:Str) (s:Stmt) (dV kV doc pm:Value) (an:Option Addr) (cd ct:Value):Obj:=.mk (.type "function") none (.func (PySem.W.fnOf x y (L2.zbS s) (L2.zbp s) (L2.zaj s) dV kV doc pm an cd ct)) #[]
noncomputable abbrev fD (x:Str) (s:Stmt) (f:Str) (n c:Nat):Obj:=fO x s .none .none .none (.str f n) none (.ref c) .none
noncomputable abbrev cO (x:Str) (n:Nat) (l a:Int) (r:Nat) (u v:Value) (q:Nat) (t:Nat):Obj:=.mk (.type "code") none (.fields #[.str x n,.str x (n+1),.str "/claim/cut.py" (n+2),.int l 0,.int a 0,.int 0 0,.int 0 0,.int 3 0,.ref r,.bool true,.int 181 0,.ref (r+1),.none,u,v,.ref q,.int t 0,.int l 0,.str "/claim/cut.py" (t+1)]) #[]
noncomputable def part:Params→Frag:=fun P=>
 (nat_lit 2,vG.mk .none none (xW.dict #[]) #[])::
 (nat_lit 3,vG.mk (.type "dict") none (xW.dict #[dE P "__name__" 165 (.str "law_stuckwires_k14_no_faults" 529),dE P "__doc__" 166 .none,dE P "__package__" 167 .none,dE P "__loader__" 168 (.builtin "__main__.__loader__#opaque"),dE P "__spec__" 169 .none,dE P "__annotations__" 170 (.ref 6),dE P "__builtins__" 171 (.ref 4),dE P "__file__" 173 (.str "/claim/cut.py" 172),dE P "__cached__" 174 .none,dE P "StuckError" 206 (.ref 24),dE P "NoWorks" 222 (.ref 37),dE P "NoRow" 238 (.ref 49),dE P "NoFault" 254 (.ref 61),dE P "NoText" 270 (.ref 73),dE P "NoOrder" 286 (.ref 85),dE P "TooMany" 302 (.ref 97),dE P "every_row" 310 (.ref 104),dE P "gate_worth" 322 (.ref 112),dE P "every_fault" 330 (.ref 117),dE P "stuck_places" 342 (.ref 124),dE P "worths_with" 349 (.ref 130),dE P "leg_worths" 355 (.ref 135),dE P "outputs_with" 362 (.ref 141),dE P "FOLDED_KINDS" 368 (.ref 142),dE P "pairs_at" 378 (.ref 149),dE P "paper_shows" 387 (.ref 156),dE P "is_let_by" 400 (.ref 163),dE P "every_pairs" 406 (.ref 168),dE P "input_pairs" 413 (.ref 175),dE P "leg_pairs" 419 (.ref 180),dE P "with_stuck" 425 (.ref 185),dE P "gate_pairs" 431 (.ref 190),dE P "every_choice" 437 (.ref 195),dE P "chosen_pair" 443 (.ref 200),dE P "outputs_alike" 449 (.ref 205),dE P "are_alike" 455 (.ref 210),dE P "outputs_seen" 463 (.ref 215),dE P "rows_at_once" 469 (.ref 220),dE P "first_unlike" 479 (.ref 227),dE P "unlike_numbers" 485 (.ref 232),dE P "first_test" 495 (.ref 239),dE P "test_told" 505 (.ref 246),dE P "paper_behind" 517 (.ref 253),dE P "parted_at" 528 (.ref 260),dE P "_law_cell_at" 538 (.ref 267),dE P "_law_numbers" 551 (.ref 274),dE P "_law_gate" 566 (.ref 281),dE P "_law_works" 572 (.ref 286),dE P "_law_every_fault" 586 (.ref 293),dE P "_law_some_faults" 592 (.ref 298),dE P "_law_asked" 601 (.ref 305),dE P "_law_refused" 612 (.ref 312),dE P "_law_bad" 628 (.ref 319),dE P "_law_is_good" 634 (.ref 324),dE P "law" 649 (.ref 331)] 55) #[])::
 (nat_lit 15,tO #[.type "ValueError"])::
 (nat_lit 22,tO #[])::
 (nat_lit 23,vG.mk (.type "dict") none (xW.dict #[dE P "__module__" 196 (.str "stuckwires.errors" 187),dE P "__firstlineno__" 200 (.int 2 199),dE P "__static_attributes__" 201 (.ref 22),dE P "__weakref__" 203 (.ref 25),dE P "__doc__" 204 .none] 3) #[])::
 (nat_lit 24,vG.mk (.type "type") none (xW.cls (kB.mk "StuckError" [.type "ValueError"] [.ref 24,.type "ValueError",.type "Exception",.type "BaseException",.type "object"] 23 "StuckError" Bool.true [] [.ref 37,.ref 49,.ref 61,.ref 73,.ref 85,.ref 97] Bool.false none Bool.false)) #[Option.some (.ref 15),none,Option.some (.str "StuckError" 189),Option.some (.str "StuckError" 197),Option.some (.builtin "ValueError.__new__"),Option.some (.bool Bool.true)])::
 (nat_lit 25,vG.mk (.type "getset_descriptor") none (xW.fields #[.str "__weakref__" 202,.ref 24,.builtin "ExceptionGroup.__weakref__",.none]) #[])::
 (nat_lit 28,tO #[.ref 24])::
 (nat_lit 35,tO #[])::
 (nat_lit 36,vG.mk (.type "dict") none (xW.dict #[dE P "__module__" 214 (.str "stuckwires.errors" 187),dE P "__firstlineno__" 218 (.int 4 217),dE P "__static_attributes__" 219 (.ref 35),dE P "__doc__" 220 .none] 2) #[])::
 (nat_lit 37,vG.mk (.type "type") none (xW.cls (kB.mk "NoWorks" [.ref 24] [.ref 37,.ref 24,.type "ValueError",.type "Exception",.type "BaseException",.type "object"] 36 "NoWorks" Bool.true [] [] Bool.false none Bool.false)) #[Option.some (.ref 28),none,Option.some (.str "NoWorks" 207),Option.some (.str "NoWorks" 215),Option.some (.builtin "ValueError.__new__"),Option.some (.bool Bool.true)])::
 (nat_lit 40,tO #[.ref 24])::
 (nat_lit 47,tO #[])::
 (nat_lit 48,vG.mk (.type "dict") none (xW.dict #[dE P "__module__" 230 (.str "stuckwires.errors" 187),dE P "__firstlineno__" 234 (.int 6 233),dE P "__static_attributes__" 235 (.ref 47),dE P "__doc__" 236 .none] 2) #[])::
 (nat_lit 49,vG.mk (.type "type") none (xW.cls (kB.mk "NoRow" [.ref 24] [.ref 49,.ref 24,.type "ValueError",.type "Exception",.type "BaseException",.type "object"] 48 "NoRow" Bool.true [] [] Bool.false none Bool.false)) #[Option.some (.ref 40),none,Option.some (.str "NoRow" 223),Option.some (.str "NoRow" 231),Option.some (.builtin "ValueError.__new__"),Option.some (.bool Bool.true)])::
 (nat_lit 52,tO #[.ref 24])::
 (nat_lit 59,tO #[])::
 (nat_lit 60,vG.mk (.type "dict") none (xW.dict #[dE P "__module__" 246 (.str "stuckwires.errors" 187),dE P "__firstlineno__" 250 (.int 8 249),dE P "__static_attributes__" 251 (.ref 59),dE P "__doc__" 252 .none] 2) #[])::
 (nat_lit 61,vG.mk (.type "type") none (xW.cls (kB.mk "NoFault" [.ref 24] [.ref 61,.ref 24,.type "ValueError",.type "Exception",.type "BaseException",.type "object"] 60 "NoFault" Bool.true [] [] Bool.false none Bool.false)) #[Option.some (.ref 52),none,Option.some (.str "NoFault" 239),Option.some (.str "NoFault" 247),Option.some (.builtin "ValueError.__new__"),Option.some (.bool Bool.true)])::
 (nat_lit 64,tO #[.ref 24])::
 (nat_lit 71,tO #[])::
 (nat_lit 72,vG.mk (.type "dict") none (xW.dict #[dE P "__module__" 262 (.str "stuckwires.errors" 187),dE P "__firstlineno__" 266 (.int 10 265),dE P "__static_attributes__" 267 (.ref 71),dE P "__doc__" 268 .none] 2) #[])::
 (nat_lit 73,vG.mk (.type "type") none (xW.cls (kB.mk "NoText" [.ref 24] [.ref 73,.ref 24,.type "ValueError",.type "Exception",.type "BaseException",.type "object"] 72 "NoText" Bool.true [] [] Bool.false none Bool.false)) #[Option.some (.ref 64),none,Option.some (.str "NoText" 255),Option.some (.str "NoText" 263),Option.some (.builtin "ValueError.__new__"),Option.some (.bool Bool.true)])::
 (nat_lit 76,tO #[.ref 24])::
 (nat_lit 83,tO #[])::
 (nat_lit 84,vG.mk (.type "dict") none (xW.dict #[dE P "__module__" 278 (.str "stuckwires.errors" 187),dE P "__firstlineno__" 282 (.int 12 281),dE P "__static_attributes__" 283 (.ref 83),dE P "__doc__" 284 .none] 2) #[])::
 (nat_lit 85,vG.mk (.type "type") none (xW.cls (kB.mk "NoOrder" [.ref 24] [.ref 85,.ref 24,.type "ValueError",.type "Exception",.type "BaseException",.type "object"] 84 "NoOrder" Bool.true [] [] Bool.false none Bool.false)) #[Option.some (.ref 76),none,Option.some (.str "NoOrder" 271),Option.some (.str "NoOrder" 279),Option.some (.builtin "ValueError.__new__"),Option.some (.bool Bool.true)])::
 (nat_lit 88,tO #[.ref 24])::
 (nat_lit 95,tO #[])::
 (nat_lit 96,vG.mk (.type "dict") none (xW.dict #[dE P "__module__" 294 (.str "stuckwires.errors" 187),dE P "__firstlineno__" 298 (.int 14 297),dE P "__static_attributes__" 299 (.ref 95),dE P "__doc__" 300 .none] 2) #[])::
 (nat_lit 97,vG.mk (.type "type") none (xW.cls (kB.mk "TooMany" [.ref 24] [.ref 97,.ref 24,.type "ValueError",.type "Exception",.type "BaseException",.type "object"] 96 "TooMany" Bool.true [] [] Bool.false none Bool.false)) #[Option.some (.ref 88),none,Option.some (.str "TooMany" 287),Option.some (.str "TooMany" 295),Option.some (.builtin "ValueError.__new__"),Option.some (.bool Bool.true)])::
 (nat_lit 100,tO #[])::
 (nat_lit 103,cO "every_row" 305 17 1 100 .none .none 102 308)::
 (nat_lit 104,fD "every_row" zdm "stuckwires.works" 303 103)::
 (nat_lit 105,tO #[.int 1 311])::
 (nat_lit 106,tO #[])::
 (nat_lit 108,tO #[.str "kind" 315,.str "worths" 316,.str "ones" 317,.str "told" 318,.str "worth" 319])::
 (nat_lit 109,tO #[])::
 (nat_lit 111,cO "gate_worth" 312 22 3 106 (.ref 108) (.ref 109) 110 320)::
 (nat_lit 112,fO "gate_worth" zb8 (.ref 105) .none .none (.str "stuckwires.works" 303) none (.ref 111) .none)::
 (nat_lit 113,tO #[])::
 (nat_lit 116,cO "every_fault" 325 37 1 113 .none .none 115 328)::
 (nat_lit 117,fD "every_fault" zci "stuckwires.faults" 323 116)::
 (nat_lit 118,tO #[])::
 (nat_lit 120,tO #[.str "works" 334,.str "faults" 335,.str "known_faults" 336,.str "stuck" 337,.str "fault" 338,.str "place" 339])::
 (nat_lit 121,tO #[])::
 (nat_lit 123,cO "stuck_places" 331 47 2 118 (.ref 120) (.ref 121) 122 340)::
 (nat_lit 124,fD "stuck_places" zbZ "stuckwires.faults" 323 123)::
 (nat_lit 125,tO #[.int 1 343])::
 (nat_lit 126,tO #[])::
 (nat_lit 129,cO "worths_with" 344 58 4 126 .none .none 128 347)::
 (nat_lit 130,fO "worths_with" zbV (.ref 125) .none .none (.str "stuckwires.faults" 323) none (.ref 129) .none)::
 (nat_lit 131,tO #[])::
 (nat_lit 134,cO "leg_worths" 350 65 3 131 .none .none 133 353)::
 (nat_lit 135,fD "leg_worths" zcF "stuckwires.faults" 323 134)::
 (nat_lit 136,tO #[.int 1 356])::
 (nat_lit 137,tO #[])::
 (nat_lit 140,cO "outputs_with" 357 67 4 137 .none .none 139 360)::
 (nat_lit 141,fO "outputs_with" zbF (.ref 136) .none .none (.str "stuckwires.faults" 323) none (.ref 140) .none)::
 (nat_lit 142,tO #[.str "and" 365,.str "or" 366,.str "odd" 367])::
 (nat_lit 143,tO #[])::
 (nat_lit 145,tO #[.str "works" 372,.str "faults" 373,.str "known" 374,.str "wire" 375])::
 (nat_lit 146,tO #[])::
 (nat_lit 148,cO "pairs_at" 369 72 4 143 (.ref 145) (.ref 146) 147 376)::
 (nat_lit 149,fD "pairs_at" zdY "stuckwires.papers" 363 148)::
 (nat_lit 150,tO #[])::
 (nat_lit 152,tO #[.str "works" 382,.str "faults" 383,.str "paper" 384])::
 (nat_lit 153,tO #[])::
 (nat_lit 155,cO "paper_shows" 379 74 3 150 (.ref 152) (.ref 153) 154 385)::
 (nat_lit 156,fD "paper_shows" zco "stuckwires.papers" 363 155)::
 (nat_lit 157,tO #[])::
 (nat_lit 159,tO #[.str "works" 391,.str "stuck" 392,.str "known" 393,.str "paper" 394,.str "place" 395,.str "low" 396,.str "high" 397])::
 (nat_lit 160,tO #[])::
 (nat_lit 162,cO "is_let_by" 388 76 4 157 (.ref 159) (.ref 160) 161 398)::
 (nat_lit 163,fD "is_let_by" zdt "stuckwires.papers" 363 162)::
 (nat_lit 164,tO #[])::
 (nat_lit 167,cO "every_pairs" 401 85 3 164 .none .none 166 404)::
 (nat_lit 168,fD "every_pairs" zcr "stuckwires.papers" 363 167)::
 (nat_lit 169,tO #[])::
 (nat_lit 171,tO #[.str "worth" 410])::
 (nat_lit 172,tO #[])::
 (nat_lit 174,cO "input_pairs" 407 94 1 169 (.ref 171) (.ref 172) 173 411)::
 (nat_lit 175,fD "input_pairs" zcj "stuckwires.papers" 363 174)::
 (nat_lit 176,tO #[])::
 (nat_lit 179,cO "leg_pairs" 414 98 3 176 .none .none 178 417)::
 (nat_lit 180,fD "leg_pairs" zdj "stuckwires.papers" 363 179)::
 (nat_lit 181,tO #[])::
 (nat_lit 184,cO "with_stuck" 420 100 3 181 .none .none 183 423)::
 (nat_lit 185,fD "with_stuck" zcJ "stuckwires.papers" 363 184)::
 (nat_lit 186,tO #[])::
 (nat_lit 189,cO "gate_pairs" 426 104 2 186 .none .none 188 429)::
 (nat_lit 190,fD "gate_pairs" zcP "stuckwires.papers" 363 189)::
 (nat_lit 191,tO #[])::
 (nat_lit 194,cO "every_choice" 432 109 1 191 .none .none 193 435)::
 (nat_lit 195,fD "every_choice" zb6 "stuckwires.papers" 363 194)::
 (nat_lit 196,tO #[])::
 (nat_lit 199,cO "chosen_pair" 438 117 2 196 .none .none 198 441)::
 (nat_lit 200,fD "chosen_pair" zcl "stuckwires.papers" 363 199)::
 (nat_lit 201,tO #[])::
 (nat_lit 204,cO "outputs_alike" 444 121 3 201 .none .none 203 447)::
 (nat_lit 205,fD "outputs_alike" zbW "stuckwires.papers" 363 204)::
 (nat_lit 206,tO #[])::
 (nat_lit 209,cO "are_alike" 450 124 1 206 .none .none 208 453)::
 (nat_lit 210,fD "are_alike" zdn "stuckwires.papers" 363 209)::
 (nat_lit 211,tO #[])::
 (nat_lit 214,cO "outputs_seen" 458 127 2 211 .none .none 213 461)::
 (nat_lit 215,fD "outputs_seen" zb4 "stuckwires.seen" 456 214)::
 (nat_lit 216,tO #[])::
 (nat_lit 219,cO "rows_at_once" 464 132 1 216 .none .none 218 467)::
 (nat_lit 220,fD "rows_at_once" zb2 "stuckwires.seen" 456 219)::
 (nat_lit 221,tO #[])::
 (nat_lit 223,tO #[.str "works" 473,.str "stuck" 474,.str "others" 475,.str "numbers" 476])::
 (nat_lit 224,tO #[])::
 (nat_lit 226,cO "first_unlike" 470 140 3 221 (.ref 223) (.ref 224) 225 477)::
 (nat_lit 227,fD "first_unlike" zb0 "stuckwires.seen" 456 226)::
 (nat_lit 228,tO #[])::
 (nat_lit 231,cO "unlike_numbers" 480 143 2 228 .none .none 230 483)::
 (nat_lit 232,fD "unlike_numbers" zbG "stuckwires.seen" 456 231)::
 (nat_lit 233,tO #[])::
 (nat_lit 235,tO #[.str "works" 491,.str "faults" 492])::
 (nat_lit 236,tO #[])::
 (nat_lit 238,cO "first_test" 488 149 2 233 (.ref 235) (.ref 236) 237 493)::
 (nat_lit 239,fD "first_test" zcR "stuckwires.findings" 486 238)::
 (nat_lit 240,tO #[])::
 (nat_lit 242,tO #[.str "works" 499,.str "faults" 500,.str "stuck" 501,.str "row" 502])::
 (nat_lit 243,tO #[])::
 (nat_lit 245,cO "test_told" 496 151 2 240 (.ref 242) (.ref 243) 244 503)::
 (nat_lit 246,fD "test_told" zdu "stuckwires.findings" 486 245)::
 (nat_lit 247,tO #[])::
 (nat_lit 249,tO #[.str "works" 509,.str "stuck" 510,.str "known" 511,.str "ahead" 512,.str "low" 513,.str "high" 514])::
 (nat_lit 250,tO #[])::
 (nat_lit 252,cO "paper_behind" 506 157 3 247 (.ref 249) (.ref 250) 251 515)::
 (nat_lit 253,fD "paper_behind" zb3 "stuckwires.findings" 486 252)::
 (nat_lit 254,tO #[])::
 (nat_lit 256,tO #[.str "works" 523,.str "faults" 524,.str "others" 525])::
 (nat_lit 257,tO #[])::
 (nat_lit 259,cO "parted_at" 520 165 3 254 (.ref 256) (.ref 257) 258 526)::
 (nat_lit 260,fD "parted_at" zdr "stuckwires.groups" 518 259)::
 (nat_lit 261,tO #[])::
 (nat_lit 263,tO #[.str "script" 534,.str "k" 535])::
 (nat_lit 264,tO #[])::
 (nat_lit 266,cO "_law_cell_at" 531 168 2 261 (.ref 263) (.ref 264) 265 536)::
 (nat_lit 267,fD "_law_cell_at" zck "law_stuckwires_k14_no_faults" 529 266)::
 (nat_lit 268,tO #[])::
 (nat_lit 270,tO #[.str "cell" 542,.str "many" 543,.str "base" 544,.str "row" 545,.str "rest" 546,.str "k" 547,.str "stir" 548])::
 (nat_lit 271,tO #[])::
 (nat_lit 273,cO "_law_numbers" 539 172 3 268 (.ref 270) (.ref 271) 272 549)::
 (nat_lit 274,fD "_law_numbers" zcp "law_stuckwires_k14_no_faults" 529 273)::
 (nat_lit 275,tO #[])::
 (nat_lit 277,tO #[.str "row" 555,.str "wires" 556,.str "two" 557,.str "kinds" 558,.str "kind" 559,.str "many" 560,.str "legs" 561,.str "number" 562,.str "leg" 563])::
 (nat_lit 278,tO #[])::
 (nat_lit 280,cO "_law_gate" 552 185 3 275 (.ref 277) (.ref 278) 279 564)::
 (nat_lit 281,fD "_law_gate" zdV "law_stuckwires_k14_no_faults" 529 280)::
 (nat_lit 282,tO #[])::
 (nat_lit 285,cO "_law_works" 567 202 4 282 .none .none 284 570)::
 (nat_lit 286,fD "_law_works" zdp "law_stuckwires_k14_no_faults" 529 285)::
 (nat_lit 287,tO #[])::
 (nat_lit 289,tO #[.str "works" 576,.str "inputs" 577,.str "gates" 578,.str "outputs" 579,.str "found" 580,.str "wire" 581,.str "number" 582,.str "place" 583])::
 (nat_lit 290,tO #[])::
 (nat_lit 292,cO "_law_every_fault" 573 218 1 287 (.ref 289) (.ref 290) 291 584)::
 (nat_lit 293,fD "_law_every_fault" zbA "law_stuckwires_k14_no_faults" 529 292)::
 (nat_lit 294,tO #[])::
 (nat_lit 297,cO "_law_some_faults" 587 227 2 294 .none .none 296 590)::
 (nat_lit 298,fD "_law_some_faults" zbD "law_stuckwires_k14_no_faults" 529 297)::
 (nat_lit 299,tO #[])::
 (nat_lit 301,tO #[.str "works" 596,.str "faults" 597,.str "way" 598])::
 (nat_lit 302,tO #[])::
 (nat_lit 304,cO "_law_asked" 593 235 3 299 (.ref 301) (.ref 302) 303 599)::
 (nat_lit 305,fD "_law_asked" zdv "law_stuckwires_k14_no_faults" 529 304)::
 (nat_lit 306,tO #[])::
 (nat_lit 308,tO #[.str "works" 605,.str "faults" 606,.str "way" 607,.str "told" 608,.str "e" 609])::
 (nat_lit 309,tO #[])::
 (nat_lit 311,cO "_law_refused" 602 247 3 306 (.ref 308) (.ref 309) 310 610)::
 (nat_lit 312,fD "_law_refused" zct "law_stuckwires_k14_no_faults" 529 311)::
 (nat_lit 313,tO #[])::
 (nat_lit 315,tO #[.str "works" 616,.str "faults" 617,.str "row" 618,.str "far" 619,.str "wires" 620,.str "gate" 621,.str "legs" 622,.str "bad" 623,.str "one" 624,.str "at" 625])::
 (nat_lit 316,tO #[])::
 (nat_lit 318,cO "_law_bad" 613 255 4 313 (.ref 315) (.ref 316) 317 626)::
 (nat_lit 319,fD "_law_bad" zeI "law_stuckwires_k14_no_faults" 529 318)::
 (nat_lit 320,tO #[])::
 (nat_lit 323,cO "_law_is_good" 629 270 2 320 .none .none 322 632)::
 (nat_lit 324,fD "_law_is_good" zcm "law_stuckwires_k14_no_faults" 529 323)::
 (nat_lit 325,tO #[])::
 (nat_lit 327,tO #[.str "script" 638,.str "works" 639,.str "row" 640,.str "far" 641,.str "k" 642,.str "faults" 643,.str "due" 644,.str "way" 645,.str "given" 646])::
 (nat_lit 328,tO #[])::
 (nat_lit 330,cO "law" 635 275 1 325 (.ref 327) (.ref 328) 329 647)::
 (nat_lit 331,fD "law" zio "law_stuckwires_k14_no_faults" 529 330)::[]
def ziQ:List Addr:=[2,3,15,22,23,24,25,28,35,36,37,40,47,48,49,52,59,60,61,64,71,72,73,76,83,84,85,88,95,96,97,100,103,104,105,106,108,109,111,112,113,116,117,118,120,121,123,124,125,126,129,130,131,134,135,136,137,140,141,142,143,145,146,148,149,150,152,153,155,156,157,159,160,162,163,164,167,168,169,171,172,174,175,176,179,180,181,184,185,186,189,190,191,194,195,196,199,200,201,204,205,206,209,210,211,214,215,216,219,220,221,223,224,226,227,228,231,232,233,235,236,238,239,240,242,243,245,246,247,249,250,252,253,254,256,257,259,260,261,263,264,266,267,268,270,271,273,274,275,277,278,280,281,282,285,286,287,289,290,292,293,294,297,298,299,301,302,304,305,306,308,309,311,312,313,315,316,318,319,320,323,324,325,327,328,330,331]
noncomputable def loo:List Str:="gate_worth" ::"worths_with" ::"outputs_with" ::[]
noncomputable def view:Program:={xT with main:={xT.main with body:=[1,2,3,4,5,6,7,9,12,13,15,18,19,20,21,22,23,24,25,26,27,28,29,30,32,33,34,35,37,38,39,41,43,44,45,46,47,48,49,50,51,52,53].map top}}
end My
section
open PySem PySem.W PyProof.Rows
set_option maxRecDepth 100000 in
set_option maxHeartbeats 0 in
theorem My.hl0:PySem.W.LeftO jL.row.prog My.view My.loo (fun s=>xlAt My.view [] s && recOk (RowW.records (OpenRow.toRowW jL.row)) s) (Hook.obs (kHook My.part My.ziQ (fun _=>by kernel_rfl))) (Hook.val (kHook My.part My.ziQ (fun _=>by kernel_rfl))) 5484:=by intro w;kernel_rfl
end
namespace L2
open PySem PySem.Spec PyProof.Rows
noncomputable abbrev Key:=Sum Int Str
noncomputable def zkL:Key→Value→Bool
 | .inl k,v=>Value.isInt k v
 | .inr x,v=>Value.isStrOf x v
noncomputable def keyH (w:World):Key→Int
 | .inl k=>hashInt k
 | .inr x=>hashStr w x
theorem zba:∀ {k:Key} {v:Value},zkL k v=true→(∃ i t,k=Sum.inl i∧v=Value.int i t)∨(∃ x t,k=Sum.inr x∧v=Value.str x t)
 | .inl i,v,h=>by
  obtain ⟨t,e⟩:=yas (k:=i) (v:=v) h
  exact .inl ⟨i,t,rfl,e⟩
 | .inr x,v,h=>by
  obtain ⟨t,e⟩:=Value.isStrOf_shape (x:=x) (v:=v) h
  exact .inr ⟨x,t,rfl,e⟩
theorem ziR (i:Int)(t:Tok):zkL (.inl i) (.int i t)=true:=by simp [zkL,Value.isInt]
theorem ziw (x:Str)(t:Tok):zkL (.inr x) (.str x t)=true:=by simp [zkL,Value.isStrOf]
theorem key_ll (a b:Int):decide ((Sum.inl a:Key)=Sum.inl b)=(a==b):=by
 by_cases e:a=b
 ·subst e;simp
 ·have h:¬(Sum.inl a:Key)=Sum.inl b:=fun q=>e (yci q)
  rw [decide_eq_false h]
  exact (beq_eq_false_iff_ne.mpr e).symm
theorem key_rr (a b:Str):decide ((Sum.inr a:Key)=Sum.inr b)=decide (a=b):=by
 by_cases e:a=b
 ·subst e;simp
 ·have h:¬(Sum.inr a:Key)=Sum.inr b:=fun q=>e (ycj q)
  rw [decide_eq_false h,decide_eq_false e]
theorem key_lr (a:Int)(b:Str):decide ((Sum.inl a:Key)=Sum.inr b)=false:=decide_eq_false (fun q=>nomatch q)
theorem key_rl (a:Str)(b:Int):decide ((Sum.inr a:Key)=Sum.inl b)=false:=decide_eq_false (fun q=>nomatch q)
noncomputable def zaq (prog:Program) (w:World):PySem.KeyKind prog w Key where
 is:=zkL
 hash:=keyH w
 inj:=fun v a b ha hb=>by
  rcases zba ha with ⟨i,t,rfl,rfl⟩ | ⟨x,t,rfl,rfl⟩
  ·rcases zba hb with ⟨j,u,rfl,e⟩ | ⟨y,u,rfl,e⟩
   ·injection e with e1 _;rw [e1]
   ·exact nomatch e
  ·rcases zba hb with ⟨j,u,rfl,e⟩ | ⟨y,u,rfl,e⟩
   ·exact nomatch e
   ·injection e with e1 _;rw [e1]
 byValue:=fun k v h=>by
  rcases zba h with ⟨i,t,rfl,rfl⟩ | ⟨x,t,rfl,rfl⟩ <;> rfl
 pyHash:=fun hv h=>by
  rcases zba hv with ⟨i,t,rfl,rfl⟩ | ⟨x,t,rfl,rfl⟩
  ·exact wpAny_pyHash_int h
  ·exact wpAny_pyHash_str h
 eqBool:=fun hu hv h=>by
  rcases zba hu with ⟨i,t,rfl,rfl⟩ | ⟨x,t,rfl,rfl⟩
  ·rcases zba hv with ⟨j,u,rfl,rfl⟩ | ⟨y,u,rfl,rfl⟩
   ·rw [key_ll] at h;exact wpAny_eqBool_int h
   ·rw [key_lr] at h;exact ybP i t y u _ _ _ _ h
  ·rcases zba hv with ⟨j,u,rfl,rfl⟩ | ⟨y,u,rfl,rfl⟩
   ·rw [key_rl] at h;exact ybQ x t j u _ _ _ _ h
   ·rw [key_rr] at h;exact wpAny_eqBool_str h
 «strs» :=fun k x t v h=>by
  rcases zba h with ⟨i,u,rfl,e⟩ | ⟨y,u,rfl,e⟩
  ·exact nomatch e
  ·injection e with e1 _
   subst e1
   cases v <;> rfl
theorem zjH (prog:Program)(w:World)(i:Int)(t:Tok):(zaq prog w).is (.inl i) (.int i t)=true:=ziR i t
theorem zjw (prog:Program)(w:World)(x:Str)(t:Tok):(zaq prog w).is (.inr x) (.str x t)=true:=ziw x t
inductive V where
 | non | bl (b:Bool) | int (i:Int) | str (x:Str) | byt (b:Array UInt8) | flt (b:UInt64) | ref (a:Addr) | ty (n:String)
 deriving DecidableEq
noncomputable def RelV:V→Value→Prop
 | .non,u=>u=Value.none
 | .bl b,u=>u=Value.bool b
 | .int i,u=>∃ t,u=Value.int i t
 | .str x,u=>∃ t,u=Value.str x t
 | .byt b,u=>∃ t,u=Value.bytes b t
 | .flt b,u=>∃ t,u=Value.float b t
 | .ref a,u=>u=Value.ref a
 | .ty n,u=>u=Value.type n
noncomputable abbrev Vals:List V→List Value→Prop:=Paired RelV
theorem Vals.length {xs:List V}{us:List Value}(r:Vals xs us):xs.length=us.length:=vV r
theorem Vals.get:∀ {xs:List V} {us:List Value} {i:Nat} {x:V},Vals xs us→xs[i]? =some x→∃ u,us[i]? =some u∧RelV x u
 | _,_,_,_,.nil,e=>by simp at e
 | _,_,0,_,.cons r _,e=>by simp at e;subst e;exact ⟨_,rfl,r⟩
 | _,_,i+1,x,.cons _ t,e=>by
  obtain ⟨u,h1,h2⟩:=Vals.get (i:=i) (x:=x) t (by simpa using e)
  exact ⟨u,by simpa using h1,h2⟩
theorem Vals.set {x:V}{u:Value}(r:RelV x u):∀ {xs:List V} {us:List Value} (i:Nat),Vals xs us→Vals (xs.set i x) (us.set i u)
 | _,_,_,.nil=>.nil
 | _,_,0,.cons _ t=>.cons r t
 | _,_,i+1,.cons q t=>.cons q (Vals.set r i t)
theorem Vals.append:∀ {xs ys:List V} {us ws:List Value},Vals xs us→Vals ys ws→Vals (xs++ys) (us++ws)
 | _,_,_,_,.nil,s=>s
 | _,_,_,_,.cons r t,s=>.cons r (Vals.append t s)
theorem Vals.take:∀ {xs:List V} {us:List Value} (n:Nat),Vals xs us→Vals (xs.take n) (us.take n)
 | _,_,0,_=>.nil
 | _,_,_+1,.nil=>.nil
 | _,_,n+1,.cons r t=>.cons r (Vals.take n t)
theorem Vals.drop:∀ {xs:List V} {us:List Value} (n:Nat),Vals xs us→Vals (xs.drop n) (us.drop n)
 | _,_,0,r=>r
 | _,_,_+1,.nil=>.nil
 | _,_,n+1,.cons _ t=>Vals.drop n t
noncomputable def RelO:Option V→Option Value→Prop
 | some v,some u=>RelV v u
 | none,none=>True
 | _,_=>False
noncomputable def KV {κ :Type}:List (κ×V)→List (κ×Value)→Prop:=Paired fun (p: κ×V) (q: κ×Value)=>p.1=q.1∧RelV p.2 q.2
noncomputable def kV:Key→V
 | .inl i=>.int i
 | .inr x=>.str x
inductive HO where
  | lst (xs:List V)
  | tup (xs:List V)
  | dK (kvs:List (Key×V)) | dT (kvs:List (List Key×V))
  | set (S:Int→Bool) (n:Nat)
  | ins (C dx:Addr) (fs:List (Str×V))
  | own (x:Addr)
  | xd (fs:List (Str×V))
  | met (f x:Addr)
  | rng (lo hi:Int)
  | frz (o:Obj) (u:HO)
  | tbl (ps:Array Value)
  | ext (φ :Heap→Prop)
noncomputable abbrev Hp:=Addr→Option HO
noncomputable def upd (H:Hp) (a:Addr) (o:HO):Hp:=fun b=>if b=a then some o else H b
theorem zab {H:Hp}{a:Addr}{o:HO}:upd H a o a=some o:=by unfold upd;rw [if_pos rfl]
theorem zak {H:Hp}{a b:Addr}{o:HO}(h:b≠a):upd H a o b=H b:=by unfold upd;rw [if_neg h]
theorem znC {H:Hp}{a b:Addr}{o u:HO}(h:H a=some o)(h':H b=some u)(d:o≠u):a≠b:=by
 intro e;subst e;rw [h] at h';exact d (qF h')
theorem zao {H:Hp}{a b:Addr}{o:HO}(h:H a=some o)(h':H b=none):a≠b:=by
 intro e;subst e;rw [h] at h';cases h'
noncomputable def RdT (H:Hp) (b:Addr) (xs:List V):Prop:=H b=some (.tup xs)∨∃ o,H b=some (.frz o (.tup xs))
theorem RdT.put {H:Hp}{a c:Addr}{o:HO}{xs:List V}(q:RdT H c xs)(n:c≠a):RdT (upd H a o) c xs:=by
 rcases q with q | ⟨u,q⟩
 ·exact .inl (by rw [zak n];exact q)
 ·exact .inr ⟨u,by rw [zak n];exact q⟩
theorem RdT.upd {H:Hp}{a c:Addr}{o:HO}{xs:List V}(q:RdT H c xs)(n:H a=none):RdT (L2.upd H a o) c xs:=by
 rcases q with q | ⟨u,q⟩
 ·exact RdT.put (.inl q) (zao q n)
 ·exact RdT.put (.inr ⟨u,q⟩) (zao q n)
theorem RdT.same {H H':Hp}{c:Addr}{xs:List V}(q:RdT H c xs)(s:∀ b o,H b=some o→H' b=some o):RdT H' c xs:=by
 rcases q with q | ⟨u,q⟩
 ·exact .inl (s _ _ q)
 ·exact .inr ⟨u,s _ _ q⟩
theorem RdT.write {H:Hp}{D c:Addr}{l:List V}{o:HO}{xs:List V}(q:RdT H c xs)(hD:H D=some (.lst l)):RdT (L2.upd H D o) c xs:=by
 rcases q with q | ⟨u,q⟩
 ·exact RdT.put (.inl q) (znC q hD (fun z=>nomatch z))
 ·exact RdT.put (.inr ⟨u,q⟩) (znC q hD (fun z=>nomatch z))
theorem RdT.keep {H H':Hp}{c:Addr}{xs:List V}(q:RdT H c xs)(k:∀ o,H c=some o→(∃ ys,o= .tup ys∨∃ u,o= .frz u (.tup ys))→H' c=some o):RdT H' c xs:=by
 rcases q with q | ⟨u,q⟩
 ·exact .inl (k _ q ⟨xs,.inl rfl⟩)
 ·exact .inr ⟨u,k _ q ⟨xs,.inr ⟨u,rfl⟩⟩⟩
section
variable (P:Program) (w:World)
noncomputable def zbB (H:Hp) (h:Heap) (a:Addr):HO→Prop
 | .lst xs=>xs.length≤yL∧∃ (its:List Value) (n:Nat),Vals xs its∧h.get? a=some {cls:=.type "list",data:=.seq its.toArray n}
 | .tup xs=>xs.length≤yL∧∃ its:List Value,Vals xs its∧IsTup h a its.toArray
 | .dK kvs=>kvs.length≤yL∧(a==sysModules)=false∧∃ vs,KV kvs vs∧h.DictOf (zaq P w) a vs
 | .dT kvs=>kvs.length≤yL∧(a==sysModules)=false∧∃ xs:List (List Key×Addr×Value),
   Paired (fun (p:List Key×V) (q:List Key×Addr×Value)=>p.1=q.1∧RdT H q.2.1 (p.1.map kV)∧RelV p.2 q.2.2) kvs xs∧
   ∃ o es ep,h.get? a=some o∧o.ExactDict∧o.data= .dict es ep∧es.toList=xs.map (entryOfKey (tupleKind (zaq P w)))∧(xs.map (·.1)).Nodup
 | .set S n=>h.SetOf (intKind P w) a S n
 | .ins C dx fs=>H dx=some (.own a)∧fs.length≤1000∧dx≠a∧h.get? a=some (PySem.W.instObj C dx)∧
   ∃ mA,h.Ns1 dx mA∧(∀ f,RelO (fs.lookup f) (mA f))∧PySem.Within mA (fs.map (·.1))
 | .own _=>∃ o,h.get? a=some o
 | .xd fs=>∃ mA,h.Ns1 a mA∧∀ f,RelO (fs.lookup f) (mA f)
 | .rng lo hi=>∃ t u v,h.get? a=some {cls:=.type "range",data:=.fields #[.int lo t,.int hi u,.int 1 v]}
 | .frz o u=>h.get? a=some o∧zbB H h a u
 | .tbl ps=>h.get? a=some {cls:=.none,data:=.fields ps}
 | .met f x=>h.get? a=some (PySem.W.methodObj (.ref f) (.ref x))
 | .ext φ =>φ h∧(∃ o,h.get? a=some o)∧∀ h1 h2:Heap,φ h1→(∀ o,h1.get? a=some o→h2.get? a=some o)→φ h2
noncomputable def HOk (H:Hp) (h:Heap):Prop:=∀ a o,H a=some o→zbB P w H h a o
end
section
variable {P:Program} {w:World} {H H':Hp} {h h':Heap} {a:Addr} {o:HO}
theorem zbB.lt (x:zbB P w H h a o):a < h.objs.size:=by
 cases o with
 | lst xs=>obtain ⟨_,_,_,_,e⟩:=x;exact yU e
 | tup xs=>obtain ⟨_,_,_,p⟩:=x;exact p.lt
 | dK kvs=>obtain ⟨_,_,_,_,o,_,_,e,_⟩:=x;exact yU e
 | dT kvs=>obtain ⟨_,_,_,_,o,_,_,e,_⟩:=x;exact yU e
 | set S n=>obtain ⟨o,_,_,_,e,_⟩:=x;exact yU e
 | ins C dx fs=>obtain ⟨_,_,_,e,_⟩:=x;exact yU e
 | own y=>obtain ⟨_,e⟩:=x;exact yU e
 | xd fs=>obtain ⟨_,⟨_,_,_,e,_⟩,_⟩:=x;exact yU e
 | rng lo hi=>obtain ⟨_,_,_,e⟩:=x;exact yU e
 | frz ob u=>obtain ⟨e,_⟩:=x;exact yU e
 | tbl ps=>exact yU (show h.get? a=some _ from x)
 | met f y=>exact yU (show h.get? a=some _ from x)
 | ext φ =>obtain ⟨_,⟨_,e⟩,_⟩:=x;exact yU e
theorem Paired.mapP {α β :Type}{F G: α→β→Prop}:∀ {l₁ :List α} {l₂ :List β},Paired F l₁ l₂→(∀ a b,F a b→G a b)→Paired G l₁ l₂
 | _,_,.nil,_=>.nil
 | _,_,.cons r t,f=>.cons (f _ _ r) (Paired.mapP t f)
theorem zbB.stay (x:zbB P w H h a o)(k:∀ b u,(b=a∨H b=some (.own a))→h.get? b=some u→h'.get? b=some u)
  (ho:∀ b,H b=some (.own a)→H' b=some (.own a)) (ht:∀ b xs,RdT H b xs→RdT H' b xs):zbB P w H' h' a o:=by
 induction o with
 | lst xs=>obtain ⟨z,its,n,r,e⟩:=x;exact ⟨z,its,n,r,k _ _ (.inl rfl) e⟩
 | tup xs=>obtain ⟨z,its,r,ob,e,c⟩:=x;exact ⟨z,its,r,ob,k _ _ (.inl rfl) e,c⟩
 | dK kvs=>obtain ⟨z,y,vs,r,ob,es,ep,e,c⟩:=x;exact ⟨z,y,vs,r,ob,es,ep,k _ _ (.inl rfl) e,c⟩
 | dT kvs=>
  obtain ⟨z,y,xs,r,ob,es,ep,e,c⟩:=x
  exact ⟨z,y,xs,Paired.mapP r fun p q z=>⟨z.1,ht _ _ z.2.1,z.2.2⟩,ob,es,ep,k _ _ (.inl rfl) e,c⟩
 | set S n=>obtain ⟨ob,es,ep,t,e,c⟩:=x;exact ⟨ob,es,ep,t,k _ _ (.inl rfl) e,c⟩
 | ins C dx fs=>
  obtain ⟨d,z,ne,e,mA,⟨od,es,ep,e2,c⟩,r⟩:=x
  exact ⟨ho _ d,z,ne,k _ _ (.inl rfl) e,mA,⟨od,es,ep,k _ _ (.inr d) e2,c⟩,r⟩
 | own y=>obtain ⟨ob,e⟩:=x;exact ⟨ob,k _ _ (.inl rfl) e⟩
 | xd fs=>obtain ⟨mA,⟨od,es,ep,e,c⟩,r⟩:=x;exact ⟨mA,⟨od,es,ep,k _ _ (.inl rfl) e,c⟩,r⟩
 | rng lo hi=>obtain ⟨t,u,v,e⟩:=x;exact ⟨t,u,v,k _ _ (.inl rfl) e⟩
 | frz ob u ih=>obtain ⟨e,q⟩:=x;exact ⟨k _ _ (.inl rfl) e,ih q⟩
 | tbl ps=>
  have e:h.get? a=some {cls:=.none,data:=.fields ps}:=x
  show h'.get? a=some {cls:=.none,data:=.fields ps}
  exact k a _ (.inl rfl) e
 | met f y=>
  have e:h.get? a=some (PySem.W.methodObj (.ref f) (.ref y)):=x
  show h'.get? a=some (PySem.W.methodObj (.ref f) (.ref y))
  exact k a _ (.inl rfl) e
 | ext φ =>obtain ⟨p,⟨o,e⟩,st⟩:=x;exact ⟨st _ _ p fun o q=>k _ _ (.inl rfl) q,⟨o,k _ _ (.inl rfl) e⟩,st⟩
theorem HOk.lt (x:HOk P w H h)(e:H a=some o):a < h.objs.size:=(x a o e).lt
theorem HOk.fresh (x:HOk P w H h)(e:h.objs.size≤a):H a=none:=by
 cases q:H a with
 | none=>rfl
 | some u=>exact absurd (qL (x.lt q) e) (vE _)
theorem HOk.kept (x:HOk P w H h)(k:∀ b u,h.get? b=some u→h'.get? b=some u):HOk P w H h':=fun a o e=>
 (x a o e).stay (fun b u _ q=>k b u q) (fun _ q=>q) fun _ _ q=>q
theorem HOk.laid (x:HOk P w H h)(k:∀ b u,h.get? b=some u→h'.get? b=some u)(hp:h.objs.size≤a)(new:zbB P w (upd H a o) h' a o):HOk P w (upd H a o) h':=fun b u e=>by
 have hn:=x.fresh hp
 by_cases hb:b=a
 ·subst hb;rw [zab] at e;cases e;exact new
 ·rw [zak hb] at e
  exact (x b u e).stay (fun c v _ q=>k c v q) (fun c q=>by rw [zak (zao q hn)];exact q) fun c xs q=>q.upd hn
end
noncomputable def Rd (H:Hp) (a:Addr) (u:HO):Prop:=H a=some u∨∃ o,H a=some (.frz o u)
theorem Rd.of {H:Hp}{a:Addr}{u:HO}(h:H a=some u):Rd H a u:=.inl h
theorem Rd.ok {P:Program}{w:World}{H:Hp}{h:Heap}{a:Addr}{u:HO}(r:Rd H a u)(x:HOk P w H h):zbB P w H h a u:=by
 rcases r with r | ⟨o,r⟩
 ·exact x a u r
 ·obtain ⟨_,q⟩:=x a _ r
  exact q
noncomputable def Mut:Option HO→Prop
 | some (.lst _)=>True
 | some (.dK _)=>True
 | some (.dT _)=>True
 | some (.set _ _)=>True
 | some (.ins _ _ _)=>True
 | some (.ext _)=>True
 | _=>False
section
variable {P:Program} {w:World} {H:Hp} {h h':Heap} {x e:Addr} {o':HO}
theorem HOk.write (ok:HOk P w H h)(mu:Mut (H x))(he:e=x∨H e=some (.own x))(k:∀ b u,b≠e→h.get? b=some u→h'.get? b=some u)(heo:∃ u,h'.get? e=some u)
  (new:zbB P w (upd H x o') h' x o'):HOk P w (upd H x o') h':=fun b u q=>by
 have nown:∀ c y,H c=some (.own y)→c≠x:=fun c y r z=>by subst z;rw [r] at mu;exact mu
 have ntup:∀ c xs,RdT H c xs→c≠x:=fun c xs r z=>by subst z;rcases r with r | ⟨_,r⟩ <;> (rw [r] at mu;exact mu)
 by_cases hb:b=x
 ·subst hb;rw [zab] at q;cases q;exact new
 ·rw [zak hb] at q
  by_cases hbe:b=e
  ·have q':H b=some (.own x):=by
    rcases he with z | z
    ·exact absurd (hbe.trans z) hb
    ·rw [hbe];exact z
   rw [q] at q';cases q'
   obtain ⟨v,hv⟩:=heo
   exact ⟨v,by rw [hbe];exact hv⟩
  ·refine (ok b u q).stay (fun c v hc r=>k c v ?_ r) (fun c r=>by rw [zak (nown c b r)];exact r) fun c xs r=>r.put (ntup c xs r)
   rcases hc with rfl | hc
   ·exact hbe
   ·rintro rfl
    rcases he with z | z
    ·exact nown c b hc z
    ·rw [hc] at z;cases z;exact hb rfl
end
structure Un (fs ex:List Addr) (H H':Hp) (h h':Heap):Prop where
 keep:∀ b o,h.get? b=some o→H b=none→b∉fs→b∉ex→h'.get? b=some o
 slot:∀ b o,h.get? b=some o→H b=none→b∈fs→b∉ex→∃ sl,h'.get? b=some {o with slots:=sl}
 free:∀ b o,h.get? b=some o→H b=none→b∉ex→H' b=none
 there:∀ b o,h.get? b=some o→b∉ex→∃ o',h'.get? b=some o'
 tups:∀ b xs,H b=some (.tup xs)→H' b=some (.tup xs)
 frzs:∀ b o u,H b=some (.frz o u)→H' b=some (.frz o u)
 tbls:∀ b ps,H b=some (.tbl ps)→∃ more,H' b=some (.tbl (ps++more))
section
variable {fs fs' ex ex':List Addr} {H H1 H2:Hp} {h h1 h2 h':Heap} {a x e:Addr} {o:HO}
theorem Un.any (u:Un fs ex H H1 h h1){b:Addr}{ob:Obj}(q:h.get? b=some ob)(n:H b=none)(hx:b∉ex):∃ sl,h1.get? b=some {ob with slots:=sl}:=by
 by_cases hb:b∈fs
 ·exact u.slot b ob q n hb hx
 ·exact ⟨ob.slots,u.keep b ob q n hb hx⟩
theorem Un.trans (a:Un fs ex H H1 h h1)(b:Un fs ex H1 H2 h1 h2):Un fs ex H H2 h h2 where
 keep:=fun c ob q n hc hx=>b.keep c ob (a.keep c ob q n hc hx) (a.free c ob q n hx) hc hx
 slot:=fun c ob q n hc hx=>by
  obtain ⟨sl,e1⟩:=a.slot c ob q n hc hx
  obtain ⟨sl',e2⟩:=b.slot c _ e1 (a.free c ob q n hx) hc hx
  exact ⟨sl',e2⟩
 free:=fun c ob q n hx=>by
  obtain ⟨o',e1⟩:=a.there c ob q hx
  exact b.free c o' e1 (a.free c ob q n hx) hx
 there:=fun c ob q hx=>by
  obtain ⟨o',e1⟩:=a.there c ob q hx
  exact b.there c o' e1 hx
 tups:=fun c xs q=>b.tups c xs (a.tups c xs q)
 frzs:=fun c ob xs q=>b.frzs c ob xs (a.frzs c ob xs q)
 tbls:=fun c ps q=>by
  obtain ⟨m1,e1⟩:=a.tbls c ps q
  obtain ⟨m2,e2⟩:=b.tbls c _ e1
  exact ⟨m1++m2,by rw [e2,ybR]⟩
theorem Un.kept (k:∀ b u,h.get? b=some u→h'.get? b=some u):Un fs ex H H h h':=
 ⟨fun b ob q _ _ _=>k b ob q,fun b ob q _ _ _=>⟨ob.slots,k b ob q⟩,fun _ _ _ n _=>n,fun b ob q _=>⟨ob,k b ob q⟩,fun _ _ q=>q,fun _ _ _ q=>q,fun _ ps q=>⟨#[],by rw [q];simp⟩⟩
theorem Un.refl:Un fs ex H H h h:=Un.kept fun _ _ q=>q
theorem Un.laid (k:∀ b u,h.get? b=some u→h'.get? b=some u)(hp:h.objs.size≤a)(hn:H a=none):Un fs ex H (upd H a o) h h' where
 keep:=fun b u q _ _ _=>k b u q
 slot:=fun b u q _ _ _=>⟨u.slots,k b u q⟩
 free:=fun b u q n _=>by rw [zak (qC (qL (yU q) hp))];exact n
 there:=fun b u q _=>⟨u,k b u q⟩
 tups:=fun b xs q=>by rw [zak (zao q hn)];exact q
 frzs:=fun b u xs q=>by rw [zak (zao q hn)];exact q
 tbls:=fun b ps q=>⟨#[],by rw [zak (zao q hn),q];simp⟩
theorem Un.write (mu:Mut (H x))(he:e=x∨H e=some (.own x))(k:∀ b u,b≠e→h.get? b=some u→h'.get? b=some u)(heo:∃ u,h'.get? e=some u):Un fs ex H (upd H x o) h h':=by
 have hx:∀ b,H b=none→b≠x:=fun b n z=>by subst z;rw [n] at mu;exact mu
 have hb:∀ b,H b=none→b≠e:=fun b n z=>by
  subst z
  rcases he with r | r
  ·exact hx b n r
  ·rw [n] at r;cases r
 have hm:∀ b u,H b=some u→¬Mut (some u)→b≠x:=fun b u q nm z=>by subst z;rw [q] at mu;exact nm mu
 refine ⟨fun b u q n _ _=>k b u (hb b n) q,fun b u q n _ _=>⟨u.slots,k b u (hb b n) q⟩,fun b u q n _=>by rw [zak (hx b n)];exact n,fun b u q _=>?_,
  fun b xs q=>by rw [zak (hm b _ q fun z=>z)];exact q,fun b u xs q=>by rw [zak (hm b _ q fun z=>z)];exact q,fun b ps q=>⟨#[],by rw [zak (hm b _ q fun z=>z),q];simp⟩⟩
 by_cases hbe:b=e
 ·subst hbe;exact heo
 ·exact ⟨u,k b u hbe q⟩
theorem Un.mono (u:Un fs ex H H1 h h1)(hs:∀ b∈fs,b∈fs')(hx:∀ b∈ex,b∈ex'):Un fs' ex' H H1 h h1:=
 ⟨fun b ob q n hb he=>u.keep b ob q n (fun z=>hb (hs b z)) fun z=>he (hx b z),fun _ _ q n _ he=>u.any q n fun z=>he (hx _ z),fun b ob q n he=>u.free b ob q n fun z=>he (hx b z),fun b ob q he=>u.there b ob q fun z=>he (hx b z),u.tups,u.frzs,u.tbls⟩
end
noncomputable def trk (h:Heap) (H:Hp):List Addr:=(qI h.objs.size).filter fun a=>(H a).isSome
noncomputable def hidT (h:Heap) (H:Hp):Heap:=PySem.W.hideAll h (trk h H)
theorem zlJ (h:Heap)(H:Hp):(hidT h H).objs.size=h.objs.size:=PySem.W.hideAll_size _ _
theorem zns {h:Heap}{H:Hp}{b:Addr}{o:Obj}(e:h.get? b=some o)(n:H b=none):(hidT h H).get? b=some o:=
 PySem.W.hideAll_get _ e fun hm=>by
  have q:(H b).isSome=true:=(kC.mp hm).2
  rw [n] at q;simp at q
theorem zpm {h:Heap}{H:Hp}{b:Addr}{o:Obj}(e:(hidT h H).get? b=some o):h.get? b=some o∧H b=none:=by
 have e':h.get? b=some o:=PySem.W.of_hideAll (trk h H) e
 refine ⟨e',?_⟩
 cases q:H b with
 | none=>rfl
 | some x=>
  have hm:b∈trk h H:=kC.mpr ⟨qE.mpr (yU e'),by simp [q]⟩
  have z:(hidT h H).get? b=none:=PySem.W.hideAll_none (trk h H) hm
  rw [z] at e;cases e
noncomputable def zou (g h:Heap) (L:Addr):List (Addr×Obj):=(qI h.objs.size).filterMap fun a=>if a=L∨(g.get? a).isSome=true then none else (h.get? a).map fun o=>(a,o)
noncomputable def rest (g h:Heap) (L d:Addr):List (Addr×Obj):=(zou g h L).filter fun p=>decide (p.1≠d)
structure Mod (K:PySem.W.Frag) (mg:Str→Option Value) (base:Heap):Prop where
 kin:K.In base
 glob:base.Ns qM mg
 blt:∃ mb,base.Ns builtinsNs mb∧∀ x:Str,x≠"__name__"→mb x=bootBuiltins x
 nolimit:base.NoLimit
structure Cx where
 prog:Program
 w:World
 K:PySem.W.Frag
 mg:Str→Option Value
 base:Heap
 A:Around
 N:List Str
 s₀ :Shared
 H₀ :Hp
 env:Env
 outer:List Env
 stack:List Env
 ex:List Addr
 fn:Str→Bool
 calm:Bool
 pn:List (Addr×Obj)
 xe:Value→Shared→Prop
noncomputable def frs (l:List Env):List Addr:=l.filterMap (·.frame)
noncomputable abbrev Cx.fs (X:Cx):List Addr:=frs X.outer
noncomputable def Vis (sc:Scope) (x:Str):Prop:=sc.names.lookup x=some .local∨sc.names.lookup x=some .cell∨sc.names.lookup x=some .free
noncomputable def Loc (sc:Scope) (x:Str):Prop:=sc.names.lookup x=some .local∨sc.names.lookup x=some .cell
noncomputable def Look (env:Env) (h:Heap) (m:Str→Option Value) (x:Str) (u:Value):Prop:=
 (env.kindOf x=some .local∧m x=some u)∨((env.kindOf x=some .cell∨env.kindOf x=some .free)∧∃ c,env.cells.lookup x=some c∧h.IsCell c (some u))
structure Cx.Ok (X:Cx):Prop where
 mod:Mod X.K X.mg X.base
 kind:X.env.scope.kind= .function
 glob:X.env.globals=qM
 blt:X.env.builtins=builtinsNs
 above:X.s₀.heap.objs.size≤X.env.locals
 inj:∀ x y c,X.env.cells.lookup x=some c→X.env.cells.lookup y=some c→x=y
 has:∀ x,(X.env.kindOf x=some .cell∨X.env.kindOf x=some .free)→∃ c,X.env.cells.lookup x=some c
 cab:∀ x c,X.fn x=true→X.env.cells.lookup x=some c→X.s₀.heap.objs.size≤c
 hd:X.calm=true→X.A.handled=none
 frames:X.A.frames=some X.stack
 stk:X.stack=X.outer∨(X.stack=X.env::X.outer∧X.env.frame=some X.env.locals)
 exf:∀ b∈X.ex,b≠X.env.locals∧∀ x c,X.env.cells.lookup x=some c→c≠b
 bs:∀ b o,X.base.get? b=some o→X.s₀.heap.get? b=some o∧X.H₀ b=none
 bsz:X.base.objs.size≤X.s₀.heap.objs.size
 noex:∀ b o,X.base.get? b=some o→b∉X.ex
 exfs:∀ b∈X.ex,b∉X.fs
 funs:X.s₀.heap.FunFrames X.base X.outer
 frf:∀ b∈X.fs,X.H₀ b=none
structure Inv (X:Cx) (pins:List (Addr×Obj)) (σ :List (Option V)) (H:Hp) (s:Shared):Prop where
 ok:X.Ok
 os:s.os=X.s₀.os
 bare:AllBare s.gens
 base:Un X.fs X.ex X.H₀ H X.s₀.heap s.heap
 loc:∃ m,s.heap.Ns X.env.locals m∧∀ (i:Nat) (x:Str) (v:V),X.N[i]? =some x→σ[i]? =some (some v)→Vis X.env.scope x→∃ u,RelV v u∧Look X.env s.heap m x u
 cell:∀ x c,X.env.cells.lookup x=some c→∃ v,s.heap.IsCell c v
 free:H X.env.locals=none
 freeC:∀ x c,X.env.cells.lookup x=some c→H c=none
 pin:∀ p∈X.pn++pins,s.heap.get? p.1=some p.2∧H p.1=none∧p.1≠X.env.locals∧p.1∉X.fs∧∀ v,p.2.data≠.cell v
 hok:HOk X.prog X.w H s.heap
 len: σ.length=X.N.length
section
variable {X:Cx} {pins:List (Addr×Obj)} {σ :List (Option V)} {H H':Hp} {s:Shared} {h':Heap}
theorem Cx.Ok.nofr (ok:X.Ok){b:Addr}{o:Obj}(e:X.base.get? b=some o):b∉X.fs:=fun hb=>by
 have:=(ok.funs.mem hb).1
 rw [e] at this;cases this
theorem Inv.bs (I:Inv X pins σ H s):∀ b o,X.base.get? b=some o→s.heap.get? b=some o∧H b=none:=fun b o e=>
 ⟨I.base.keep b o (I.ok.bs b o e).1 (I.ok.bs b o e).2 (I.ok.nofr e) (I.ok.noex b o e),I.base.free b o (I.ok.bs b o e).1 (I.ok.bs b o e).2 (I.ok.noex b o e)⟩
theorem Inv.bk (I:Inv X pins σ H s):∀ b o,X.base.get? b=some o→s.heap.get? b=some o:=fun b o e=>(I.bs b o e).1
theorem Inv.mod (I:Inv X pins σ H s):Mod X.K X.mg X.base:=I.ok.mod
theorem Inv.kIn (I:Inv X pins σ H s):X.K.In s.heap:=I.ok.mod.kin.keeps I.bk
theorem Inv.nolimit (I:Inv X pins σ H s):s.heap.NoLimit:=I.ok.mod.nolimit.keeps I.bk
theorem Inv.fr (I:Inv X pins σ H s):∃ m,Fr X.base X.env.locals s.heap m:=
 let ⟨m,hn,_⟩:=I.loc
 ⟨m,hn,I.bk,qX I.ok.bsz I.ok.above⟩
theorem Inv.lt (I:Inv X pins σ H s):X.env.locals < s.heap.objs.size:=let ⟨_,hn,_⟩:=I.loc;hn.lt
theorem Inv.sz (I:Inv X pins σ H s):X.s₀.heap.objs.size≤s.heap.objs.size:=qX I.ok.above (kU I.lt)
theorem Inv.nofs (I:Inv X pins σ H s){a:Addr}(h:s.heap.objs.size≤a):a∉X.fs:=fun hb=>by
 obtain ⟨_,o,ho,_⟩:=I.ok.funs.mem hb
 exact absurd (qL (yU ho) (qX I.sz h)) (vE _)
theorem Inv.cne (I:Inv X pins σ H s):∀ x c,X.env.cells.lookup x=some c→c≠X.env.locals:=fun x c e z=>by
 obtain ⟨v,o,ho,hd⟩:=I.cell x c e
 obtain ⟨m,⟨o',es,ep,ho',hd',_⟩,_⟩:=I.loc
 rw [z,ho'] at ho;cases ho;rw [hd'] at hd;cases hd
theorem Inv.funs (I:Inv X pins σ H s):s.heap.FunFrames X.base X.outer:=by
 have all:∀ (l:List Env),(∀ b∈frs l,b∈X.fs)→X.s₀.heap.FunFrames X.base l→s.heap.FunFrames X.base l:=by
  intro l
  induction l with
  | nil=>intro _ _;trivial
  | cons env r ih=>
   intro hs hl
   obtain ⟨hk,⟨L,o,hf,hn,ho,hd⟩,hr⟩:=hl
   have hL:L∈X.fs:=hs L (by unfold frs;rw [qK,hf];exact jP)
   obtain ⟨sl,e⟩:=I.base.slot L o ho (I.ok.frf L hL) hL fun z=>I.ok.exfs L z hL
   exact ⟨hk,⟨L,_,hf,hn,e,hd⟩,ih (fun b hb=>hs b (by unfold frs;rw [qK,hf];exact jK _ hb)) hr⟩
 exact all X.outer (fun _ hb=>hb) I.ok.funs
theorem Inv.stack (I:Inv X pins σ H s):s.heap.FunFrames X.base X.stack:=by
 rcases I.ok.stk with e | ⟨e,hf⟩
 ·rw [e];exact I.funs
 ·rw [e]
  obtain ⟨m,hn,_⟩:=I.loc
  refine .cons (by rw [I.ok.kind];decide) hf hn ?_ I.funs
  exact yaE (qX I.ok.bsz I.ok.above)
theorem Inv.stkSub (I:Inv X pins σ H s):∀ b∈frs X.stack,b∈X.env.locals::X.fs:=fun b hb=>by
 rcases I.ok.stk with e | ⟨e,hf⟩
 ·rw [e] at hb;exact jK _ hb
 ·rw [e] at hb
  unfold frs at hb
  rw [qK,hf] at hb
  exact hb
theorem Inv.stkFree (I:Inv X pins σ H s):∀ b∈frs X.stack,H b=none:=fun b hb=>by
 rcases yO.mp (I.stkSub b hb) with e | hb
 ·rw [e];exact I.free
 ·obtain ⟨_,o,ho,_⟩:=I.ok.funs.mem hb
  exact I.base.free b o ho (I.ok.frf b hb) fun z=>I.ok.exfs b z hb
theorem Inv.step {g':Array GenState}{t':Nat}{d':Drawn}{ch:List Addr}(I:Inv X pins σ H s)
  (hch:∀ b∈ch,(b∈X.ex∨X.s₀.heap.objs.size≤b)∧b≠X.env.locals∧(∀ x c,X.env.cells.lookup x=some c→c≠b)∧∀ p∈X.pn++pins,p.1≠b)
  (keep:∀ b o,b≠X.env.locals→b∉X.fs→b∉ch→s.heap.get? b=some o→H b=none→h'.get? b=some o)
  (slot:∀ b o,b≠X.env.locals→b∈X.fs→b∉ch→s.heap.get? b=some o→H b=none→∃ sl,h'.get? b=some {o with slots:=sl}) (free:∀ b o,b∉ch→s.heap.get? b=some o→H b=none→H' b=none)
  (there:∀ b o,b∉ch→s.heap.get? b=some o→∃ o',h'.get? b=some o')
  (tups:∀ b xs,H b=some (.tup xs)→H' b=some (.tup xs)) (frzs:∀ b o u,H b=some (.frz o u)→H' b=some (.frz o u)) (tbls:∀ b ps,H b=some (.tbl ps)→∃ more,H' b=some (.tbl (ps++more)))
  (ns:∀ m,s.heap.Ns X.env.locals m→h'.Ns X.env.locals m) (hok:HOk X.prog X.w H' h') (hg:AllBare g'):
  Inv X pins σ H' {s with heap:=h',gens:=g',drawn:=d',toks:=t'}:=by
 have neL:∀ b o,X.s₀.heap.get? b=some o→b≠X.env.locals:=fun b o e=>qC (qL (yU e) I.ok.above)
 have neC:∀ b o,X.s₀.heap.get? b=some o→b∉X.ex→b∉ch:=fun b o e hx hb=>by
  rcases (hch b hb).1 with z | z
  ·exact hx z
  ·exact absurd (qL (yU e) z) (vE _)
 have cellK:∀ x c,X.env.cells.lookup x=some c→∀ v,s.heap.IsCell c v→h'.IsCell c v:=fun x c e v ⟨o,ho,hd⟩=>by
  have nch:c∉ch:=fun z=>(hch c z).2.2.1 x c e rfl
  by_cases hc:c∈X.fs
  ·obtain ⟨sl,q⟩:=slot c o (I.cne x c e) hc nch ho (I.freeC x c e)
   exact ⟨_,q,hd⟩
  ·exact ⟨o,keep c o (I.cne x c e) hc nch ho (I.freeC x c e),hd⟩
 refine ⟨I.ok,I.os,hg,⟨fun b o e n hb hx=>?_,fun b o e n hb hx=>?_,fun b o e n hx=>?_,fun b o e hx=>?_,fun b xs e=>tups b xs (I.base.tups b xs e),fun b o xs e=>frzs b o xs (I.base.frzs b o xs e),fun b ps e=>?_⟩,?_,fun x c e=>?_,?_,fun x c e=>?_,fun p hp=>?_,hok,I.len⟩
 ·exact keep b o (neL b o e) hb (neC b o e hx) (I.base.keep b o e n hb hx) (I.base.free b o e n hx)
 ·obtain ⟨sl,e1⟩:=I.base.slot b o e n hb hx
  obtain ⟨sl',e2⟩:=slot b _ (neL b o e) hb (neC b o e hx) e1 (I.base.free b o e n hx)
  exact ⟨sl',e2⟩
 ·obtain ⟨o',e1⟩:=I.base.there b o e hx
  exact free b o' (neC b o e hx) e1 (I.base.free b o e n hx)
 ·obtain ⟨o',e1⟩:=I.base.there b o e hx
  exact there b o' (neC b o e hx) e1
 ·obtain ⟨m1,e1⟩:=I.base.tbls b ps e
  obtain ⟨m2,e2⟩:=tbls b _ e1
  exact ⟨m1++m2,by rw [e2,ybR]⟩
 ·obtain ⟨m,hn,hl⟩:=I.loc
  refine ⟨m,ns m hn,fun i x v e1 e2 e3=>?_⟩
  obtain ⟨u,r,l⟩:=hl i x v e1 e2 e3
  refine ⟨u,r,?_⟩
  rcases l with l | ⟨k,c,e,z⟩
  ·exact .inl l
  ·exact .inr ⟨k,c,e,cellK x c e _ z⟩
 ·obtain ⟨v,z⟩:=I.cell x c e
  exact ⟨v,cellK x c e v z⟩
 ·obtain ⟨m,⟨o,_,_,ho,_⟩,_⟩:=I.loc
  exact free _ o (fun z=>(hch _ z).2.1 rfl) ho I.free
 ·obtain ⟨v,o,ho,hd⟩:=I.cell x c e
  exact free c o (fun z=>(hch c z).2.2.1 x c e rfl) ho (I.freeC x c e)
 ·obtain ⟨e,n,ne,nf,d⟩:=I.pin p hp
  have nch:p.1∉ch:=fun z=>(hch p.1 z).2.2.2 p hp rfl
  exact ⟨keep p.1 p.2 ne nf nch e n,free p.1 p.2 nch e n,ne,nf,d⟩
theorem Inv.un {t':Nat}(I:Inv X pins σ H s)(u:Un X.fs [] H H' s.heap h')(hok:HOk X.prog X.w H' h'):Inv X pins σ H' {s with heap:=h',toks:=t'}:=by
 obtain ⟨m,⟨o,es,ep,ho,r⟩,_⟩:=id I.loc
 obtain ⟨sl,hL⟩:=u.any ho I.free (by simp)
 exact I.step (g':=s.gens) (d':=s.drawn) (ch:=[]) (fun _ z=>nomatch z) (fun b o _ hb _ e n=>u.keep b o e n hb (by simp)) (fun b o _ hb _ e n=>u.slot b o e n hb (by simp)) (fun b o _ e n=>u.free b o e n (by simp)) (fun b o _ e=>u.there b o e (by simp)) u.tups u.frzs u.tbls (fun m' hm=>by
  obtain ⟨o',es',ep',ho',r'⟩:=hm
  rw [ho] at ho';cases ho'
  exact ⟨_,es',ep',hL,r'⟩) hok I.bare
theorem Inv.call {g':Array GenState}{t':Nat}{d':Drawn}{ch:List Addr}(I:Inv X pins σ H s)(u:Un (frs X.stack) ch H H' s.heap h')(hok:HOk X.prog X.w H' h')(hg:AllBare g')
  (hch:∀ b∈ch,(b∈X.ex∨X.s₀.heap.objs.size≤b)∧b≠X.env.locals∧(∀ x c,X.env.cells.lookup x=some c→c≠b)∧∀ p∈X.pn++pins,p.1≠b):
  Inv X pins σ H' {s with heap:=h',gens:=g',drawn:=d',toks:=t'}:=by
 obtain ⟨m,⟨o,es,ep,ho,r⟩,_⟩:=id I.loc
 obtain ⟨sl,hL⟩:=u.any ho I.free fun z=>(hch _ z).2.1 rfl
 exact I.step (ch:=ch) hch (fun b o hL hb hc e n=>u.keep b o e n (fun z=>(yO.mp (I.stkSub b z)).elim hL hb) hc) (fun b o _ _ hc e n=>u.any e n hc) (fun b o hc e n=>u.free b o e n hc) (fun b o hc e=>u.there b o e hc) u.tups u.frzs u.tbls (fun m' hm=>by
  obtain ⟨o',es',ep',ho',r'⟩:=hm
  rw [ho] at ho';cases ho'
  exact ⟨_,es',ep',hL,r'⟩) hok hg
theorem Inv.turned {t':Nat}{it:Addr}(I:Inv X pins σ H s)(k:∀ b o,b≠it→s.heap.get? b=some o→h'.get? b=some o)(hn:H it=none)(hL:it≠X.env.locals)
  (h1:it∈X.ex∨X.s₀.heap.objs.size≤it) (h2:∀ x c,X.env.cells.lookup x=some c→c≠it) (h3:∀ p∈X.pn++pins,p.1≠it):Inv X pins σ H {s with heap:=h',toks:=t'}:=by
 have nit:∀ b u,H b=some u→b≠it:=fun b u e z=>by rw [z,hn] at e;cases e
 refine I.step (g':=s.gens) (d':=s.drawn) (ch:=[it]) (fun b hb=>?_) (fun b o _ _ hc e _=>k b o (fun z=>hc (by simp [z])) e) (fun b o _ _ hc e _=>⟨o.slots,k b o (fun z=>hc (by simp [z])) e⟩) (fun _ _ _ _ n=>n)
  (fun b o hc e=>⟨o,k b o (fun z=>hc (by simp [z])) e⟩) (fun _ _ e=>e) (fun _ _ _ e=>e) (fun b ps e=>⟨#[],by rw [e];simp⟩) (fun m hm=>?_) (fun b u e=>?_) I.bare
 ·have e:b=it:=by simpa using hb
  subst e
  exact ⟨h1,hL,h2,h3⟩
 ·obtain ⟨o,es,ep,ho,r⟩:=hm
  exact ⟨o,es,ep,k _ o (xU hL) ho,r⟩
 ·refine (I.hok b u e).stay (fun c v hc q=>k c v ?_ q) (fun _ q=>q) fun _ _ q=>q
  rcases hc with z | z
  ·rw [z];exact nit b u e
  ·exact nit c _ z
theorem Inv.tok (I:Inv X pins σ H s)(t:Nat):Inv X pins σ H {s with toks:=t}:=I.un (h':=s.heap) (t':=t) Un.refl I.hok
theorem Inv.kept {t':Nat}(I:Inv X pins σ H s)(k:∀ b u,s.heap.get? b=some u→h'.get? b=some u):Inv X pins σ H {s with heap:=h',toks:=t'}:=I.un (Un.kept k) (I.hok.kept k)
theorem Inv.laid {a:Addr}{o:HO}{t':Nat}(I:Inv X pins σ H s)(k:∀ b u,s.heap.get? b=some u→h'.get? b=some u)(hp:s.heap.objs.size≤a)(new:zbB X.prog X.w (upd H a o) h' a o):
  Inv X pins σ (upd H a o) {s with heap:=h',toks:=t'}:=I.un (Un.laid k hp (I.hok.fresh hp)) (I.hok.laid k hp new)
theorem Inv.write {x e:Addr}{o:HO}{t':Nat}(I:Inv X pins σ H s)(mu:Mut (H x))(he:e=x∨H e=some (.own x))(k:∀ b u,b≠e→s.heap.get? b=some u→h'.get? b=some u)(heo:∃ u,h'.get? e=some u)
  (new:zbB X.prog X.w (upd H x o) h' x o):Inv X pins σ (upd H x o) {s with heap:=h',toks:=t'}:=I.un (Un.write mu he k heo) (I.hok.write mu he k heo new)
theorem Inv.weak {σ':List (Option V)}(I:Inv X pins σ H s)(hl: σ'.length= σ.length)(w:∀ (i:Nat) v,σ'[i]? =some (some v)→σ[i]? =some (some v)):Inv X pins σ' H s:=
 ⟨I.ok,I.os,I.bare,I.base,let ⟨m,hn,hl'⟩:=I.loc;⟨m,hn,fun i x v e1 e2 e3=>hl' i x v e1 (w i v e2) e3⟩,I.cell,I.free,I.freeC,I.pin,I.hok,hl.trans I.len⟩
theorem Inv.pins_of {pins':List (Addr×Obj)}(I:Inv X pins σ H s)(h:∀ p∈pins',s.heap.get? p.1=some p.2∧H p.1=none∧p.1≠X.env.locals∧p.1∉X.fs∧∀ v,p.2.data≠.cell v):Inv X pins' σ H s:=
 ⟨I.ok,I.os,I.bare,I.base,I.loc,I.cell,I.free,I.freeC,fun p hp=>(yP.mp hp).elim (fun z=>I.pin p (jS _ z)) (h p),I.hok,I.len⟩
theorem zhh {N:List Str}(hN:N.Nodup){i j:Nat}{x:Str}(a:N[i]? =some x)(b:N[j]? =some x):i=j:=by
 obtain ⟨h1,e1⟩:=yG.mp a
 obtain ⟨h2,e2⟩:=yG.mp b
 exact (List.getElem_inj hN).mp (e1.trans e2.symm)
theorem zis {M:Model}{A:Around}{E:Value→Shared→Prop}{i:Nat}{x:Str}{v:V}{u:Value}{Q:Unit→Shared→Prop}(I:Inv X pins σ H s)(hN:X.N.Nodup)(hi:X.N[i]? =some x)(hx:Loc X.env.scope x)(r:RelV v u)
  (h:∀ s',Inv X pins (σ.set i (some v)) H s'→(∃ a,jB a s.heap s'.heap∧(a=X.env.locals∨X.env.cells.lookup x=some a))→Q () s') (hf:X.fn x=true∨X.env.scope.names.lookup x=some .local:=by first | exact .inl rfl | exact .inr rfl | assumption):wpAny M A (storeName X.env x u) Q E s:=by
 obtain ⟨m,hn,hl⟩:=id I.loc
 have hcls:(X.env.scope.kind== .class || (X.env.scope.kind== .module && X.env.locals !=X.env.globals))=false:=by rw [I.ok.kind];rfl
 have hiσ :i < σ.length:=by rw [I.len];exact (yG.mp hi).1
 have cne:=I.cne
 have tracked:∀ {a:Addr} {h':Heap},(∃ o,s.heap.get? a=some o∧H a=none)→jB a s.heap h'→HOk X.prog X.w H h':=fun {a h'} ha hs b ob e=>by
  obtain ⟨_,_,hfree⟩:=ha
  refine (I.hok b ob e).stay (fun c w' hc q=>(hs.2 c ?_).trans q) (fun _ q=>q) fun _ _ q=>q
  rintro rfl
  rcases hc with rfl | hc
  ·rw [hfree] at e;cases e
  ·rw [hfree] at hc;cases hc
 rcases hx with hk | hk
 ·refine wpAny_storeName_local hk hn (fun h' hn' hs=>?_) hcls
  obtain ⟨oL,_,_,hoL,_⟩:=id hn
  refine h _ ⟨I.ok,I.os,I.bare,⟨fun b o e n hb hx=>?_,fun b o e n hb hx=>?_,I.base.free,fun b o e hx=>?_,I.base.tups,I.base.frzs,I.base.tbls⟩,⟨_,hn',fun j y v' e1 e2 e3=>?_⟩,fun y c e=>?_,I.free,I.freeC,fun p hp=>?_,tracked ⟨oL,hoL,I.free⟩ hs,by simpa using I.len⟩ ⟨_,hs,.inl rfl⟩
  ·exact (hs.2 b (qC (qL (yU e) I.ok.above))).trans (I.base.keep b o e n hb hx)
  ·obtain ⟨sl,e1⟩:=I.base.slot b o e n hb hx
   exact ⟨sl,(hs.2 b (qC (qL (yU e) I.ok.above))).trans e1⟩
  ·obtain ⟨o',e1⟩:=I.base.there b o e hx
   exact ⟨o',(hs.2 b (qC (qL (yU e) I.ok.above))).trans e1⟩
  ·by_cases hj:j=i
   ·subst hj
    rw [hi] at e1;cases e1
    rw [wF hiσ] at e2
    cases e2
    exact ⟨u,r,.inl ⟨hk,by simp⟩⟩
   ·rw [xX (xU hj)] at e2
    obtain ⟨u',r',q⟩:=hl j y v' e1 e2 e3
    refine ⟨u',r',?_⟩
    rcases q with ⟨k,e⟩ | ⟨k,c,e,z⟩
    ·refine .inl ⟨k,?_⟩
     have:y≠x:=fun e=>hj (zhh hN e1 (e ▸ hi))
     simp [this,e]
    ·exact .inr ⟨k,c,e,z.sameBut hs (cne y c e)⟩
  ·obtain ⟨w',z⟩:=I.cell y c e
   exact ⟨w',z.sameBut hs (cne y c e)⟩
  ·obtain ⟨e,n,ne,nf,d⟩:=I.pin p hp
   exact ⟨(hs.2 p.1 ne).trans e,n,ne,nf,d⟩
 ·have hfn:X.fn x=true:=by
   rcases hf with z | z
   ·exact z
   ·rw [z] at hk;cases hk
  obtain ⟨c,hc⟩:=I.ok.has x (.inl hk)
  obtain ⟨w',z⟩:=I.cell x c hc
  refine wpAny_storeName_cell I.ok.kind hk hc z (fun h' hc' hs=>?_)
  obtain ⟨oc,hoc,hocd⟩:=id z
  refine h {s with heap:=h'} ⟨I.ok,I.os,I.bare,⟨fun b o e n hb hx=>?_,fun b o e n hb hx=>?_,I.base.free,fun b o e hx=>?_,I.base.tups,I.base.frzs,I.base.tbls⟩,⟨m,hn.sameBut hs (xU (cne x c hc)),fun j y v' e1 e2 e3=>?_⟩,fun y c' e=>?_,I.free,I.freeC,fun p hp=>?_,tracked ⟨oc,hoc,I.freeC x c hc⟩ hs,by simpa using I.len⟩ ⟨c,hs,.inr hc⟩
  ·exact (hs.2 b (qC (qL (yU e) (I.ok.cab x c hfn hc)))).trans (I.base.keep b o e n hb hx)
  ·obtain ⟨sl,e1⟩:=I.base.slot b o e n hb hx
   exact ⟨sl,(hs.2 b (qC (qL (yU e) (I.ok.cab x c hfn hc)))).trans e1⟩
  ·obtain ⟨o',e1⟩:=I.base.there b o e hx
   exact ⟨o',(hs.2 b (qC (qL (yU e) (I.ok.cab x c hfn hc)))).trans e1⟩
  ·by_cases hj:j=i
   ·subst hj
    rw [hi] at e1;cases e1
    rw [wF hiσ] at e2
    cases e2
    exact ⟨u,r,.inr ⟨.inl hk,c,hc,hc'⟩⟩
   ·rw [xX (xU hj)] at e2
    obtain ⟨u',r',q⟩:=hl j y v' e1 e2 e3
    refine ⟨u',r',?_⟩
    rcases q with q | ⟨k,c',e,z'⟩
    ·exact .inl q
    ·refine .inr ⟨k,c',e,z'.sameBut hs ?_⟩
     rintro rfl
     exact hj (zhh hN e1 (I.ok.inj _ _ _ e hc ▸ hi))
  ·by_cases hcc:c'=c
   ·subst hcc;exact ⟨_,hc'⟩
   ·obtain ⟨w2,z2⟩:=I.cell y c' e
    exact ⟨w2,z2.sameBut hs hcc⟩
  ·obtain ⟨e,n,ne,nf,d⟩:=I.pin p hp
   refine ⟨(hs.2 p.1 ?_).trans e,n,ne,nf,d⟩
   intro q
   rw [q,hoc] at e
   have q':oc=p.2:=qF e
   exact d w' (by rw [← q'];exact hocd)
theorem zhj {M:Model}{A:Around}{E:Value→Shared→Prop}{i:Nat}{x:Str}{v:V}{u:Value}{Q:Unit→Shared→Prop}(I:Inv X pins σ H s)(hN:X.N.Nodup)(hi:X.N[i]? =some x)(hx:Loc X.env.scope x)(r:RelV v u)
  (h:∀ s',Inv X pins (σ.set i (some v)) H s'→Q () s') (hf:X.fn x=true∨X.env.scope.names.lookup x=some .local:=by first | exact .inl rfl | exact .inr rfl | assumption):wpAny M A (storeName X.env x u) Q E s:=
 zis I hN hi hx r (fun s' I' _=>h s' I') hf
theorem Inv.call' {s':Shared}{ch:List Addr}(I:Inv X pins σ H s)(ho:s'.os=s.os)(u:Un (frs X.stack) ch H H' s.heap s'.heap)(hok:HOk X.prog X.w H' s'.heap)(hg:AllBare s'.gens)
  (hch:∀ b∈ch,(b∈X.ex∨X.s₀.heap.objs.size≤b)∧b≠X.env.locals∧(∀ x c,X.env.cells.lookup x=some c→c≠b)∧∀ p∈X.pn++pins,p.1≠b):Inv X pins σ H' s':=by
 obtain ⟨h',g',d',t',o'⟩:=s'
 have e:o'=s.os:=ho
 subst e
 exact I.call (g':=g') (t':=t') (d':=d') u hok hg hch
end
noncomputable abbrev XK:=Value→Option Addr→Hp→Prop
noncomputable abbrev St:=List (Option V)
noncomputable abbrev VK:=V→Hp→Prop
noncomputable abbrev TE:=St→Hp→VK→Prop
noncomputable abbrev TT:=St→Hp→(Bool→Hp→Prop)→Prop
noncomputable abbrev TA:=St→Hp→(List V→Hp→Prop)→Prop
structure Ends where
 nx:St→Hp→Prop
 rt:VK
 bk:St→Hp→Prop:=fun _ _=>False
 ct:St→Hp→Prop:=fun _ _=>False
noncomputable abbrev TS:=Ends→St→Hp→Prop
noncomputable def EP (X:Cx) (pins:List (Addr×Obj)) (σ :St) (Q:VK) (u:Value) (s':Shared):Prop:=∃ v H',Inv X pins σ H' s'∧RelV v u∧Q v H'
noncomputable def TP (X:Cx) (pins:List (Addr×Obj)) (σ :St) (Q:Bool→Hp→Prop) (b:Bool) (s':Shared):Prop:=∃ H',Inv X pins σ H' s'∧Q b H'
noncomputable def AP (X:Cx) (pins:List (Addr×Obj)) (σ :St) (Q:List V→Hp→Prop) (us:List Value) (s':Shared):Prop:=∃ vs H',Inv X pins σ H' s'∧Vals vs us∧Q vs H'
noncomputable def SP (X:Cx) (pins:List (Addr×Obj)) (D:Ends) (f:Flow) (s':Shared):Prop:=
 match f with
 | .next=>∃ σ' H',Inv X pins σ' H' s'∧D.nx σ' H'
 | .brk=>∃ σ' H',Inv X pins σ' H' s'∧D.bk σ' H'
 | .cont=>∃ σ' H',Inv X pins σ' H' s'∧D.ct σ' H'
 | .ret u=>∃ v σ' H',Inv X pins σ' H' s'∧RelV v u∧D.rt v H'
noncomputable def PE (X:Cx) (e:Expr) (t:TE):Prop:=
 ∀ (pins:List (Addr×Obj)) (s:Shared) (σ :St) (H:Hp) (Q:VK),Inv X pins σ H s→t σ H Q→wpAny (model X.prog X.w) X.A (eval e X.env) (EP X pins σ Q) X.xe s
noncomputable def PT (X:Cx) (e:Expr) (t:TT):Prop:=
 ∀ (pins:List (Addr×Obj)) (s:Shared) (σ :St) (H:Hp) (Q:Bool→Hp→Prop),Inv X pins σ H s→t σ H Q→wpAny (model X.prog X.w) X.A (isTrue e X.env (eval e X.env)) (TP X pins σ Q) X.xe s
noncomputable def PW (X:Cx) (e:Expr) (t:TT):Prop:=
 ∀ (zev:Sem Value) (pins:List (Addr×Obj)) (s:Shared) (σ :St) (H:Hp) (Q:Bool→Hp→Prop),Inv X pins σ H s→t σ H Q→wpAny (model X.prog X.w) X.A (isTrue e X.env zev) (TP X pins σ Q) X.xe s
theorem PW.pt {X:Cx}{e:Expr}{t:TT}(h:PW X e t):PT X e t:=h _
noncomputable def PA (X:Cx) (es:List Expr) (t:TA):Prop:=
 ∀ (pos:Pos) (pins:List (Addr×Obj)) (s:Shared) (σ :St) (H:Hp) (Q:List V→Hp→Prop),Inv X pins σ H s→t σ H Q→wpAny (model X.prog X.w) X.A (spliced (backTo pos (starEach es X.env))) (AP X pins σ Q) X.xe s
noncomputable def PS (X:Cx) (st:Stmt) (t:TS):Prop:=
 ∀ (pins:List (Addr×Obj)) (s:Shared) (σ :St) (H:Hp) (D:Ends),Inv X pins σ H s→t D σ H→wpAny (model X.prog X.w) X.A (exec st X.env) (SP X pins D) X.xe s
noncomputable def PSs (X:Cx) (st:List Stmt) (t:TS):Prop:=
 ∀ (pins:List (Addr×Obj)) (s:Shared) (σ :St) (H:Hp) (D:Ends),Inv X pins σ H s→t D σ H→wpAny (model X.prog X.w) X.A (execs st X.env) (SP X pins D) X.xe s
theorem thn {α :Type}{t:Sem α}{Q Q': α→Shared→Prop}{M:Model}{A:Around}{E:Value→Shared→Prop}{s:Shared}(h:wpAny M A t Q E s)(hQ:∀ a s,Q a s→Q' a s):wpAny M A t Q' E s:=wpAny_mono h hQ fun _ _ x=>x
section
variable {X:Cx}
noncomputable def tVar (i:Nat):TE:=fun σ H Q=>∃ v,σ[i]? =some (some v)∧Q v H
noncomputable def tC (v:V):TE:=fun _ H Q=>Q v H
theorem zn3 {i:Nat}{x:Str}{pos:Pos}(hN:X.N[i]? =some x)(hv:Vis X.env.scope x)(hd:(x==("__debug__" :Str))=false:=by decide)(hcd:(x==("__classdict__" :Str))=false:=by decide):PE X (.Name x pos) (tVar i):=by
 intro pins s σ H Q I h
 obtain ⟨v,e,h⟩:=h
 obtain ⟨m,hn,hl⟩:=I.loc
 obtain ⟨u,r,l⟩:=hl i x v hN e hv
 have fin:EP X pins σ Q u s:=⟨v,H,I,r,h⟩
 rcases l with ⟨hk,hm⟩ | ⟨hk,c,hc,hcell⟩
 ·exact wpAny_Name (wpAny_loadName_local I.ok.kind hk hn hm fin) hd
 ·rcases hk with hk | hk
  ·exact wpAny_Name (wpAny_loadName_cell I.ok.kind hk hc hcell fin) hd
  ·exact wpAny_Name (wpAny_loadName_free I.ok.kind hk hc hcell fin hcd) hd
theorem pe_int {i j pos}:PE X (.Constant (.int i) j pos) (tC (.int i)):=fun _ _ _ H _ I h=>wpAny_Constant_int ⟨.int i,H,I.tok _,⟨_,rfl⟩,h⟩
theorem pe_bl {b j pos}:PE X (.Constant (.bool b) j pos) (tC (.bl b)):=fun _ _ _ H _ I h=>Constant_bool ⟨.bl b,H,I,rfl,h⟩
theorem pe_non {j pos}:PE X (.Constant .none j pos) (tC .non):=fun _ _ _ H _ I h=>Constant_none ⟨.non,H,I,rfl,h⟩
theorem pe_str {x j pos}:PE X (.Constant (.str x) j pos) (tC (.str x)):=fun _ _ _ H _ I h=>Calls.Constant_str ⟨.str x,H,I.tok _,⟨_,rfl⟩,h⟩
noncomputable def Gl (X:Cx) (x:Str):Prop:=X.env.kindOf x=some .globalImplicit
theorem zf8 {E:Value→Shared→Prop}{pins:List (Addr×Obj)}{s:Shared}{σ :St}{H:Hp}{x:Str}{u:Value}{pos:Pos}{Q:Value→Shared→Prop}(I:Inv X pins σ H s)(hg:Gl X x)(hm:X.mg x=some u)(h:Q u s)
  (hd:(x==("__debug__" :Str))=false:=by decide):wpAny (model X.prog X.w) X.A (eval (.Name x pos) X.env) Q E s:=
 yaO I.ok.kind hg (Calls.loadGlobal_global (by rw [I.ok.glob];exact I.mod.glob.keeps I.bk) hm h) hd
theorem zea {E:Value→Shared→Prop}{pins:List (Addr×Obj)}{s:Shared}{σ :St}{H:Hp}{x:Str}{u:Value}{pos:Pos}{Q:Value→Shared→Prop}(I:Inv X pins σ H s)(hg:Gl X x)(hm:X.mg x=none)(hv:bootBuiltins x=some u)(h:Q u s)
  (hn:x≠"__name__" :=by decide) (hd:(x==("__debug__" :Str))=false:=by decide):wpAny (model X.prog X.w) X.A (eval (.Name x pos) X.env) Q E s:=by
 obtain ⟨mb,h1,h2⟩:=I.mod.blt
 exact yaO I.ok.kind hg (Calls.loadGlobal_builtin (by rw [I.ok.glob];exact I.mod.glob.keeps I.bk) hm (by rw [I.ok.blt];exact h1.keeps I.bk) ((h2 x hn).trans hv) h) hd
theorem zoq {x:Str}{v:V}{u:Value}{pos:Pos}(hg:Gl X x)(hm:X.mg x=some u)(r:RelV v u)(hd:(x==("__debug__" :Str))=false:=by decide):PE X (.Name x pos) (tC v):=
 fun _ _ _ H _ I h=>zf8 I hg hm ⟨v,H,I,r,h⟩ hd
theorem zo1 {x:Str}{v:V}{u:Value}{pos:Pos}(hg:Gl X x)(hm:X.mg x=none)(hv:bootBuiltins x=some u)(r:RelV v u)(hn:x≠"__name__" :=by decide)(hd:(x==("__debug__" :Str))=false:=by decide):PE X (.Name x pos) (tC v):=
 fun _ _ _ H _ I h=>zea I hg hm hv ⟨v,H,I,r,h⟩ hn hd
variable {a b:Expr} {ta tb:TE} {pos:Pos}
noncomputable def PC (X:Cx) (op:CmpOp) (a b:Expr) (t:TE):Prop:=
 ∀ (pins:List (Addr×Obj)) (s:Shared) (σ :St) (H:Hp) (Q:VK),Inv X pins σ H s→t σ H Q→
  wpAny (model X.prog X.w) X.A (eval a X.env) (fun v s₁ =>wpAny (model X.prog X.w) X.A (eval b X.env) (fun u s₂ =>wpAny (model X.prog X.w) X.A (compareOp op v u) (EP X pins σ Q) X.xe s₂) X.xe s₁) X.xe s
theorem zkq (b:Expr){op:CmpOp}(h:op≠.In)(h2:op≠.NotIn):behindInMarks op b=false:=by
 have e1:(op==CmpOp.In)=false:=by cases op <;> first | rfl | exact absurd rfl h
 have e2:(op==CmpOp.NotIn)=false:=by cases op <;> first | rfl | exact absurd rfl h2
 cases b <;> simp [behindInMarks,e1,e2]
noncomputable def tIsN (ta:TE):TE:=fun σ H Q=>ta σ H fun x H1=>Q (.bl (decide (x= .non))) H1
noncomputable def tNotN (ta:TE):TE:=fun σ H Q=>ta σ H fun x H1=>Q (.bl (!decide (x= .non))) H1
theorem RelV.none_iff {x:V}{v:Value}(r:RelV x v):(v==Value.none)=decide (x= .non):=by
 cases x with
 | non=>cases r;rfl
 | bl _=>cases r;rfl
 | int _=>obtain ⟨t,rfl⟩:=r;rfl
 | str _=>obtain ⟨t,rfl⟩:=r;rfl
 | byt _=>obtain ⟨t,rfl⟩:=r;rfl
 | flt _=>obtain ⟨t,rfl⟩:=r;rfl
 | ref _=>cases r;rfl
 | ty _=>cases r;rfl
theorem pc_isN {j pos'}(ha:PE X a ta):PC X .Is a (.Constant .none j pos') (tIsN ta):=by
 intro pins s σ H Q I h
 refine thn (ha pins s σ H _ I h) fun v s1 ⟨x,H1,I1,r1,q1⟩=>?_
 exact Constant_none (is_none_gen ⟨.bl _,H1,I1,by rw [r1.none_iff];rfl,q1⟩)
theorem zps {j pos'}(ha:PE X a ta):PC X .IsNot a (.Constant .none j pos') (tNotN ta):=by
 intro pins s σ H Q I h
 refine thn (ha pins s σ H _ I h) fun v s1 ⟨x,H1,I1,r1,q1⟩=>?_
 exact Constant_none (isnot_none_gen ⟨.bl _,H1,I1,by rw [r1.none_iff];rfl,q1⟩)
noncomputable def tB (t:TE):TT:=fun σ H Q=>t σ H fun x H1=>∃ c,x= .bl c∧Q c H1
theorem pt_cmp {op:CmpOp}{t:TE}(h:PC X op a b t)(h1:behindInMarks op b=false:=by first | exact zkq _ (by decide) (by decide) | rfl):PT X (.Compare a [op] [b] pos) (tB t):=by
 intro pins s σ H Q I hw
 refine wpAny_isTrue_Compare1 (thn (h pins s σ H _ I hw) fun v s1 h1=>thn h1 fun u s2 h2=>thn h2 fun c s3 ⟨x,H1,I1,r1,q1⟩=>?_) h1
 obtain ⟨d,rfl,q⟩:=q1
 cases r1
 exact wpAny_truthy_bool ⟨H1,I1,q⟩
theorem pt_val {e:Expr}{t:TE}(h:PE X e t)(he:∀ zev,isTrue e X.env zev=(do let v ← zev;standAt e.pos;holding [v] (truthy v)):=by intro _;rfl):PT X e (tB t):=by
 intro pins s σ H Q I hw
 refine isTrue_plain (thn (h pins s σ H _ I hw) fun v s1 ⟨x,H1,I1,r1,q1⟩=>?_) (he _)
 obtain ⟨d,rfl,q⟩:=q1
 cases r1
 exact wpAny_truthy_bool ⟨H1,I1,q⟩
variable {tA tB':TT} {rest:List Expr}
noncomputable def tAnd (t u:TT):TT:=fun σ H Q=>t σ H fun c H1=>if c=true then u σ H1 Q else Q false H1
noncomputable def tOr (t u:TT):TT:=fun σ H Q=>t σ H fun c H1=>if c=true then Q true H1 else u σ H1 Q
noncomputable def tNot (t:TT):TT:=fun σ H Q=>t σ H fun c H1=>Q (!c) H1
theorem zoy (ha:PT X a tA):PW X (.BoolOp .And [a] pos) tA:=by
 intro wh pins s σ H Q I h
 refine isTrue_and (thn (ha pins s σ H Q I h) fun c s1 e=>?_)
 cases c with
 | true=>exact isTrue_and_nil e
 | false=>exact e
theorem pw_or1 (ha:PT X a tA):PW X (.BoolOp .Or [a] pos) tA:=by
 intro wh pins s σ H Q I h
 refine isTrue_or (thn (ha pins s σ H Q I h) fun c s1 e=>?_)
 cases c with
 | false=>exact isTrue_or_nil e
 | true=>exact e
theorem pw_and (ha:PT X a tA)(hb:PW X (.BoolOp .And (b::rest) pos) tB'):PW X (.BoolOp .And (a::b::rest) pos) (tAnd tA tB'):=by
 intro wh pins s σ H Q I h
 refine isTrue_and (thn (ha pins s σ H _ I h) fun c s1 ⟨H1,I1,q1⟩=>?_)
 cases c with
 | true=>exact hb wh pins s1 σ H1 Q I1 q1
 | false=>exact ⟨H1,I1,q1⟩
theorem pw_or (ha:PT X a tA)(hb:PW X (.BoolOp .Or (b::rest) pos) tB'):PW X (.BoolOp .Or (a::b::rest) pos) (tOr tA tB'):=by
 intro wh pins s σ H Q I h
 refine isTrue_or (thn (ha pins s σ H _ I h) fun c s1 ⟨H1,I1,q1⟩=>?_)
 cases c with
 | true=>exact ⟨H1,I1,q1⟩
 | false=>exact hb wh pins s1 σ H1 Q I1 q1
theorem pt_not (ha:PT X a tA):PT X (.UnaryOp .Not a pos) (tNot tA):=by
 intro pins s σ H Q I h
 exact isTrue_not (ha pins s σ H (fun c H1=>Q (!c) H1) I h)
noncomputable def tAndV (ta tb:TE):TE:=fun σ H Q=>ta σ H fun x H1=>∃ c,x= .bl c∧if c=true then tb σ H1 Q else Q (.bl false) H1
noncomputable def tNotV (ta:TE):TE:=fun σ H Q=>ta σ H fun x H1=>∃ c,x= .bl c∧Q (.bl (!c)) H1
theorem pe_one {op}{t:TE}(h:PE X a t):PE X (.BoolOp op [a] pos) t:=fun pins s σ H Q I hw=>BoolOp_one (h pins s σ H Q I hw)
theorem pe_and (ha:PE X a ta)(hb:PE X (.BoolOp .And (b::rest) pos) tb):PE X (.BoolOp .And (a::b::rest) pos) (tAndV ta tb):=by
 intro pins s σ H Q I h
 refine BoolOp_and (thn (ha pins s σ H _ I h) fun v s1 ⟨x,H1,I1,r1,q1⟩=>?_)
 obtain ⟨c,rfl,q1⟩:=q1
 cases r1
 refine wpAny_truthy_bool ?_
 cases c with
 | true=>exact hb pins s1 σ H1 Q I1 q1
 | false=>exact ⟨.bl false,H1,I1,rfl,q1⟩
theorem pe_not (ha:PE X a ta):PE X (.UnaryOp .Not a pos) (tNotV ta):=by
 intro pins s σ H Q I h
 refine UnaryOp_ (thn (ha pins s σ H _ I h) fun v s1 ⟨x,H1,I1,r1,q1⟩=>?_)
 obtain ⟨c,rfl,q1⟩:=q1
 cases r1
 exact not_of (wpAny_truthy_bool ⟨.bl (!c),H1,I1,rfl,q1⟩)
noncomputable def tIf (t:TT) (ta tb:TE):TE:=fun σ H Q=>t σ H fun c H1=>if c=true then ta σ H1 Q else tb σ H1 Q
theorem znW {c:Expr}(hc:PT X c tA)(ha:PE X a ta)(hb:PE X b tb):PE X (.IfExp c a b pos) (tIf tA ta tb):=by
 intro pins s σ H Q I h
 refine wpAny_IfExp (thn (hc pins s σ H _ I h) fun d s1 ⟨H1,I1,q1⟩=>?_)
 cases d with
 | true=>exact ha pins s1 σ H1 Q I1 q1
 | false=>exact hb pins s1 σ H1 Q I1 q1
end
noncomputable def SqL (K:PySem.W.Frag) (H:Hp) (a:Addr) (xs:List V):Prop:=
 Rd H a (.lst xs)∨
  ∃ (o:Obj) (its:Array Value) (n:Nat),K.lookup a=some o∧o.cls= .type "list"∧o.dict=none∧o.data= .seq its n∧its.size≤yL∧Vals xs its.toList
noncomputable def SqT (K:PySem.W.Frag) (H:Hp) (a:Addr) (xs:List V):Prop:=
 Rd H a (.tup xs)∨
  ∃ (o:Obj) (its:Array Value) (n:Nat),K.lookup a=some o∧o.cls= .type "tuple"∧o.data= .seq its n∧its.size≤yL∧Vals xs its.toList
noncomputable def absV:Value→Option V
 | .none=>some .non
 | .bool b=>some (.bl b)
 | .int i _=>some (.int i)
 | .str x _=>some (.str x)
 | .bytes b _=>some (.byt b)
 | .float b _=>some (.flt b)
 | .ref a=>some (.ref a)
 | .type n=>some (.ty n)
 | _=>none
theorem RelV.abs {x:V}{u:Value}(r:RelV x u):absV u=some x:=by
 cases x with
 | non=>cases r;rfl
 | bl _=>cases r;rfl
 | int _=>obtain ⟨t,rfl⟩:=r;rfl
 | str _=>obtain ⟨t,rfl⟩:=r;rfl
 | byt _=>obtain ⟨t,rfl⟩:=r;rfl
 | flt _=>obtain ⟨t,rfl⟩:=r;rfl
 | ref _=>cases r;rfl
 | ty _=>cases r;rfl
theorem RelV.inj {x y:V}{u:Value}(r:RelV x u)(q:RelV y u):x=y:=qF (r.abs.symm.trans q.abs)
theorem Vals.inj:∀ {xs ys:List V} {us:List Value},Vals xs us→Vals ys us→xs=ys
 | _,_,_,.nil,.nil=>rfl
 | _,_,_,.cons r t,.cons r' t'=>by rw [r.inj r',Vals.inj t t']
section
variable {X:Cx} {pins:List (Addr×Obj)} {σ :St} {H:Hp} {s:Shared} {a:Addr} {xs ys:List V}
theorem SqL.of {K:PySem.W.Frag}(h:H a=some (.lst xs)):SqL K H a xs:=.inl (.inl h)
theorem SqT.of {K:PySem.W.Frag}(h:H a=some (.tup xs)):SqT K H a xs:=.inl (.inl h)
theorem Inv.list (I:Inv X pins σ H s)(h:SqL X.K H a xs):∃ its:List Value,Vals xs its∧PlainL s.heap a its.toArray∧xs.length≤yL:=by
 rcases h with h | ⟨o,its,n,hk,hc,hd,hs,hz,r⟩
 ·obtain ⟨z,its,n,r,e⟩:=h.ok I.hok
  exact ⟨its,r,⟨_,n,e,rfl,rfl,rfl⟩,z⟩
 ·refine ⟨its.toList,r,⟨o,n,I.kIn a o hk,hc,hd,by simpa using hs⟩,?_⟩
  have e:=r.length
  simp only [kY] at e
  omega
theorem Inv.tuple (I:Inv X pins σ H s)(h:SqT X.K H a xs):∃ its:List Value,Vals xs its∧IsTup s.heap a its.toArray∧xs.length≤yL:=by
 rcases h with h | ⟨o,its,n,hk,hc,hs,hz,r⟩
 ·obtain ⟨z,its,r,p⟩:=h.ok I.hok
  exact ⟨its,r,p,z⟩
 ·refine ⟨its.toList,r,⟨o,I.kIn a o hk,hc,n,by simpa using hs⟩,?_⟩
  have e:=r.length
  simp only [kY] at e
  omega
theorem Inv.list_inj (I:Inv X pins σ H s)(h:SqL X.K H a xs)(h':SqL X.K H a ys):xs=ys:=by
 obtain ⟨its,r,⟨o,n,e,_,_,d⟩,_⟩:=I.list h
 obtain ⟨its',r',⟨o',n',e',_,_,d'⟩,_⟩:=I.list h'
 rw [e] at e';cases e'
 rw [d] at d'
 injection d' with d1 _
 have:its=its':=by simpa using congrArg Array.toList d1
 subst this
 exact r.inj r'
theorem Inv.tuple_inj (I:Inv X pins σ H s)(h:SqT X.K H a xs)(h':SqT X.K H a ys):xs=ys:=by
 obtain ⟨its,r,⟨o,e,_,n,d⟩,_⟩:=I.tuple h
 obtain ⟨its',r',⟨o',e',_,n',d'⟩,_⟩:=I.tuple h'
 rw [e] at e';cases e'
 rw [d] at d'
 injection d' with d1 _
 have:its=its':=by simpa using congrArg Array.toList d1
 subst this
 exact r.inj r'
end
noncomputable abbrev Cx.wish (X:Cx) (E:Value→Shared→Prop):Cx:={X with xe:=E}
noncomputable abbrev Cx.nox (X:Cx):Cx:=X.wish fun _ _=>False
theorem Cx.Ok.wish {X:Cx}(ok:X.Ok)(E:Value→Shared→Prop):(X.wish E).Ok:=
 ⟨ok.mod,ok.kind,ok.glob,ok.blt,ok.above,ok.inj,ok.has,ok.cab,ok.hd,ok.frames,ok.stk,ok.exf,ok.bs,ok.bsz,ok.noex,ok.exfs,ok.funs,ok.frf⟩
theorem Cx.Ok.unwish {X:Cx}{E:Value→Shared→Prop}(ok:(X.wish E).Ok):X.Ok:=
 ⟨ok.mod,ok.kind,ok.glob,ok.blt,ok.above,ok.inj,ok.has,ok.cab,ok.hd,ok.frames,ok.stk,ok.exf,ok.bs,ok.bsz,ok.noex,ok.exfs,ok.funs,ok.frf⟩
section
variable {X:Cx} {pins:List (Addr×Obj)} {σ :St} {H:Hp} {s:Shared} {E:Value→Shared→Prop}
theorem Inv.wish (I:Inv X pins σ H s)(E:Value→Shared→Prop):Inv (X.wish E) pins σ H s:=⟨I.ok.wish E,I.os,I.bare,I.base,I.loc,I.cell,I.free,I.freeC,I.pin,I.hok,I.len⟩
theorem Inv.unwish (I:Inv (X.wish E) pins σ H s):Inv X pins σ H s:=⟨I.ok.unwish,I.os,I.bare,I.base,I.loc,I.cell,I.free,I.freeC,I.pin,I.hok,I.len⟩
theorem SP.unwish {D:Ends}{f:Flow}{s':Shared}(h:SP (X.wish E) pins D f s'):SP X pins D f s':=by
 cases f with
 | next=>obtain ⟨σ',H',I,q⟩:=h;exact ⟨σ',H',I.unwish,q⟩
 | brk=>obtain ⟨σ',H',I,q⟩:=h;exact ⟨σ',H',I.unwish,q⟩
 | cont=>obtain ⟨σ',H',I,q⟩:=h;exact ⟨σ',H',I.unwish,q⟩
 | ret u=>obtain ⟨v,σ',H',I,r,q⟩:=h;exact ⟨v,σ',H',I.unwish,r,q⟩
theorem PE.nox {e:Expr}{t:TE}(h:PE X.nox e t):PE X e t:=fun pins s σ H Q I hw=>
 wpAny_mono (h pins s σ H Q (I.wish _) hw) (fun _ _ ⟨v,H',I',r,q⟩=>⟨v,H',I'.unwish,r,q⟩) fun _ _ z=>kE z
theorem PT.nox {e:Expr}{t:TT}(h:PT X.nox e t):PT X e t:=fun pins s σ H Q I hw=>
 wpAny_mono (h pins s σ H Q (I.wish _) hw) (fun _ _ ⟨H',I',q⟩=>⟨H',I'.unwish,q⟩) fun _ _ z=>kE z
theorem PSs.nox {st:List Stmt}{t:TS}(h:PSs X.nox st t):PSs X st t:=fun pins s σ H D I hw=>
 wpAny_mono (h pins s σ H D (I.wish _) hw) (fun _ _ q=>q.unwish) fun _ _ z=>kE z
end
section
variable {X:Cx} {st:Stmt} {rest:List Stmt} {t u:TS} {e:Expr} {te:TE} {pos:Pos}
noncomputable def tNext:TS:=fun D σ H=>D.nx σ H
noncomputable def tSeq (t u:TS):TS:=fun D σ H=>t {D with nx:=u D} σ H
theorem zpB:PSs X [] tNext:=fun _ _ σ H _ I h=>wpAny_execs_nil ⟨σ,H,I,h⟩
theorem zn0 (h1:PS X st t)(h2:PSs X rest u):PSs X (st::rest) (tSeq t u):=by
 intro pins s σ H D I h
 refine wpAny_execs_cons (thn (h1 pins s σ H {D with nx:=u D} I h) fun f s1 q=>?_)
 cases f with
 | next=>
  obtain ⟨σ',H',I',q⟩:=q
  exact h2 pins s1 σ' H' D I' q
 | ret v=>exact q
 | brk=>exact q
 | cont=>exact q
theorem zpr (h1:PS X st t):PSs X [st] t:=by
 intro pins s σ H D I h
 refine wpAny_execs_cons (thn (h1 pins s σ H D I h) fun f s1 q=>?_)
 cases f with
 | next=>exact wpAny_execs_nil q
 | ret v=>exact q
 | brk=>exact q
 | cont=>exact q
theorem Inv.quiet {pins:List (Addr×Obj)}{σ :St}{H:Hp}{s:Shared}(I:Inv X pins σ H s):interactive X.env=false:=by simp [interactive,I.ok.kind]
noncomputable def tDrop (te:TE):TS:=fun D σ H=>te σ H fun _ H1=>D.nx σ H1
theorem zph (he:PE X e te)(hs:swapsWith e none pos.line X.env=pure false:=by rfl):PS X (.Expr e pos) (tDrop te):=by
 intro pins s σ H D I h
 exact wpAny_Expr_any (thn (he pins s σ H _ I h) fun v s1 ⟨x,H1,I1,r1,q1⟩=>⟨σ,H1,I1,q1⟩) I.quiet hs
noncomputable def tRet (te:TE):TS:=fun D σ H=>te σ H D.rt
theorem ps_ret (he:PE X e te):PS X (.Return (some e) pos) (tRet te):=by
 intro pins s σ H D I h
 exact wpAny_Return_some (thn (he pins s σ H _ I h) fun v s1 ⟨x,H1,I1,r1,q1⟩=>⟨x,σ,H1,I1,r1,q1⟩)
noncomputable def tIfS (c:TT) (t u:TS):TS:=fun D σ H=>c σ H fun b H1=>if b=true then t D σ H1 else u D σ H1
theorem ps_if {c:Expr}{a b:List Stmt}{tc:TT}(hc:PT X c tc)(ha:PSs X a t)(hb:PSs X b u):PS X (.If c a b pos) (tIfS tc t u):=by
 intro pins s σ H D I h
 refine wpAny_If (thn (hc pins s σ H _ I h) fun d s1 ⟨H1,I1,q1⟩=>?_)
 cases d with
 | true=>exact ha pins s1 σ H1 D I1 q1
 | false=>exact hb pins s1 σ H1 D I1 q1
end
noncomputable abbrev TG:=V→St→Hp→(St→Hp→Prop)→Prop
noncomputable abbrev TGs:=List V→St→Hp→(St→Hp→Prop)→Prop
noncomputable def PG (X:Cx) (target:Expr) (t:TG):Prop:=
 ∀ (pins:List (Addr×Obj)) (s:Shared) (σ :St) (H:Hp) (v:V) (u:Value) (Q:St→Hp→Prop),Inv X pins σ H s→RelV v u→t v σ H Q→
  wpAny (model X.prog X.w) X.A (assign target X.env u) (fun _ s'=>∃ σ' H',Inv X pins σ' H' s'∧Q σ' H') X.xe s
noncomputable def PGs (X:Cx) (ts:List Expr) (t:TGs):Prop:=
 ∀ (pins:List (Addr×Obj)) (s:Shared) (σ :St) (H:Hp) (vs:List V) (us:List Value) (Q:St→Hp→Prop),Inv X pins σ H s→Vals vs us→t vs σ H Q→
  wpAny (model X.prog X.w) X.A (assignInOrder ((assignEach ts X.env).map (·.2)) us) (fun _ s'=>∃ σ' H',Inv X pins σ' H' s'∧Q σ' H') X.xe s
section
variable {X:Cx} {pos:Pos}
noncomputable def zdM (i:Nat):TG:=fun v σ H Q=>Q (σ.set i (some v)) H
theorem zov {i:Nat}{x:Str}(hN:X.N.Nodup)(hi:X.N[i]? =some x)(hx:Loc X.env.scope x)(hf:X.fn x=true∨X.env.scope.names.lookup x=some .local:=by first | exact .inl rfl | exact .inr rfl | assumption):PG X (.Name x pos) (zdM i):=by
 intro pins s σ H v u Q I r h
 exact wpAny_assign_Name (zhj I hN hi hx r (fun s' I'=>⟨_,H,I',h⟩) hf)
noncomputable def gNil:TGs:=fun vs σ H Q=>vs= []∧Q σ H
noncomputable def zja (t:TG) (u:TGs):TGs:=fun vs σ H Q=>∃ v r,vs=v::r∧t v σ H fun σ' H'=>u r σ' H' Q
theorem zpb:PGs X [] gNil:=by
 intro pins s σ H vs us Q I r h
 obtain ⟨e,h⟩:=h
 subst e
 cases r
 exact assignInOrder_nil ⟨σ,H,I,h⟩
theorem znb {e:Expr}{es:List Expr}{t:TG}{u:TGs}(h1:PG X e t)(h2:PGs X es u)
  (hs:(assignEach (e::es) X.env).map (·.2)=assign e X.env::(assignEach es X.env).map (·.2):=by rfl):PGs X (e::es) (zja t u):=by
 intro pins s σ H vs us Q I r h
 obtain ⟨v,vr,e1,h⟩:=h
 subst e1
 cases r with
 | cons r rr=>
  rw [hs]
  refine assignInOrder_cons (thn (h1 pins s σ H _ _ _ I r h) fun _ s1 ⟨σ1,H1,I1,q1⟩=>?_)
  exact h2 pins s1 σ1 H1 _ _ Q I1 rr q1
noncomputable def gTup (K:PySem.W.Frag) (n:Nat) (t:TGs):TG:=fun v σ H Q=>∃ a xs,v= .ref a∧SqT K H a xs∧xs.length=n∧t xs σ H Q
theorem zn8 {es:List Expr}{k:Nat}{t:TGs}{n:Nat}(hc:X.calm=true)(h:PGs X es t)
  (hn:(assignEach es X.env).length=n:=by rfl) (hst:(assignEach es X.env).findIdx? (·.1)=none:=by rfl):PG X (.Tuple es k pos) (gTup X.K n t):=by
 intro pins s σ H v u Q I r hw
 obtain ⟨a,xs,e1,hq,hl,hw⟩:=hw
 subst e1
 cases r
 obtain ⟨its,rv,ht,hz⟩:=I.tuple hq
 refine assign_Tuple_tuple (I.ok.hd hc) ht (by simp [hn,← hl,rv.length]) hst fun h' hx=>?_
 have I1:Inv X pins σ H {s with heap:=h'}:=I.kept (t':=s.toks) fun b o e=>hx b o (qC (yU e)) e
 exact h pins _ σ H xs _ Q I1 (by simpa using rv) hw
noncomputable def tAsg (te:TE) (g:TG):TS:=fun D σ H=>te σ H fun x H1=>g x σ H1 D.nx
theorem ps_asg {tg e:Expr}{te:TE}{g:TG}(he:PE X e te)(hg:PG X tg g)(hs:swapsWithSole [tg] e pos.line X.env=pure false:=by rfl)(hw:swappedStores [tg] e X.env=pure none:=by rfl)
  (h1:(assignEach [tg] X.env).map (·.2)= [assign tg X.env]:=by rfl):PS X (.Assign [tg] e pos) (tAsg te g):=by
 intro pins s σ H D I h
 refine wpAny_Assign_stores (thn (he pins s σ H _ I h) fun v s1 ⟨x,H1,I1,r1,q1⟩=>?_) hs hw
 rw [h1]
 exact thn (hg pins s1 σ H1 x v _ I1 r1 q1) fun _ s2 q=>q
theorem ps_set {i:Nat}{x:Str}{e:Expr}{te:TE}{pos':Pos}(hN:X.N.Nodup)(hi:X.N[i]? =some x)(hx:Loc X.env.scope x)(he:PE X e te)(hs:swapsWith e (some (.Name x pos')) pos.line X.env=pure false:=by rfl)(hf:X.fn x=true∨X.env.scope.names.lookup x=some .local:=by first | exact .inl rfl | exact .inr rfl | assumption):
  PS X (.Assign [.Name x pos'] e pos) (tAsg te (zdM i)):=by
 intro pins s σ H D I h
 refine wpAny_Assign_Name (thn (he pins s σ H _ I h) fun v s1 ⟨y,H1,I1,r1,q1⟩=>?_) hs
 exact zhj I1 hN hi hx r1 (fun s2 I2=>⟨_,H1,I2,q1⟩) hf
end
section
variable {X:Cx} {pos:Pos}
end
structure It where
 go:Nat→Hp→Prop
 yld:Nat→Hp→V→Hp→Prop
 stop:Nat→Hp→Prop
noncomputable def FpOk (X:Cx) (pins:List (Addr×Obj)) (H:Hp) (b:Addr):Prop:=
 H b=none∧b≠X.env.locals∧b∉X.fs∧(b∈X.ex∨X.s₀.heap.objs.size≤b)∧(∀ x c,X.env.cells.lookup x=some c→c≠b)∧∀ p∈X.pn++pins,p.1≠b
theorem Inv.fpOk {X:Cx}{pins:List (Addr×Obj)}{σ :St}{H H':Hp}{s:Shared}{b:Addr}(I:Inv X pins σ H s)(hb:s.heap.objs.size≤b)(hn:H' b=none):FpOk X pins H' b:=by
 refine ⟨hn,yae (qL I.lt hb),I.nofs hb,.inr (qX I.sz hb),fun x c e z=>?_,fun p hp z=>?_⟩
 ·obtain ⟨v,q⟩:=I.cell x c e
  exact absurd (qL q.lt (by rw [z];exact hb)) (vE _)
 ·exact absurd (qL (yU (I.pin p hp).1) (by rw [z];exact hb)) (vE _)
structure Turn (P:Program) (w:World) (K:PySem.W.Frag) (tg:Expr) (J:It) (fp:List Addr) (it:Addr) (tn:Nat→Heap→Prop):Prop where
 mem:it∈fp
 obj:∀ i h,tn i h→∀ b∈fp,∃ o,h.get? b=some o∧∀ v,o.data≠.cell v
 keep:∀ i h h',tn i h→(∀ b∈fp,∀ o,h.get? b=some o→h'.get? b=some o)→tn i h'
 item:∀ (X:Cx),X.prog=P→X.w=w→X.K=K→X.calm=true→∀ (i:Nat) (pins:List (Addr×Obj)) (s:Shared) (σ :St) (H:Hp) (E:Value→Shared→Prop),Inv X pins σ H s→(∀ b∈fp,FpOk X pins H b)→tn i s.heap→J.go i H→
  wpAny (model P w) X.A (pyNext (.ref it)) (fun r s1=>∃ u,r=some u∧
   wpAny (model P w) X.A (letOwnedTupleGo tg (.ref it) u) (fun _ s2=>∃ x H',Inv X pins σ H' s2∧RelV x u∧J.yld i H x H'∧tn (i+1) s2.heap∧∀ b∈fp,H' b=none) E s1) E s
 done:∀ (X:Cx),X.prog=P→X.w=w→X.K=K→X.calm=true→∀ (i:Nat) (pins:List (Addr×Obj)) (s:Shared) (σ :St) (H:Hp) (E:Value→Shared→Prop),Inv X pins σ H s→(∀ b∈fp,FpOk X pins H b)→tn i s.heap→J.stop i H→
  wpAny (model P w) X.A (pyNext (.ref it)) (fun r s1=>r=none∧Inv X pins σ H s1) E s
 self:∀ (A:Around) (i:Nat) (s:Shared) (Q:Value→Shared→Prop) (E:Value→Shared→Prop),tn i s.heap→Q (.ref it) s→wpAny (model P w) A (pyIter (.ref it)) Q E s
noncomputable abbrev TI:=St→Hp→(It→Hp→Prop)→Prop
noncomputable def PIE (X:Cx) (pins:List (Addr×Obj)) (σ :St) (tg:Expr) (R:It→Hp→Prop) (itv:Value) (s2:Shared):Prop:=
 ∃ (it:Addr) (fp:List Addr) (tn:Nat→Heap→Prop) (J:It) (H':Hp),itv= .ref it∧Inv X pins σ H' s2∧Turn X.prog X.w X.K tg J fp it tn∧tn 0 s2.heap∧(∀ b∈fp,FpOk X pins H' b)∧R J H'
noncomputable def PI (X:Cx) (tg iter:Expr) (wi:TI):Prop:=
 ∀ (pins:List (Addr×Obj)) (s:Shared) (σ :St) (H:Hp) (R:It→Hp→Prop),Inv X pins σ H s→wi σ H R→
  wpAny (model X.prog X.w) X.A (eval iter X.env) (fun v s1=>wpAny (model X.prog X.w) X.A (pyIter v) (PIE X pins σ tg R) X.xe s1) X.xe s
theorem zoS {M:Model}{A:Around}{E:Value→Shared→Prop}{s:Shared}{tg:Expr}{it:Addr}{u:Value}{o:Obj}{n:String}{vs:Array Value}{Q:Unit→Shared→Prop}(ho:s.heap.get? it=some o)(hc:o.cls= .type n)(hd:o.data= .fields vs)
  (hn:["enumerate","zip","dict_itemiterator","dict_reverseitemiterator","odict_iterator","itertools.zip_longest","itertools.pairwise"].contains n=false) (hQ:Q () s):wpAny M A (letOwnedTupleGo tg (.ref it) u) Q E s:=by
 unfold letOwnedTupleGo
 cases tg <;> first
  | exact yD hQ
  | (cases u <;> first
    | exact yD hQ
    | (refine yB (wpAny_load ho ?_)
       rw [hc,hd]
       show wpAny M A (if (["enumerate","zip","dict_itemiterator","dict_reverseitemiterator","odict_iterator","itertools.zip_longest","itertools.pairwise"].contains n && vs[0]? ==some (rawInt _))=true then _ else _) Q E s
       rw [if_neg (by intro h;rw [hn,Bool.false_and] at h;cases h)]
       exact yD hQ))
noncomputable def Itl (K:PySem.W.Frag) (a:Addr):It:=
 ⟨fun i H=>∃ xs x,SqL K H a xs∧xs[i]? =some x,fun i H x H'=>H'=H∧∀ xs,SqL K H a xs→xs[i]? =some x,fun i H=>∃ xs,SqL K H a xs∧xs.length≤i⟩
noncomputable def Itt (K:PySem.W.Frag) (a:Addr):It:=
 ⟨fun i H=>∃ xs x,SqT K H a xs∧xs[i]? =some x,fun i H x H'=>H'=H∧∀ xs,SqT K H a xs→xs[i]? =some x,fun i H=>∃ xs,SqT K H a xs∧xs.length≤i⟩
noncomputable def Itr (lo:Int) (n:Nat):It:=⟨fun i _=>i < n,fun i H x H'=>H'=H∧x= .int (lo+i),fun i _=>n≤i⟩
theorem zmK {P:Program}{w:World}{K:PySem.W.Frag}{tg:Expr}(a it:Addr):Turn P w K tg (Itl K a) [it] it (fun i h=>h.IsListIter it a i) where
 mem:=by simp
 obj:=fun i h st b hb=>by
  have e:b=it:=by simpa using hb
  subst e
  obtain ⟨o,e,c,d⟩:=st
  exact ⟨o,e,fun v z=>by rw [d] at z;cases z⟩
 keep:=fun i h h' st k=>st.at fun o e=>k it (by simp) o e
 item:=by
  intro X hP hw hK hc i pins s σ H E I hf st hg
  subst hP hw hK
  obtain ⟨xs,x,hq,hx⟩:=hg
  obtain ⟨its,rv,p,hz⟩:=I.list hq
  obtain ⟨u,hu,ru⟩:=rv.get hx
  obtain ⟨f0,f1,f2,f3,f4,f5⟩:=hf it (by simp)
  refine wpAny_pyNext_list_item st p.isList (x:=u) (by simpa using hu) fun h' st' sb=>?_
  have I1:Inv X pins σ H {s with heap:=h'}:=I.turned (t':=s.toks) (fun b o hb e=>(sb.2 b hb).trans e) f0 f1 f3 f4 f5
  obtain ⟨o,e,c,d⟩:=id st'
  exact ⟨u,rfl,zoS (s:={s with heap:=h'}) e c d (by decide) ⟨x,H,I1,ru,⟨rfl,fun ys hy=>by rw [I.list_inj hy hq];exact hx⟩,st',fun b hb=>(hf b hb).1⟩⟩
 done:=by
  intro X hP hw hK hc i pins s σ H E I hf st hg
  subst hP hw hK
  obtain ⟨xs,hq,hx⟩:=hg
  obtain ⟨its,rv,p,hz⟩:=I.list hq
  obtain ⟨f0,f1,f2,f3,f4,f5⟩:=hf it (by simp)
  have hl:=rv.length
  exact wpAny_pyNext_list_end (I.ok.hd hc) st p.isList (by simp;omega) fun h' eb=>⟨rfl,I.turned (t':=s.toks) (fun b o hb e=>eb b o hb e) f0 f1 f3 f4 f5⟩
 self:=fun _ _ _ _ _ st h=>wpAny_pyIter_listiter st h
theorem zla {P:Program}{w:World}{K:PySem.W.Frag}{tg:Expr}(a it:Addr):Turn P w K tg (Itt K a) [it] it (fun i h=>h.IsTupleIter it a i) where
 mem:=by simp
 obj:=fun i h st b hb=>by
  have e:b=it:=by simpa using hb
  subst e
  obtain ⟨o,e,c,d⟩:=st
  exact ⟨o,e,fun v z=>by rw [d] at z;cases z⟩
 keep:=fun i h h' st k=>st.at fun o e=>k it (by simp) o e
 item:=by
  intro X hP hw hK hc i pins s σ H E I hf st hg
  subst hP hw hK
  obtain ⟨xs,x,hq,hx⟩:=hg
  obtain ⟨its,rv,p,hz⟩:=I.tuple hq
  obtain ⟨u,hu,ru⟩:=rv.get hx
  obtain ⟨f0,f1,f2,f3,f4,f5⟩:=hf it (by simp)
  refine wpAny_pyNext_tuple_item st (show s.heap.IsTuple a its.toArray from p) (x:=u) (by simpa using hu) fun h' st' sb=>?_
  have I1:Inv X pins σ H {s with heap:=h'}:=I.turned (t':=s.toks) (fun b o hb e=>(sb.2 b hb).trans e) f0 f1 f3 f4 f5
  obtain ⟨o,e,c,d⟩:=id st'
  exact ⟨u,rfl,zoS (s:={s with heap:=h'}) e c d (by decide) ⟨x,H,I1,ru,⟨rfl,fun ys hy=>by rw [I.tuple_inj hy hq];exact hx⟩,st',fun b hb=>(hf b hb).1⟩⟩
 done:=by
  intro X hP hw hK hc i pins s σ H E I hf st hg
  subst hP hw hK
  obtain ⟨xs,hq,hx⟩:=hg
  obtain ⟨its,rv,p,hz⟩:=I.tuple hq
  obtain ⟨f0,f1,f2,f3,f4,f5⟩:=hf it (by simp)
  have hl:=rv.length
  exact wpAny_pyNext_tuple_end (I.ok.hd hc) st (show s.heap.IsTuple a its.toArray from p) (by simp;omega) fun h' eb=>⟨rfl,I.turned (t':=s.toks) (fun b o hb e=>eb b o hb e) f0 f1 f3 f4 f5⟩
 self:=fun _ _ _ _ _ st h=>wpAny_pyIter_tupleiter st h
theorem zkH {P:Program}{w:World}{K:PySem.W.Frag}{tg:Expr}(it:Addr)(lo:Int)(n:Nat):Turn P w K tg (Itr lo n) [it] it (fun i h=>IsRangeIter h it (lo+(i:Nat) * 1) ((n:Int) - (i:Nat)) 1) where
 mem:=by simp
 obj:=fun i h st b hb=>by
  have e:b=it:=by simpa using hb
  subst e
  exact ⟨_,st,fun v z=>by
   have z':Data.fields _=Data.cell v:=z
   cases z'⟩
 keep:=fun i h h' st k=>k it (by simp) _ st
 item:=by
  intro X hP hw hK hc i pins s σ H E I hf st hg
  subst hP hw hK
  obtain ⟨f0,f1,f2,f3,f4,f5⟩:=hf it (by simp)
  have W:=Walks.range (prog:=X.prog) (w:=X.w) (I.ok.hd hc) it lo 1 n
  refine W.item i s _ _ hg st fun v h' tk hv st' kk=>?_
  obtain ⟨t,rfl⟩:=hv
  have I1:Inv X pins σ H {s with heap:=h',toks:=tk}:=I.turned (fun b o hb e=>kk b o (by simpa using hb) e) f0 f1 f3 f4 f5
  refine ⟨_,rfl,zoS (s:={s with heap:=h',toks:=tk}) (n:="range_iterator") st' rfl rfl (by decide) ⟨.int (lo+i),H,I1,⟨t,?_⟩,⟨rfl,rfl⟩,st',fun b hb=>(hf b hb).1⟩⟩
  rw [Int.mul_one]
 done:=by
  intro X hP hw hK hc i pins s σ H E I hf st hg
  subst hP hw hK
  obtain ⟨f0,f1,f2,f3,f4,f5⟩:=hf it (by simp)
  exact wpAny_pyNext_range_end (I.ok.hd hc) st (by have:n≤i:=hg;omega) fun h' eb=>⟨rfl,I.turned (t':=s.toks) (fun b o hb e=>eb b o hb e) f0 f1 f3 f4 f5⟩
 self:=fun _ _ _ _ _ st h=>wpAny_pyIter_rangeiter st h
section
variable {X:Cx} {tg:Expr}
noncomputable def iList (K:PySem.W.Frag) (tl:TE):TI:=fun σ H R=>tl σ H fun x H1=>∃ a,x= .ref a∧(∃ xs,SqL K H1 a xs)∧R (Itl K a) H1
noncomputable def iTup (K:PySem.W.Frag) (tl:TE):TI:=fun σ H R=>tl σ H fun x H1=>∃ a,x= .ref a∧(∃ xs,SqT K H1 a xs)∧R (Itt K a) H1
theorem zot {l:Expr}{tl:TE}(hl:PE X l tl):PI X tg l (iList X.K tl):=by
 intro pins s σ H R I h
 refine thn (hl pins s σ H _ I h) fun v s1 ⟨x,H1,I1,r1,q1⟩=>?_
 obtain ⟨a,e,⟨xs,hq⟩,q⟩:=q1
 subst e
 cases r1
 obtain ⟨its,rv,p,hz⟩:=I1.list hq
 refine wpAny_pyIter_list p.isList ?_
 refine ⟨s1.heap.objs.size,[s1.heap.objs.size],_,_,H1,rfl,I1.kept (t':=s1.toks) fun b o e=>yH _ e,zmK a _,⟨_,yW _ rfl,rfl,rfl⟩,fun b hb=>?_,q⟩
 have e:b=s1.heap.objs.size:=by simpa using hb
 subst e
 exact I1.fpOk (yN _) (I1.hok.fresh (yN _))
theorem pi_tup {l:Expr}{tl:TE}(hl:PE X l tl):PI X tg l (iTup X.K tl):=by
 intro pins s σ H R I h
 refine thn (hl pins s σ H _ I h) fun v s1 ⟨x,H1,I1,r1,q1⟩=>?_
 obtain ⟨a,e,⟨xs,hq⟩,q⟩:=q1
 subst e
 cases r1
 obtain ⟨its,rv,p,hz⟩:=I1.tuple hq
 refine wpAny_pyIter_tuple (show s1.heap.IsTuple a its.toArray from p) ?_
 refine ⟨s1.heap.objs.size,[s1.heap.objs.size],_,_,H1,rfl,I1.kept (t':=s1.toks) fun b o e=>yH _ e,zla a _,⟨_,yW _ rfl,rfl,rfl⟩,fun b hb=>?_,q⟩
 have e:b=s1.heap.objs.size:=by simpa using hb
 subst e
 exact I1.fpOk (yN _) (I1.hok.fresh (yN _))
theorem zm8 {pins:List (Addr×Obj)}{σ :St}{H:Hp}{s:Shared}{R:It→Hp→Prop}{E:Value→Shared→Prop}{lo hi:Int}{t u v:Tok}{tk:Nat}(I:Inv X pins σ H s)(h1: -(2 ^ 62)≤lo)(h2:lo < 2 ^ 62)(h3: -(2 ^ 62)≤hi)(h4:hi < 2 ^ 62)
  (q:R (Itr lo (hi - lo).toNat) H):wpAny (model X.prog X.w) X.A (pyIter (.ref s.heap.objs.size)) (PIE X pins σ tg R) E {s with heap:=s.heap.push {cls:=.type "range",data:=.fields #[.int lo t,.int hi u,.int 1 v]},toks:=tk}:=by
 refine wpAny_pyIter_range (IsRange.new ..) (small_one h1 h2 h3 h4) ?_
 have I1:Inv X pins σ H {s with heap:=s.heap.push {cls:=.type "range",data:=.fields #[.int lo t,.int hi u,.int 1 v]},toks:=tk}:=I.kept fun b o e=>yH _ e
 refine ⟨(s.heap.push {cls:=.type "range",data:=.fields #[.int lo t,.int hi u,.int 1 v]}).objs.size,[(s.heap.push {cls:=.type "range",data:=.fields #[.int lo t,.int hi u,.int 1 v]}).objs.size],_,_,H,rfl,
  I1.kept (t':=tk) fun b o e=>yH _ e,zkH _ lo (hi - lo).toNat,?_,fun b hb=>?_,q⟩
 ·have e1:lo+((0:Nat):Int) * 1=lo:=by simp
  have e2:(((hi - lo).toNat:Nat):Int) - ((0:Nat):Int)=Builtin.Range.rangeSize lo hi 1:=by rw [rangeSize_one];split <;> omega
  show IsRangeIter _ _ (lo+((0:Nat):Int) * 1) ((((hi - lo).toNat:Nat):Int) - ((0:Nat):Int)) 1
  rw [e1,e2]
  exact yW _ rfl
 ·have e:b=(s.heap.push {cls:=.type "range",data:=.fields #[.int lo t,.int hi u,.int 1 v]}).objs.size:=by simpa using hb
  subst e
  exact I1.fpOk (yN _) (I1.hok.fresh (yN _))
noncomputable def iRng1 (ta:TA):TI:=fun σ H R=>ta σ H fun vs H1=>∃ j:Int,vs= [.int j]∧-(2 ^ 62)≤j∧j < 2 ^ 62∧R (Itr 0 j.toNat) H1
theorem zlS {a:Expr}{ta:TA}{p pos:Pos}(hg:Gl X "range")(hm:X.mg "range" =none)(ha:PA X [a] ta)(hs:starEach [a] X.env= [(false,eval a X.env)]:=by rfl):PI X tg (.Call (.Name "range" p) [a] [] pos) (iRng1 ta):=by
 intro pins s σ H R I h
 refine Call_ (zea I hg hm boot_range (xD (thn (ha pos pins s σ H _ I h) fun us s1 ⟨vs,H1,I1,r1,q1⟩=>?_) hs rfl))
 obtain ⟨j,e,q1,q2,q⟩:=q1
 subst e
 cases r1 with
 | cons r rr=>
  cases rr
  obtain ⟨t,rfl⟩:=r
  exact call_range_1 (zm8 I1 (by omega) (by omega) q1 q2 (by simpa using q))
noncomputable def tFor (wi:TI) (g:TG) (tb:TS):TS:=fun D σ H=>wi σ H fun J H1=>∃ W:Nat→Nat→St→Hp→Prop,(∃ m,W 0 m σ H1)∧∀ i m σ H,W i m σ H→
 (J.stop i H∧D.nx σ H)∨(J.go i H∧∃ N:St→Hp→Prop,(∀ σ' H',N σ' H'→∃ m',m' < m∧W (i+1) m' σ' H')∧∀ x H',J.yld i H x H'→g x σ H' fun σ2 H2=>tb {D with nx:=N,ct:=N,bk:=D.nx} σ2 H2)
noncomputable def zh9 (fp:List Addr) (h:Heap):List (Addr×Obj):=fp.filterMap fun b=>(h.get? b).map fun o=>(b,o)
theorem zd0 {fp:List Addr}{h:Heap}{b:Addr}{o:Obj}(hb:b∈fp)(e:h.get? b=some o):(b,o)∈zh9 fp h:=xK.mpr ⟨b,hb,by rw [e];rfl⟩
theorem zmB {fp:List Addr}{h:Heap}{p:Addr×Obj}(hp:p∈zh9 fp h):p.1∈fp∧h.get? p.1=some p.2:=by
 obtain ⟨b,hb,e⟩:=xK.mp hp
 cases q:h.get? b with
 | none=>rw [q] at e;cases e
 | some o=>
  rw [q] at e
  have e':(b,o)=p:=qF e
  subst e'
  exact ⟨hb,q⟩
theorem Inv.pinned {pins:List (Addr×Obj)}{σ :St}{H:Hp}{s:Shared}{fp:List Addr}(I:Inv X pins σ H s)(hf:∀ b∈fp,FpOk X pins H b)(ho:∀ b∈fp,∃ o,s.heap.get? b=some o∧∀ v,o.data≠.cell v):Inv X (pins++zh9 fp s.heap) σ H s:=
 I.pins_of fun p hp=>(yP.mp hp).elim (fun z=>I.pin p (jG _ z)) fun z=>by
  obtain ⟨hb,e⟩:=zmB z
  obtain ⟨f0,f1,f2,_⟩:=hf p.1 hb
  obtain ⟨o,e',d⟩:=ho p.1 hb
  rw [e] at e';cases e'
  exact ⟨e,f0,f1,f2,d⟩
theorem Inv.unpinned {pins pl:List (Addr×Obj)}{σ :St}{H:Hp}{s:Shared}(I:Inv X (pins++pl) σ H s):Inv X pins σ H s:=I.pins_of fun p hp=>I.pin p (jG _ (jS _ hp))
theorem ps_for {iter:Expr}{body:List Stmt}{wi:TI}{g:TG}{tb:TS}{pos:Pos}(hp:PassesOwn (model X.prog X.w) X.A X.env X.xe)(hc:X.calm=true)(hi:PI X tg iter wi)(hg:PG X tg g)(hb:PSs X body tb)
  (hs:∀ x,foldedSetIterable iter X.env x=pure x:=by intro _;rfl):PS X (.For tg iter body [] pos) (tFor wi g tb):=by
 intro pins s σ H D I h
 refine wpAny_For (thn (hi pins s σ H _ I h) fun v s1 h1=>thn h1 fun itv s2 h2=>?_) hs
 obtain ⟨it,fp,tn,J,H2,e,I2,T,st2,f2,W,⟨m0,w0⟩,turn⟩:=h2
 subst e
 have stat:∀ {H':Hp},(∀ b∈fp,H' b=none)→∀ b∈fp,FpOk X pins H' b:=fun hn b hb=>⟨hn b hb,(f2 b hb).2⟩
 refine codeAny_forLoop_any (fun n s'=>∃ i σ' H',Inv X pins σ' H' s'∧tn i s'.heap∧(∀ b∈fp,H' b=none)∧W i n σ' H') ?_ m0 ⟨0,σ,H2,I2,st2,fun b hb=>(f2 b hb).1,w0⟩
 rintro n s3 ⟨i,σ3,H3,I3,st3,fr3,w3⟩
 rcases turn i n σ3 H3 w3 with ⟨stop,qn⟩ | ⟨go,N,hN,step⟩
 ·refine wpAny_passesOwn hp (thn (T.done X rfl rfl rfl hc i pins s3 σ3 H3 X.xe I3 (stat fr3) st3 stop) fun r s4 ⟨hr,I4⟩=>?_)
  subst hr
  exact wpAny_execs_nil ⟨σ3,H3,I4,qn⟩
 ·refine wpAny_passesOwn hp (thn (T.item X rfl rfl rfl hc i pins s3 σ3 H3 X.xe I3 (stat fr3) st3 go) fun r s4 ⟨u,hr,h4⟩=>?_)
  subst hr
  refine wpAny_passesOwn hp (thn h4 fun _ s5 ⟨x,H5,I5,r5,y5,st5,fr5⟩=>?_)
  have I5':=I5.pinned (stat fr5) (T.obj _ _ st5)
  refine wpAny_passesOwn hp (thn (hg _ s5 σ3 H5 x u _ I5' r5 (step x H5 y5)) fun _ s6 ⟨σ6,H6,I6,q6⟩=>?_)
  refine wpAny_passesOwn hp (thn (hb _ s6 σ6 H6 _ I6 q6) fun f s7 q7=>?_)
  have again:∀ {σ7:St} {H7:Hp},Inv X (pins++zh9 fp s5.heap) σ7 H7 s7→N σ7 H7→∃ m,m < n∧∃ i σ' H',Inv X pins σ' H' s7∧tn i s7.heap∧(∀ b∈fp,H' b=none)∧W i m σ' H':=fun {σ7 H7} I7 n7=>by
   obtain ⟨m',hm,w7⟩:=hN σ7 H7 n7
   refine ⟨m',hm,i+1,σ7,H7,I7.unpinned,T.keep _ _ _ st5 fun b hb o e=>(I7.pin (b,o) (jG _ (jG _ (zd0 hb e)))).1,fun b hb=>?_,w7⟩
   obtain ⟨o,e,d⟩:=T.obj _ _ st5 b hb
   exact (I7.pin (b,o) (jG _ (jG _ (zd0 hb e)))).2.1
  cases f with
  | next=>obtain ⟨σ7,H7,I7,n7⟩:=q7;exact again I7 n7
  | cont=>obtain ⟨σ7,H7,I7,n7⟩:=q7;exact again I7 n7
  | brk=>obtain ⟨σ7,H7,I7,q7⟩:=q7;exact ⟨σ7,H7,I7.unpinned,q7⟩
  | ret v=>obtain ⟨x7,σ7,H7,I7,r7,q7⟩:=q7;exact ⟨x7,σ7,H7,I7.unpinned,r7,q7⟩
end
theorem zcn {K:PySem.W.Frag}{a:Addr}{xs:List V}{g:TG}{tb:TS}{D:Ends}{σ :St}{H:Hp}(Pv:Nat→St→Hp→Prop)(h0:Pv 0 σ H)(hl:∀ i σ H,i≤xs.length→Pv i σ H→SqL K H a xs)
  (hs:∀ i x σ H,xs[i]? =some x→Pv i σ H→g x σ H fun σ2 H2=>tb {D with nx:=Pv (i+1),ct:=Pv (i+1),bk:=D.nx} σ2 H2) (hd:∀ σ H,Pv xs.length σ H→D.nx σ H):
  ∃ W:Nat→Nat→St→Hp→Prop,(∃ m,W 0 m σ H)∧∀ i m σ H,W i m σ H→
   ((Itl K a).stop i H∧D.nx σ H)∨((Itl K a).go i H∧∃ N:St→Hp→Prop,(∀ σ' H',N σ' H'→∃ m',m' < m∧W (i+1) m' σ' H')∧∀ x H',(Itl K a).yld i H x H'→g x σ H' fun σ2 H2=>tb {D with nx:=N,ct:=N,bk:=D.nx} σ2 H2):=by
 refine ⟨fun i m σ H=>m=xs.length - i∧i≤xs.length∧Pv i σ H,⟨xs.length,by simp,qN _,h0⟩,?_⟩
 rintro i m σ H ⟨rfl,hi,p⟩
 have q:=hl i σ H hi p
 by_cases hlt:i < xs.length
 ·refine .inr ⟨⟨xs,xs[i],q,by simp [hlt]⟩,Pv (i+1),fun σ' H' p'=>⟨xs.length - (i+1),by omega,rfl,hlt,p'⟩,fun x H' y=>?_⟩
  obtain ⟨e,y⟩:=y
  subst e
  exact hs i x σ _ (y xs q) p
 ·have e:i=xs.length:=by omega
  subst e
  exact .inl ⟨⟨xs,q,yN _⟩,hd σ H p⟩
theorem zbR {lo:Int}{n:Nat}{g:TG}{tb:TS}{D:Ends}{σ :St}{H:Hp}(Pv:Nat→St→Hp→Prop)(h0:Pv 0 σ H)
  (hs:∀ i σ H,i < n→Pv i σ H→g (.int (lo+i)) σ H fun σ2 H2=>tb {D with nx:=Pv (i+1),ct:=Pv (i+1),bk:=D.nx} σ2 H2) (hd:∀ σ H,Pv n σ H→D.nx σ H):
  ∃ W:Nat→Nat→St→Hp→Prop,(∃ m,W 0 m σ H)∧∀ i m σ H,W i m σ H→
   ((Itr lo n).stop i H∧D.nx σ H)∨((Itr lo n).go i H∧∃ N:St→Hp→Prop,(∀ σ' H',N σ' H'→∃ m',m' < m∧W (i+1) m' σ' H')∧∀ x H',(Itr lo n).yld i H x H'→g x σ H' fun σ2 H2=>tb {D with nx:=N,ct:=N,bk:=D.nx} σ2 H2):=by
 refine ⟨fun i m σ H=>m=n - i∧i≤n∧Pv i σ H,⟨n,by simp,qN _,h0⟩,?_⟩
 rintro i m σ H ⟨rfl,hi,p⟩
 by_cases hlt:i < n
 ·refine .inr ⟨hlt,Pv (i+1),fun σ' H' p'=>⟨n - (i+1),by omega,rfl,hlt,p'⟩,fun x H' y=>?_⟩
  obtain ⟨e,y⟩:=y
  subst e y
  exact hs i σ _ hlt p
 ·have e:i=n:=by omega
  subst e
  exact .inl ⟨yN _,hd σ H p⟩
noncomputable abbrev R2:=V→V→Hp→VK→Prop
noncomputable def OpR (X:Cx) (f:Value→Value→Sem Value) (r:R2):Prop:=
 ∀ (pins:List (Addr×Obj)) (s:Shared) (σ :St) (H:Hp) (x y:V) (v u:Value) (Q:VK),Inv X pins σ H s→RelV x v→RelV y u→r x y H Q→
  wpAny (model X.prog X.w) X.A (f v u) (EP X pins σ Q) X.xe s
noncomputable def UnR (X:Cx) (f:Value→Sem Value) (r:V→Hp→VK→Prop):Prop:=
 ∀ (pins:List (Addr×Obj)) (s:Shared) (σ :St) (H:Hp) (x:V) (v:Value) (Q:VK),Inv X pins σ H s→RelV x v→r x H Q→
  wpAny (model X.prog X.w) X.A (f v) (EP X pins σ Q) X.xe s
noncomputable def zcB (X:Cx) (f:Value) (r:List V→Hp→VK→Prop):Prop:=
 ∀ (pins:List (Addr×Obj)) (s:Shared) (σ :St) (H:Hp) (xs:List V) (us:List Value) (Q:VK),Inv X pins σ H s→Vals xs us→r xs H Q→
  wpAny (model X.prog X.w) X.A (call f us) (EP X pins σ Q) X.xe s
noncomputable def tOp (r:R2) (ta tb:TE):TE:=fun σ H Q=>ta σ H fun x H1=>tb σ H1 fun y H2=>r x y H2 Q
noncomputable def tUn (r:V→Hp→VK→Prop) (ta:TE):TE:=fun σ H Q=>ta σ H fun x H1=>r x H1 Q
noncomputable def rI (C:Int→Int→Prop) (g:Int→Int→V):R2:=fun x y H Q=>∃ i j,x= .int i∧y= .int j∧C i j∧Q (g i j) H
noncomputable def rI0 (g:Int→Int→V):R2:=fun x y H Q=>∃ i j,x= .int i∧y= .int j∧Q (g i j) H
noncomputable def rU (g:Int→V):V→Hp→VK→Prop:=fun x H Q=>∃ i,x= .int i∧Q (g i) H
section
variable {X:Cx} {a b c:Expr} {ta tb tc:TE} {pos:Pos}
theorem binT (ha:PE X a ta)(hb:PE X b tb){pins:List (Addr×Obj)}{s:Shared}{σ :St}{H:Hp}{R:V→V→Hp→Prop}(I:Inv X pins σ H s)
  (h:ta σ H fun x H1=>tb σ H1 fun y H2=>R x y H2) {Q:Value→Shared→Prop} {f:Value→Value→Sem Value}
  (hf:∀ v u s2 x y H2,Inv X pins σ H2 s2→RelV x v→RelV y u→R x y H2→wpAny (model X.prog X.w) X.A (f v u) Q X.xe s2):
  wpAny (model X.prog X.w) X.A (eval a X.env) (fun v s₁ =>wpAny (model X.prog X.w) X.A (eval b X.env) (fun u s₂ =>wpAny (model X.prog X.w) X.A (f v u) Q X.xe s₂) X.xe s₁) X.xe s:=by
 refine thn (ha pins s σ H _ I h) fun v s1 ⟨x,H1,I1,r1,q1⟩=>?_
 refine thn (hb pins s1 σ H1 _ I1 q1) fun u s2 ⟨y,H2,I2,r2,q2⟩=>?_
 exact hf v u s2 x y H2 I2 r1 r2 q2
theorem pe_op {op:Operator}{r:R2}(ho:OpR X (binaryOp op) r)(ha:PE X a ta)(hb:PE X b tb):PE X (.BinOp a op b pos) (tOp r ta tb):=by
 intro pins s σ H Q I h
 exact wpAny_BinOp (binT ha hb I h fun v u s2 x y H2 I2 rx ry q=>ho pins s2 σ H2 x y v u Q I2 rx ry q)
theorem pe_un {op:UnaryOp}{r:V→Hp→VK→Prop}(ho:UnR X (unaryOp op) r)(ha:PE X a ta):PE X (.UnaryOp op a pos) (tUn r ta):=by
 intro pins s σ H Q I h
 exact UnaryOp_ (thn (ha pins s σ H _ I h) fun v s1 ⟨x,H1,I1,r1,q1⟩=>ho pins s1 σ H1 x v Q I1 r1 q1)
theorem opI {f:Value→Value→Sem Value}{C:Int→Int→Prop}{g:Int→Int→Int}
  (rule:∀ (i j:Int) (t u:Tok) (s:Shared) (Q:Value→Shared→Prop) (E:Value→Shared→Prop),C i j→Q (.int (g i j) s.toks) {s with toks:=s.toks+1}→wpAny (model X.prog X.w) X.A (f (.int i t) (.int j u)) Q E s):
  OpR X f (rI C fun i j=>.int (g i j)):=by
 intro pins s σ H x y v u Q I rx ry h
 obtain ⟨i,j,rfl,rfl,hc,q⟩:=h
 obtain ⟨t,rfl⟩:=rx
 obtain ⟨t',rfl⟩:=ry
 exact rule i j t t' s _ _ hc ⟨.int (g i j),H,I.tok _,⟨_,rfl⟩,q⟩
theorem opI0 {f:Value→Value→Sem Value}{g:Int→Int→Int}
  (rule:∀ (i j:Int) (t u:Tok) (s:Shared) (Q:Value→Shared→Prop) (E:Value→Shared→Prop),Q (.int (g i j) s.toks) {s with toks:=s.toks+1}→wpAny (model X.prog X.w) X.A (f (.int i t) (.int j u)) Q E s):
  OpR X f (rI0 fun i j=>.int (g i j)):=by
 intro pins s σ H x y v u Q I rx ry h
 obtain ⟨i,j,rfl,rfl,q⟩:=h
 obtain ⟨t,rfl⟩:=rx
 obtain ⟨t',rfl⟩:=ry
 exact rule i j t t' s _ _ ⟨.int (g i j),H,I.tok _,⟨_,rfl⟩,q⟩
theorem opB0 {f:Value→Value→Sem Value}{g:Int→Int→Bool}
  (rule:∀ (i j:Int) (t u:Tok) (s:Shared) (Q:Value→Shared→Prop) (E:Value→Shared→Prop),Q (.bool (g i j)) s→wpAny (model X.prog X.w) X.A (f (.int i t) (.int j u)) Q E s):
  OpR X f (rI0 fun i j=>.bl (g i j)):=by
 intro pins s σ H x y v u Q I rx ry h
 obtain ⟨i,j,rfl,rfl,q⟩:=h
 obtain ⟨t,rfl⟩:=rx
 obtain ⟨t',rfl⟩:=ry
 exact rule i j t t' s _ _ ⟨.bl (g i j),H,I,rfl,q⟩
noncomputable def CDiv (i j:Int):Prop:=0 < j∧j < 1073741824
noncomputable def CPow (i j:Int):Prop:=0≤j∧j≤1000000∧i.natAbs < 2 ^ 64
noncomputable def CMul (i j:Int):Prop:=(-(2 ^ 64) < i∧i < 2 ^ 64)∨(-(2 ^ 64) < j∧j < 2 ^ 64)
theorem CMul.ok {i j:Int}(h:CMul i j):IntMulOk i j:=by
 rcases h with ⟨h1,h2⟩ | ⟨h1,h2⟩
 ·exact .of_left (intBits_le_64 h1 h2)
 ·exact .of_right (intBits_le_64 h1 h2)
theorem zkG (k:Nat):(0:Int)≤2 ^ k:=by
 rw [two_pow_cast]
 exact yaj _
theorem zaZ:OpR X (binaryOp .Add) (rI0 fun i j=>.int (i+j)):=opI0 fun _ _ _ _ _ _ _ q=>add_int q
theorem zfd:OpR X (binaryOp .Sub) (rI0 fun i j=>.int (i - j)):=opI0 fun _ _ _ _ _ _ _ q=>sub_int q
theorem zdN:OpR X (binaryOp .Mult) (rI CMul fun i j=>.int (i * j)):=opI fun _ _ _ _ _ _ _ hc q=>mul_int q hc.ok
theorem zfM:OpR X (binaryOp .FloorDiv) (rI CDiv fun i j=>.int (i / j)):=opI fun i j _ _ _ _ _ hc q=>by
 have h1:(0:Int) < j:=hc.1
 have h2:j < 1073741824:=hc.2
 exact floordiv_int (by omega) (by rw [yaP i (by omega)];exact q) (.inl (PyProof.noPylong_small (by omega)))
theorem zbb:OpR X (binaryOp .Mod) (rI (fun _ j=>0 < j) fun i j=>.int (i % j)):=opI fun i j _ _ _ _ _ hc q=>by
 have h1:(0:Int) < j:=hc
 exact mod_int' (by omega) (by rw [Int.fmod_eq_emod_of_nonneg i (by omega)];exact q)
theorem zg0:OpR X (binaryOp .Pow) (rI CPow fun i j=>.int (i ^ j.toNat)):=opI fun _ _ _ _ _ _ _ hc q=>pow_int_small hc.1 hc.2.1 hc.2.2 q
theorem op_shr:OpR X (binaryOp .RShift) (rI (fun _ j=>0≤j) fun i j=>.int (i / 2 ^ j.toNat)):=opI fun i j _ _ _ _ _ hc q=>
 rshift_int hc (by rw [yaP i (zkG _)];exact q)
theorem zko:OpR X (binaryOp .BitAnd) (rI0 fun i j=>.int (qT i j)):=opI0 fun _ _ _ _ _ _ _ q=>and_int q
theorem zo2:OpR X (binaryOp .BitOr) (rI0 fun i j=>.int (jE i j)):=opI0 fun _ _ _ _ _ _ _ q=>or_int q
theorem zkm:OpR X (binaryOp .BitXor) (rI0 fun i j=>.int (qS i j)):=opI0 fun _ _ _ _ _ _ _ q=>xor_int q
theorem unI {f:Value→Sem Value}{g:Int→Int}
  (rule:∀ (i:Int) (t:Tok) (s:Shared) (Q:Value→Shared→Prop) (E:Value→Shared→Prop),Q (.int (g i) s.toks) {s with toks:=s.toks+1}→wpAny (model X.prog X.w) X.A (f (.int i t)) Q E s):
  UnR X f (rU fun i=>.int (g i)):=by
 intro pins s σ H x v Q I rx h
 obtain ⟨i,rfl,q⟩:=h
 obtain ⟨t,rfl⟩:=rx
 exact rule i t s _ _ ⟨.int (g i),H,I.tok _,⟨_,rfl⟩,q⟩
theorem zdy:UnR X (unaryOp .USub) (rU fun i=>.int (-i)):=unI fun _ _ _ _ _ q=>neg_int q
end
noncomputable def scal:V→V→Bool
 | .non,.non=>true | .non,.int _=>true | .int _,.non=>true | .non,.bl _=>true | .bl _,.non=>true | .non,.str _=>true | .str _,.non=>true
 | .int _,.int _=>true | .bl _,.bl _=>true | .str _,.str _=>true | .byt _,.byt _=>true
 | .int _,.str _=>true | .str _,.int _=>true | .bl _,.str _=>true | .str _,.bl _=>true
 | _,_=>false
noncomputable def rEq:R2:=fun x y H Q=>scal x y=true∧Q (.bl (decide (x=y))) H
noncomputable def rNe:R2:=fun x y H Q=>scal x y=true∧Q (.bl (!decide (x=y))) H
theorem zmL {i j:Int}:decide (V.int i=V.int j)=(i==j):=by
 rw [vH]
 simp
theorem zoi {i j:Bool}:decide (V.bl i=V.bl j)=(i==j):=by
 rw [vH]
 simp
theorem zmC {i j:Str}:decide (V.str i=V.str j)=(i==j):=by
 rw [vH]
 simp
theorem zmz {i j:Array UInt8}:decide (V.byt i=V.byt j)=(i.toList==j.toList):=by
 rw [vH]
 cases i
 cases j
 simp
section
variable {X:Cx} {a b c:Expr} {ta tb tc:TE} {pos:Pos}
theorem za3 {pins:List (Addr×Obj)}{σ :St}{H:Hp}{s:Shared}{Q:VK}{k k':Bool}(I:Inv X pins σ H s)(q:Q (.bl k) H)(e:k=k'):EP X pins σ Q (.bool k') s:=by
 subst e
 exact ⟨.bl k,H,I,rfl,q⟩
theorem zdg:OpR X (compareOp .Eq) rEq:=by
 intro pins s σ H x y v u Q I rx ry h
 obtain ⟨hs,q⟩:=h
 cases x with
 | non=>
  cases rx
  cases y with
  | non=>cases ry;exact PySem.EqNone.eq_none_none (za3 I q (by simp))
  | bl j=>cases ry;exact PySem.EqNone.eq_none_bool (za3 I q (by simp))
  | int j=>obtain ⟨t',rfl⟩:=ry;exact PySem.EqNone.eq_none_int (za3 I q (by simp))
  | str j=>obtain ⟨t',rfl⟩:=ry;exact PySem.EqNone.eq_none_str (za3 I q (by simp))
  | _=>exact absurd (show false=true from hs) yY
 | bl i=>
  cases rx
  cases y with
  | non=>cases ry;exact PySem.EqNone.eq_bool_none (za3 I q (by simp))
  | bl j=>cases ry;exact eq_bool (za3 I q zoi)
  | str j=>obtain ⟨t',rfl⟩:=ry;exact PySem.EqMixed.eq_bool_str (za3 I q (by simp))
  | _=>exact absurd (show false=true from hs) yY
 | int i=>
  obtain ⟨t,rfl⟩:=rx
  cases y with
  | non=>cases ry;exact PySem.EqNone.eq_int_none (za3 I q (by simp))
  | int j=>obtain ⟨t',rfl⟩:=ry;exact eq_int (za3 I q zmL)
  | str j=>obtain ⟨t',rfl⟩:=ry;exact PySem.EqMixed.eq_int_str (za3 I q (by simp))
  | _=>exact absurd (show false=true from hs) yY
 | str i=>
  obtain ⟨t,rfl⟩:=rx
  cases y with
  | non=>cases ry;exact PySem.EqNone.eq_str_none (za3 I q (by simp))
  | bl j=>cases ry;exact PySem.EqMixed.eq_str_bool (za3 I q (by simp))
  | int j=>obtain ⟨t',rfl⟩:=ry;exact PySem.EqMixed.eq_str_int (za3 I q (by simp))
  | str j=>obtain ⟨t',rfl⟩:=ry;exact eq_str (za3 I q zmC)
  | _=>exact absurd (show false=true from hs) yY
 | byt i=>
  obtain ⟨t,rfl⟩:=rx
  cases y with
  | byt j=>obtain ⟨t',rfl⟩:=ry;exact PySem.W.eq_bytes (za3 I q zmz)
  | _=>exact absurd (show false=true from hs) yY
 | _=>cases y <;> exact absurd (show false=true from hs) yY
theorem op_ne:OpR X (compareOp .NotEq) rNe:=by
 intro pins s σ H x y v u Q I rx ry h
 obtain ⟨hs,q⟩:=h
 cases x with
 | non=>
  cases rx
  cases y with
  | non=>cases ry;exact PySem.EqNone.ne_none_none (za3 I q (by simp))
  | bl j=>cases ry;exact PySem.EqNone.ne_none_bool (za3 I q (by simp))
  | int j=>obtain ⟨t',rfl⟩:=ry;exact PySem.EqNone.ne_none_int (za3 I q (by simp))
  | str j=>obtain ⟨t',rfl⟩:=ry;exact PySem.EqNone.ne_none_str (za3 I q (by simp))
  | _=>exact absurd (show false=true from hs) yY
 | bl i=>
  cases rx
  cases y with
  | non=>cases ry;exact PySem.EqNone.ne_bool_none (za3 I q (by simp))
  | bl j=>cases ry;exact ne_bool (za3 I q (congrArg not zoi))
  | str j=>obtain ⟨t',rfl⟩:=ry;exact PySem.EqMixed.ne_bool_str (za3 I q (by simp))
  | _=>exact absurd (show false=true from hs) yY
 | int i=>
  obtain ⟨t,rfl⟩:=rx
  cases y with
  | non=>cases ry;exact PySem.EqNone.ne_int_none (za3 I q (by simp))
  | int j=>obtain ⟨t',rfl⟩:=ry;exact ne_int (za3 I q (congrArg not zmL))
  | str j=>obtain ⟨t',rfl⟩:=ry;exact PySem.EqMixed.ne_int_str (za3 I q (by simp))
  | _=>exact absurd (show false=true from hs) yY
 | str i=>
  obtain ⟨t,rfl⟩:=rx
  cases y with
  | non=>cases ry;exact PySem.EqNone.ne_str_none (za3 I q (by simp))
  | bl j=>cases ry;exact PySem.EqMixed.ne_str_bool (za3 I q (by simp))
  | int j=>obtain ⟨t',rfl⟩:=ry;exact PySem.EqMixed.ne_str_int (za3 I q (by simp))
  | str j=>obtain ⟨t',rfl⟩:=ry;exact ne_str (za3 I q (congrArg not zmC))
  | _=>exact absurd (show false=true from hs) yY
 | byt i=>
  obtain ⟨t,rfl⟩:=rx
  cases y with
  | byt j=>obtain ⟨t',rfl⟩:=ry;exact PySem.W.ne_bytes (za3 I q (congrArg not zmz))
  | _=>exact absurd (show false=true from hs) yY
 | _=>cases y <;> exact absurd (show false=true from hs) yY
theorem op_lt:OpR X (compareOp .Lt) (rI0 fun i j=>.bl (decide (i < j))):=opB0 fun _ _ _ _ _ _ _ q=>lt_int q
theorem op_le:OpR X (compareOp .LtE) (rI0 fun i j=>.bl (decide (i≤j))):=opB0 fun _ _ _ _ _ _ _ q=>le_int q
theorem znP:OpR X (compareOp .Gt) (rI0 fun i j=>.bl (decide (j < i))):=opB0 fun _ _ _ _ _ _ _ q=>gt_int q
theorem op_ge:OpR X (compareOp .GtE) (rI0 fun i j=>.bl (decide (j≤i))):=opB0 fun _ _ _ _ _ _ _ q=>ge_int q
theorem OpR.or {f:Value→Value→Sem Value}{r r':R2}(h:OpR X f r)(h':OpR X f r'):OpR X f (fun x y H Q=>r x y H Q∨r' x y H Q):=by
 intro pins s σ H x y v u Q I rx ry q
 rcases q with q | q
 ·exact h pins s σ H x y v u Q I rx ry q
 ·exact h' pins s σ H x y v u Q I rx ry q
theorem zaX (b:Expr){op:CmpOp}(h:op≠.In:=by decide)(h2:op≠.NotIn:=by decide):behindInMarks op b=false:=by
 have e1:(op==CmpOp.In)=false:=by cases op <;> first | rfl | exact absurd rfl h
 have e2:(op==CmpOp.NotIn)=false:=by cases op <;> first | rfl | exact absurd rfl h2
 cases b <;> simp [behindInMarks,e1,e2]
theorem zo8 {op:CmpOp}{r:R2}(ho:OpR X (compareOp op) r)(ha:PE X a ta)(hb:PE X b tb)(hm:behindInMarks op b=false):PE X (.Compare a [op] [b] pos) (tOp r ta tb):=by
 intro pins s σ H Q I h
 exact wpAny_Compare1 (binT ha hb I h fun v u s2 x y H2 I2 rx ry q=>ho pins s2 σ H2 x y v u Q I2 rx ry q) hm
noncomputable def znU (t:TE):TT:=fun σ H Q=>t σ H fun x H'=>∃ k,x= .bl k∧Q k H'
theorem zoY {op:CmpOp}{r:R2}(ho:OpR X (compareOp op) r)(ha:PE X a ta)(hb:PE X b tb)(hm:behindInMarks op b=false):PT X (.Compare a [op] [b] pos) (znU (tOp r ta tb)):=by
 intro pins s σ H Q I h
 refine wpAny_isTrue_Compare1 (thn (ha pins s σ H _ I h) fun v s1 ⟨x,H1,I1,r1,q1⟩=>thn (hb pins s1 σ H1 _ I1 q1) fun u s2 ⟨y,H2,I2,r2,q2⟩=>
  thn (ho pins s2 σ H2 x y v u _ I2 r1 r2 q2) fun c s3 ⟨z,H3,I3,r3,k,e,q3⟩=>?_) hm
 subst e
 cases r3
 exact wpAny_truthy_bool ⟨H3,I3,q3⟩
noncomputable def zoe (r r':R2) (ta tb tc:TE):TE:=fun σ H Q=>ta σ H fun x H1=>tb σ H1 fun y H2=>r x y H2 fun z H3=>∃ k,z= .bl k∧
 (if k=true then tc σ H3 fun w' H4=>r' y w' H4 Q else Q (.bl false) H3)
theorem znl {op op':CmpOp}{r r':R2}(ho:OpR X (compareOp op) r)(ho':OpR X (compareOp op') r')(ha:PE X a ta)(hb:PE X b tb)(hc:PE X c tc)
  (hm:lastMarks [op,op'] [b,c]=false:=by with_unfolding_all rfl):PT X (.Compare a [op,op'] [b,c] pos) (znU (zoe r r' ta tb tc)):=by
 intro pins s σ H Q I h
 refine isTrue_chain (thn (ha pins s σ H _ I h) fun v s1 ⟨x,H1,I1,r1,q1⟩=>test_link (thn (hb pins s1 σ H1 _ I1 q1) fun u s2 ⟨y,H2,I2,r2,q2⟩=>
  thn (ho pins s2 σ H2 x y v u _ I2 r1 r2 q2) fun d s3 ⟨z,H3,I3,r3,k,e,q3⟩=>?_)) hm
 subst e
 cases r3
 refine wpAny_truthy_bool ?_
 cases k with
 | false=>
  obtain ⟨k',e',q'⟩:=q3
  cases e'
  exact ite_ff ⟨H3,I3,q'⟩
 | true=>
  refine ite_tt (test_last (thn (hc pins s3 σ H3 _ I3 q3) fun w' s4 ⟨z',H4,I4,r4,q4⟩=>thn (ho' pins s4 σ H4 y z' u w' _ I4 r2 r4 q4) fun d' s5 ⟨z2,H5,I5,r5,k2,e2,q5⟩=>?_))
  subst e2
  cases r5
  exact wpAny_truthy_bool ⟨H5,I5,q5⟩
theorem zlj:(yL:Nat) < 2 ^ 63:=by rw [sizeLine_eq];decide
theorem zjf {x:V}{us:List Value}(r:Vals [x] us):∃ u,us= [u]∧RelV x u:=by
 cases r with
 | cons r1 r2=>cases r2;exact ⟨_,rfl,r1⟩
theorem zlU {x y:V}{us:List Value}(r:Vals [x,y] us):∃ u w',us= [u,w']∧RelV x u∧RelV y w':=by
 cases r with
 | cons r1 r2=>
  cases r2 with
  | cons r3 r4=>cases r4;exact ⟨_,_,rfl,r1,r3⟩
theorem zmc (hc:X.calm=true):zcB X (.builtin "max") (fun xs H Q=>∃ i j,xs= [.int i,.int j]∧Q (.int (if j > i then j else i)) H):=by
 intro pins s σ H xs us Q I r h
 obtain ⟨i,j,rfl,q⟩:=h
 obtain ⟨u,w',rfl,⟨t,rfl⟩,⟨t',rfl⟩⟩:=zlU r
 refine max_two_ints (I.ok.hd hc) fun h' tk k=>⟨_,H,I.kept k,?_,q⟩
 by_cases hj:j > i
 ·rw [if_pos hj,if_pos hj];exact ⟨_,rfl⟩
 ·rw [if_neg hj,if_neg hj];exact ⟨_,rfl⟩
theorem zm0 (hc:X.calm=true):zcB X (.builtin "min") (fun xs H Q=>∃ i j,xs= [.int i,.int j]∧Q (.int (if j < i then j else i)) H):=by
 intro pins s σ H xs us Q I r h
 obtain ⟨i,j,rfl,q⟩:=h
 obtain ⟨u,w',rfl,⟨t,rfl⟩,⟨t',rfl⟩⟩:=zlU r
 refine min_two_ints (I.ok.hd hc) fun h' tk k=>⟨_,H,I.kept k,?_,q⟩
 by_cases hj:j < i
 ·rw [if_pos hj,if_pos hj];exact ⟨_,rfl⟩
 ·rw [if_neg hj,if_neg hj];exact ⟨_,rfl⟩
theorem zfQ:zcB X (.type "int") (fun xs H Q=>(∃ i,xs= [.int i]∧Q (.int i) H)∨∃ k,xs= [.bl k]∧Q (.int (if k then 1 else 0)) H):=by
 intro pins s σ H xs us Q I r h
 rcases h with ⟨i,rfl,q⟩ | ⟨k,rfl,q⟩
 ·obtain ⟨u,rfl,t,rfl⟩:=zjf r
  exact call_int_int ⟨.int i,H,I,⟨_,rfl⟩,q⟩
 ·obtain ⟨u,rfl,r1⟩:=zjf r
  cases r1
  exact call_int_bool ⟨.int (if k then 1 else 0),H,I.tok _,⟨_,rfl⟩,q⟩
end
structure ObjM (h:Heap) (x dx C:Addr) (mA:Str→Option Value):Prop where
 obj:h.get? x=some (PySem.W.instObj C dx)
 ns:h.Ns1 dx mA
 ne:dx≠x
theorem zmE {h:Heap}{dx:Addr}{mA:Str→Option Value}(n:h.Ns1 dx mA):∃ od,h.get? dx=some od∧∀ name,PySem.W.lookIn name od=some (mA name):=by
 obtain ⟨o,es,ep,ho,hd,hk,_,hm⟩:=n
 refine ⟨o,ho,fun name=>?_⟩
 have e:=hm name
 unfold nsFind findBy at e
 rw [← Array.find?_toList] at e
 unfold PySem.W.lookIn
 rw [hd]
 dsimp only
 split
 ·rename_i y q
  rw [q] at e
  exact congrArg some e
 ·rename_i q
  rw [q] at e
  have a:es.toList.any (·.refKey)=false:=by
   rw [List.any_eq_false]
   intro y hy
   obtain ⟨z,t,hkey⟩:=hk y (Array.mem_toList_iff.mp hy)
   simp [DictEntry.refKey,hkey]
  have a':¬es.toList.any (·.refKey)=true:=by rw [a];exact yY
  rw [if_neg a']
  exact congrArg some e
theorem ObjM.look {h:Heap}{x dx C:Addr}{mA:Str→Option Value}(I:ObjM h x dx C mA):∃ od,PySem.W.InstAt h x (PySem.W.instObj C dx) C (some od)∧∀ name,PySem.W.lookIn name od=some (mA name):=
 let ⟨od,ho,hl⟩:=zmE I.ns
 ⟨od,⟨I.obj,rfl,rfl,ho⟩,hl⟩
section
variable {prog:Program} {w:World} {A:Around} {E:Value→Shared→Prop} {s:Shared} {K:PySem.W.Frag} {x dx C f:Addr} {mA:Str→Option Value} {name:Str} {v:Value}
end
theorem RelO.some_of {v:V}{o:Option Value}(r:RelO (some v) o):∃ u,o=some u∧RelV v u:=by
 cases o with
 | none=>exact (show False from r).elim
 | some u=>exact ⟨u,rfl,r⟩
section
variable {P:Program} {w:World} {H H':Hp} {h h':Heap} {a C dx:Addr} {fs fs':List (Str×V)}
end
structure Cls (K:PySem.W.Frag) (C:Addr):Prop where
 pg:PySem.W.plainGet K C Str.empty=true
 hd:PySem.W.hasDictIn K C=true
 po:PySem.W.plainOver K C=true
 sa:PySem.W.findIn K (.ref C) "__setattr__" =some (some (.builtin "object.__setattr__"))
theorem Cls.get {K:PySem.W.Frag}{C:Addr}(c:Cls K C)(f:Str):PySem.W.plainGet K C f=true:=c.pg
section
variable {X:Cx} {pins:List (Addr×Obj)} {σ :St} {H:Hp} {s:Shared} {a C dx:Addr} {fs:List (Str×V)} {f:Str} {v:V} {A:Around} {E:Value→Shared→Prop}
theorem Inv.made (I:Inv X pins σ H s):Inv X pins σ (upd (upd H s.heap.objs.size (.own (s.heap.objs.size+1))) (s.heap.objs.size+1) (.ins C s.heap.objs.size []))
  {s with heap:=(s.heap.push PySem.W.emptyDict).push (PySem.W.instObj C s.heap.objs.size)}:=by
 have e1:(s.heap.push PySem.W.emptyDict).get? s.heap.objs.size=some PySem.W.emptyDict:=yW s.heap rfl
 have e2:((s.heap.push PySem.W.emptyDict).push (PySem.W.instObj C s.heap.objs.size)).get? (s.heap.objs.size+1)=some (PySem.W.instObj C s.heap.objs.size):=by
  have:=yW (s.heap.push PySem.W.emptyDict) (o:=PySem.W.instObj C s.heap.objs.size) rfl
  rwa [xR] at this
 have e3:(s.heap.push PySem.W.emptyDict).Ns s.heap.objs.size (fun _=>none):=⟨PySem.W.emptyDict,#[],_,e1,rfl,(fun e he=>absurd he (by simp)),fun _=>rfl⟩
 have I1:=I.laid (a:=s.heap.objs.size) (o:=.own (s.heap.objs.size+1)) (h':=s.heap.push PySem.W.emptyDict) (t':=s.toks) (fun b u q=>yH _ q) (yN _) ⟨_,e1⟩
 refine I1.laid (a:=s.heap.objs.size+1) (o:=.ins C s.heap.objs.size []) (t':=s.toks) (fun b u q=>yH _ q) (Nat.le_of_eq (xR _ _)) ?_
 have ne:s.heap.objs.size≠s.heap.objs.size+1:=qC (yaa _)
 refine ⟨by rw [zak ne,zab],qN _,ne,e2,fun _=>none,(Heap.Ns1.of_empty e3).at fun o q=>yH _ q,fun _=>True.intro,fun y hy=>absurd rfl hy⟩
end
section
variable {X:Cx} {o e value:Expr} {f:Str} {pos pos' tpos:Pos} {ta tv:TE}
end
section
variable {X:Cx} {pins:List (Addr×Obj)} {σ :St} {H:Hp} {s:Shared} {A:Around} {E:Value→Shared→Prop} {Q:Value→Shared→Prop} {c:Value} {b:Bool}
end
structure Room (k:Nat) (A:Around):Prop where
 hd:A.handled=none
 dp:A.depth+3 * k+5 < recursionLimit
 un:A.units+16 * k+200 < cLine
 gd:A.guards=some []
theorem Room.mono {j k:Nat}{A:Around}(r:Room k A)(h:j≤k):Room j A:=⟨r.hd,by have:=r.dp;omega,by have:=r.un;omega,r.gd⟩
theorem Room.deeper {k:Nat}{A:Around}(r:Room (k+1) A)(env:Env):Room k (A.deeper env):=
 ⟨r.hd,by have:=r.dp;show A.depth+1+3 * k+5 < _;omega,by have:=r.un;show A.units+3+16 * k+200 < _;omega,r.gd⟩
theorem Room.in1 {k:Nat}{A:Around}(r:Room (k+1) A):Room k A.in1:=
 ⟨r.hd,by have:=r.dp;show A.depth+3 * k+5 < _;omega,by have:=r.un;show A.units+1+16 * k+200 < _;omega,r.gd⟩
theorem Room.depth {k:Nat}{A:Around}(r:Room k A):A.depth < recursionLimit:=by have:=r.dp;omega
theorem Room.units {k:Nat}{A:Around}(r:Room k A):A.units+64 < cLine:=by have:=r.un;omega
noncomputable def tNil:TA:=fun _ H Q=>Q [] H
noncomputable def tCons (ta:TE) (tr:TA):TA:=fun σ H Q=>ta σ H fun x H1=>tr σ H1 fun xs H2=>Q (x::xs) H2
section
variable {X:Cx} {e:Expr} {es:List Expr} {te:TE} {t:TA} {pos:Pos}
theorem pa_nil:PA X [] tNil:=fun _ _ _ _ H Q I h=>kH ⟨[],H,I,.nil,h⟩
theorem zpl (ha:PE X e te)(hr:PA X es t)(hs:starEach (e::es) X.env=(false,eval e X.env)::starEach es X.env:=by rfl):PA X (e::es) (tCons te t):=by
 intro pos pins s σ H Q I h
 rw [hs]
 show wpAny _ _ (spliced ((false,eval e X.env)::backTo pos (starEach es X.env))) _ _ s
 refine vL (thn (ha pins s σ H _ I h) fun u s1 ⟨x,H1,I1,r1,q1⟩=>?_)
 exact thn (hr pos pins s1 σ H1 _ I1 q1) fun us s2 ⟨xs,H2,I2,r2,q2⟩=>⟨x::xs,H2,I2,.cons r1 r2,q2⟩
noncomputable def tTup (t:TA):TE:=fun σ H Q=>t σ H fun xs H1=>xs.length≤yL∧∀ p,H1 p=none→Q (.ref p) (upd H1 p (.tup xs))
noncomputable def tLst (t:TA):TE:=fun σ H Q=>t σ H fun xs H1=>xs.length≤yL∧∀ p,H1 p=none→Q (.ref p) (upd H1 p (.lst xs))
theorem pe_tup {x1}(h:PA X es t):PE X (.Tuple es x1 pos) (tTup t):=by
 intro pins s σ H Q I hq
 refine wpAny_Tuple_spliced (thn (h pos pins s σ H _ I hq) fun us s1 ⟨xs,H1,I1,r,z,q⟩=>⟨by rw [← r.length];exact z,?_⟩)
 have hf:H1 s1.heap.objs.size=none:=I1.hok.fresh (yN _)
 refine ⟨.ref s1.heap.objs.size,upd H1 s1.heap.objs.size (.tup xs),I1.laid (t':=s1.toks) (fun b u e=>yH _ e) (yN _) ?_,rfl,q _ hf⟩
 exact ⟨z,us,r,⟨_,yW _ rfl,rfl,_,rfl⟩⟩
theorem pe_lst (h:PA X es t):PE X (.List es pos) (tLst t):=by
 intro pins s σ H Q I hq
 refine wpAny_List_spliced (thn (h pos pins s σ H _ I hq) fun us s1 ⟨xs,H1,I1,r,z,q⟩=>⟨by rw [← r.length];exact z,?_⟩)
 have hf:H1 s1.heap.objs.size=none:=I1.hok.fresh (yN _)
 refine ⟨.ref s1.heap.objs.size,upd H1 s1.heap.objs.size (.lst xs),I1.laid (t':=s1.toks) (fun b u e=>yH _ e) (yN _) ?_,rfl,q _ hf⟩
 exact ⟨z,us,0,r,yW _ rfl⟩
end
noncomputable abbrev Sp:=List V→Hp→VK→XK→Prop
noncomputable abbrev CXT:=List Env→Hp→Shared→XK→Value→Shared→Prop
structure Env0 (P:Program) (w:World) (K:PySem.W.Frag) (mg:Str→Option Value) (base:Heap) (A:Around) (outer:List Env) (s:Shared) (H:Hp):Prop where
 frames:A.frames=some outer
 mod:Mod K mg base
 bs:∀ b o,base.get? b=some o→s.heap.get? b=some o∧H b=none
 bsz:base.objs.size≤s.heap.objs.size
 funs:s.heap.FunFrames base outer
 frf:∀ b∈frs outer,H b=none
 hok:HOk P w H s.heap
 bare:AllBare s.gens
noncomputable def CE (outer:List Env) (P:Program) (w:World) (H:Hp) (s:Shared) (Q:VK) (u:Value) (s':Shared):Prop:=
 ∃ v H',s'.os=s.os∧AllBare s'.gens∧Un (frs outer) [] H H' s.heap s'.heap∧HOk P w H' s'.heap∧RelV v u∧Q v H'
noncomputable def CR (CX:CXT) (outer:List Env) (P:Program) (w:World) (H:Hp) (s:Shared) (Q:VK) (E:XK) (r:Result) (s':Shared):Prop:=
 match r with
 | .ok (.ret u)=>CE outer P w H s Q u s'
 | .ok _=>False
 | .error e=>CX outer H s E e s'
structure FnOk (P:Program) (w:World) (K:PySem.W.Frag) (mg:Str→Option Value) (base:Heap) (CX:CXT) (k:Nat) (f:Addr) (fd:FuncData) (ps:List Str) (sp:Sp):Prop where
 len:∀ vs H Q E,sp vs H Q E→vs.length=ps.length
 run:∀ (A:Around) (outer:List Env) (s:Shared) (H:Hp) (args:Args) (us:List Value) (vs:List V) (Q:VK) (E:XK),Room k A→Env0 P w K mg base A outer s H→BindsTo s fd args (ps.zip us)→Vals vs us→sp vs H Q E→
  codeAny (model P w) A (.call (.ref f) args) (CR CX outer P w H s Q E) s
theorem FnOk.mono {P:Program}{w:World}{K:PySem.W.Frag}{mg:Str→Option Value}{base:Heap}{CX:CXT}{j k:Nat}{f:Addr}{fd:FuncData}{ps:List Str}{sp:Sp}(F:FnOk P w K mg base CX j f fd ps sp)(h:j≤k):
  FnOk P w K mg base CX k f fd ps sp:=⟨F.len,fun A outer s H args us vs Q E hr=>F.run A outer s H args us vs Q E (hr.mono h)⟩
theorem FnOk.imp {P:Program}{w:World}{K:PySem.W.Frag}{mg:Str→Option Value}{base:Heap}{CX:CXT}{k:Nat}{f:Addr}{fd:FuncData}{ps:List Str}{sp sp':Sp}(F:FnOk P w K mg base CX k f fd ps sp)
  (h:∀ vs H Q E,sp' vs H Q E→sp vs H Q E):FnOk P w K mg base CX k f fd ps sp':=
 ⟨fun vs H Q E q=>F.len vs H Q E (h _ _ _ _ q),fun A outer s H args us vs Q E hr he hb hv hs=>F.run A outer s H args us vs Q E hr he hb hv (h _ _ _ _ hs)⟩
theorem Env0.in1 {P:Program}{w:World}{K:PySem.W.Frag}{mg:Str→Option Value}{base:Heap}{A:Around}{outer:List Env}{s:Shared}{H:Hp}(e:Env0 P w K mg base A outer s H):
  Env0 P w K mg base A.in1 outer s H:=⟨e.frames,e.mod,e.bs,e.bsz,e.funs,e.frf,e.hok,e.bare⟩
section
variable {X:Cx} {pins:List (Addr×Obj)} {σ :St} {H:Hp} {s s':Shared}
theorem Inv.env0 (I:Inv X pins σ H s):Env0 X.prog X.w X.K X.mg X.base X.A X.stack s H:=
 ⟨I.ok.frames,I.ok.mod,I.bs,qX I.ok.bsz I.sz,I.stack,I.stkFree,I.hok,I.bare⟩
theorem Inv.after {Q:VK}{u:Value}(I:Inv X pins σ H s)(h:CE X.stack X.prog X.w H s Q u s'):EP X pins σ Q u s':=by
 obtain ⟨v,H',os,bare,un,hok,r,q⟩:=h
 obtain ⟨hh,g,d,t,os'⟩:=s'
 obtain rfl:os'=s.os:=os
 exact ⟨v,H',I.call (h':=hh) (g':=g) (d':=d) (t':=t) (ch:=[]) un hok bare (fun b z=>absurd z (by simp)),r,q⟩
end
noncomputable def tCall (sp:Sp) (dvs:List V) (E:XK) (t:TA):TE:=fun σ H Q=>t σ H fun vs H1=>sp (vs++dvs) H1 Q E
noncomputable def zfy (K:PySem.W.Frag) (fd:FuncData) (ps:List Str) (ds:List Value):Prop:=
 ∀ (s:Shared) (us:List Value),K.In s.heap→(us++ds).length=ps.length→BindsTo s fd ⟨us,[]⟩ (ps.zip (us++ds))
theorem zfy.all {K:PySem.W.Frag}{fd:FuncData}{ps:List Str}(h:∀ us:List Value,us.length=ps.length→bindArgs fd ⟨us,[]⟩=pure (ps.zip us)):zfy K fd ps []:=fun s us _ hl=>by
 rw [vQ] at hl ⊢
 exact .of_eq (h us hl)
noncomputable def zhW (CX:CXT) (X:Cx) (E:XK):Prop:=∀ (pins:List (Addr×Obj)) (σ :St) (H:Hp) (s:Shared) (e:Value) (s':Shared),Inv X pins σ H s→CX X.stack H s E e s'→X.xe e s'
section
variable {X:Cx} {CX:CXT} {k:Nat} {f C:Addr} {fd:FuncData} {ps:List Str} {sp:Sp} {dvs:List V} {ds:List Value} {E:XK} {x m:Str} {p pos apos:Pos} {e o:Expr} {es:List Expr} {ta:TE} {t:TA}
theorem run_fn {pins:List (Addr×Obj)}{σ :St}{H:Hp}{s:Shared}{Q:VK}{us:List Value}{vs:List V}(F:FnOk X.prog X.w X.K X.mg X.base CX k f fd ps sp)(hr:Room k X.A)(hb:zfy X.K fd ps ds)(hd:Vals dvs ds)(hx:zhW CX X E)
  (I:Inv X pins σ H s) (r:Vals vs us) (h:sp (vs++dvs) H Q E):wpAny (model X.prog X.w) X.A (call (.ref f) us) (EP X pins σ Q) X.xe s:=by
 have r2:Vals (vs++dvs) (us++ds):=r.append hd
 have hl:(us++ds).length=ps.length:=by rw [← r2.length];exact F.len _ _ _ _ h
 refine wpAny_call (codeAny_mono (F.run X.A X.stack s H ⟨us,[]⟩ (us++ds) (vs++dvs) Q E hr I.env0 (hb s us I.kIn hl) r2 h) fun r s' hq=>?_)
 cases r with
 | error e=>exact hx pins σ H s e s' I hq
 | ok fl=>
  cases fl with
  | ret u=>exact I.after hq
  | next=>exact kE hq
  | brk=>exact kE hq
  | cont=>exact kE hq
theorem zoO (F:FnOk X.prog X.w X.K X.mg X.base CX k f fd ps sp)(hr:Room k X.A)(hg:Gl X x)(hm:X.mg x=some (.ref f))(hk:PySem.W.keepIn X.K (.ref f)=true)(hb:zfy X.K fd ps ds)(hd:Vals dvs ds)(hx:zhW CX X E)
  (ha:PA X (e::es) t) (hdb:(x==("__debug__" :Str))=false:=by decide) (he:starEach (e::es) X.env=(false,eval e X.env)::starEach es X.env:=by rfl) (hpl:(backTo pos (starEach es X.env)).any (·.1)=false:=by rfl):
  PE X (.Call (.Name x p) (e::es) [] pos) (tCall sp dvs E t):=by
 intro pins s σ H Q I h
 refine wpAny_Call_Name_kw (zf8 I hg hm ?_ hdb)
 refine PySem.W.callWith_K (h₀ :=X.base) I.ok.mod.kin hk (thn (ha pos pins s σ H _ I h) fun us s1 ⟨vs,H1,I1,r,q⟩=>⟨I1.kIn,?_⟩) he hpl
 exact run_fn F hr hb hd hx I1 r q
end
section
variable {X:Cx} {CX:CXT} {k:Nat} {f C:Addr} {fd:FuncData} {ps ks:List Str} {sp:Sp} {E:XK} {x m:Str} {p pos apos kpos:Pos} {e o:Expr} {es:List Expr} {kws:List Keyword} {te ta:TE} {t tk:TA} {nm:Option Str}
variable {g:List Value→List Value→List Value} {gV:List V→List V→List V}
end
structure zav (N P:List Str) (sc:Scope):Prop where
 kind:sc.kind= .function
 co:sc.isCoroutine=false
 gen:sc.isGenerator=false
 nd:N.Nodup
 pre:N.take P.length=P
 par:∀ x∈P,sc.names.lookup x=some .local∨sc.names.lookup x=some .cell
 nofree:∀ y∈sc.names,y.2≠.free
theorem ziD {kindOf:Str→Option NameKind}{x:Str}:∀ {binds:List (Str×Value)} {m:Str→Option Value},(∀ v,(x,v)∉binds)→bindL kindOf binds m x=m x
 | [],_,_=>rfl
 | (n,v)::r,m,h=>by
  unfold bindL
  rw [ziD fun w hw=>h w (jK _ hw)]
  split
  ·have:x≠n:=by rintro rfl;exact h v jP
   simp [this]
  ·rfl
theorem zit {kindOf:Str→Option NameKind}{x:Str}:∀ {binds:List (Str×Value)} {m:Str→Option Value},(∀ v,(x,v)∉binds)→bindC kindOf binds m x=m x
 | [],_,_=>rfl
 | (n,v)::r,m,h=>by
  unfold bindC
  rw [zit fun w hw=>h w (jK _ hw)]
  split
  ·rfl
  ·have:x≠n:=by rintro rfl;exact h v jP
   simp [this]
theorem ziJ {kindOf:Str→Option NameKind}{x:Str}{v:Value}:∀ {P:List Str} {vs:List Value} {i:Nat} {m:Str→Option Value},P.Nodup→P[i]? =some x→vs[i]? =some v→kindOf x=some .local→
  bindL kindOf (P.zip vs) m x=some v
 | [],_,_,_,_,h,_,_=>by simp at h
 | _::_,[],_,_,_,_,h,_=>by simp at h
 | p::P,w::vs,0,m,nd,h1,h2,hk=>by
  simp at h1 h2;subst h1;subst h2
  show bindL kindOf ((p,w)::P.zip vs) m p=_
  unfold bindL
  rw [ziD fun v hv=>(jV.mp nd).1 (ybu hv).1,if_pos hk]
  simp
 | p::P,w::vs,i+1,m,nd,h1,h2,hk=>by
  show bindL kindOf ((p,w)::P.zip vs) m x=_
  unfold bindL
  exact ziJ (i:=i) (jV.mp nd).2 (by simpa using h1) (by simpa using h2) hk
theorem ziT {kindOf:Str→Option NameKind}{x:Str}{v:Value}:∀ {P:List Str} {vs:List Value} {i:Nat} {m:Str→Option Value},P.Nodup→P[i]? =some x→vs[i]? =some v→kindOf x≠some .local→
  bindC kindOf (P.zip vs) m x=some v
 | [],_,_,_,_,h,_,_=>by simp at h
 | _::_,[],_,_,_,_,h,_=>by simp at h
 | p::P,w::vs,0,m,nd,h1,h2,hk=>by
  simp at h1 h2;subst h1;subst h2
  show bindC kindOf ((p,w)::P.zip vs) m p=_
  unfold bindC
  rw [zit fun v hv=>(jV.mp nd).1 (ybu hv).1,if_neg hk]
  simp
 | p::P,w::vs,i+1,m,nd,h1,h2,hk=>by
  show bindC kindOf ((p,w)::P.zip vs) m x=_
  unfold bindC
  exact ziT (i:=i) (jV.mp nd).2 (by simpa using h1) (by simpa using h2) hk
noncomputable def start (N:List Str) (vs:List V):St:=vs.map some++qH (N.length - vs.length) none
noncomputable def cxOf (CX:CXT) (P:Program) (w:World) (K:PySem.W.Frag) (mg:Str→Option Value) (base:Heap) (N:List Str) (qual:Str) (scope:Scope) (f:Addr) (cd:Value) (A:Around) (outer:List Env) (s:Shared) (H:Hp) (E:XK):Cx where
 prog:=P
 w:=w
 K:=K
 mg:=mg
 base:=base
 A:=A.deeper (envOfC qual scope s.heap.objs.size f cd)
 N:=N
 s₀ :=s
 H₀ :=H
 env:=envOfC qual scope s.heap.objs.size f cd
 outer:=outer
 stack:=envOfC qual scope s.heap.objs.size f cd::outer
 ex:=[]
 calm:=true
 fn:=fun _=>true
 pn:=[]
 xe:=fun e s'=>wpAny (model P w) (A.deeper (envOfC qual scope s.heap.objs.size f cd)) (leaving (envOfC qual scope s.heap.objs.size f cd) e) (fun _ s''=>CX outer H s E e s'') (fun e' s''=>CX outer H s E e' s'') s'
theorem zki {sc:Scope}{n:Nat}{x:Str}(h:sc.names.lookup x=some .cell):∃ c,(cellsFrom n sc.names []).lookup x=some c:=by
 have q:=PySem.W.cellsFrom_some sc.names n [] (.inl h)
 exact Option.isSome_iff_exists.mp q
theorem zlL {CX:CXT}{P:Program}{w:World}{K:PySem.W.Frag}{mg:Str→Option Value}{base:Heap}{N ps:List Str}{qual:Str}{scope:Scope}{f:Addr}{cd:Value}{A:Around}{outer:List Env}{s s1:Shared}{H:Hp}{E:XK}{us:List Value}{vs:List V}
  (S:zav N ps scope) (hd:A.handled=none) (e0:Env0 P w K mg base A outer s H) (hl:vs.length=ps.length) (r:Vals vs us)
  (x:InCallC s s.heap.objs.size (bindL (envOfC qual scope s.heap.objs.size f cd).kindOf (ps.zip us) fun _=>none) (cellsFrom (s.heap.objs.size+1) scope.names []) (bindC (envOfC qual scope s.heap.objs.size f cd).kindOf (ps.zip us) fun _=>none) s1):
  Inv (cxOf CX P w K mg base N qual scope f cd A outer s H E) [] (start N vs) H s1:=by
 have hpl:ps.length≤N.length:=by have:=congrArg vC S.pre;rw [yR] at this;omega
 obtain ⟨h1,tk,rfl,hk⟩:=x.done
 have noA:∀ b:Addr,b∉(cxOf CX P w K mg base N qual scope f cd A outer s H E).ex:=fun b z=>absurd (show b∈([]:List Addr) from z) (by simp)
 refine ⟨⟨e0.mod,S.kind,rfl,rfl,yN _,fun y z c h1 h2=>?_,fun y hy=>?_,fun y c _ h=>?_,fun _=>hd,Around.frames_deeper e0.frames,.inr ⟨rfl,rfl⟩,fun b z=>absurd z (noA b),e0.bs,e0.bsz,fun b _ _=>noA b,fun b z=>absurd z (noA b),e0.funs,e0.frf⟩,
  rfl,e0.bare,Un.kept hk,⟨_,x.toInCall.ns,fun i y v h1 h2 h3=>?_⟩,fun y c h=>⟨_,x.cell y c h⟩,e0.hok.fresh (yN _),fun y c h=>?_,fun p hp=>absurd (show p∈([]:List (Addr×Obj)) from hp) (by simp),e0.hok.kept hk,?_⟩
 ·exact name_of_addr x.apart (kZ h1) (kZ h2)
 ·have hy:scope.names.lookup y=some .cell∨scope.names.lookup y=some .free:=hy
  rcases hy with hy | hy
  ·exact zki hy
  ·exact absurd rfl (S.nofree _ (kZ hy))
 ·exact kU (x.above y c (kZ h))
 ·have hi:i < vs.length:=by
   unfold start at h2
   by_cases hi:i < vs.length
   ·exact hi
   ·rw [qR (by simpa using hi)] at h2
    rw [yak] at h2
    split at h2 <;> cases h2
  have ha:vs[i]? =some v:=by
   unfold start at h2
   rw [qY (by simpa using hi),yE] at h2
   cases e:vs[i]? with
   | none=>rw [e] at h2;cases h2
   | some a=>rw [e] at h2;cases h2;rfl
  obtain ⟨u,hu,rv⟩:=r.get ha
  have hp:ps[i]? =some y:=by
   rw [← S.pre,ya5 (by omega)];exact h1
  have ndP:ps.Nodup:=by rw [← S.pre];exact S.nd.sublist (List.take_sublist _ _)
  refine ⟨u,rv,?_⟩
  rcases S.par y (yI hp) with k | k
  ·exact .inl ⟨k,ziJ ndP hp hu k⟩
  ·obtain ⟨c,e⟩:=zki (n:=s.heap.objs.size+1) k
   refine .inr ⟨.inl k,c,e,?_⟩
   have q:=x.cell y c e
   rw [ziT ndP hp hu (by show scope.names.lookup y≠_;rw [k];decide)] at q
   exact q
 ·exact e0.hok.fresh (kU (x.above y c (kZ h)))
 ·unfold start
  show _=N.length
  rw [yJ,yA,xQ]
  omega
theorem zoP {CX:CXT}{P:Program}{w:World}{K:PySem.W.Frag}{mg:Str→Option Value}{base:Heap}{k:Nat}{f:Addr}{name qual:Str}{params:Arguments}{body:List Stmt}{scope:Scope}{dV kV doc pm cdv ct oc:Value}{an od:Option Addr}
  {osl:Array (Option Value)} {N ps:List Str} {sp:Sp} (lk:K.lookup f=some ⟨oc,od,.func (PySem.W.fnOf name qual params body scope dV kV doc pm an cdv ct),osl⟩) (hcd:PySem.W.codeIn K cdv qual=true) (S:zav N ps scope)
  (len:∀ vs H Q E,sp vs H Q E→vs.length=ps.length)
  (hbody:∀ (A:Around) (outer:List Env) (s:Shared) (H:Hp) (vs:List V) (Q:VK) (E:XK),Room k (A.deeper (envOfC qual scope s.heap.objs.size f cdv))→sp vs H Q E→
   ∃ t,PSs (cxOf CX P w K mg base N qual scope f cdv A outer s H E) body t∧t {nx:=fun _ H'=>Q .non H',rt:=Q} (start N vs) H):
  FnOk P w K mg base CX (k+1) f (PySem.W.fnOf name qual params body scope dV kV doc pm an cdv ct) ps sp:=by
 refine ⟨len,fun A outer s H args us vs Q E hr e0 hb r hsp=>?_⟩
 have hl:=len _ _ _ _ hsp
 have KX:K.In s.heap:=e0.mod.kin.keeps fun b o e=>(e0.bs b o e).1
 have lim:s.heap.NoLimit:=e0.mod.nolimit.keeps fun b o e=>(e0.bs b o e).1
 have hkind:∀ y∈ps.zip us,scope.names.lookup y.1=some .local∨(scope.names.lookup y.1=some .cell∧((cellsFrom (s.heap.objs.size+1) scope.names []).lookup y.1).isSome=true):=fun ⟨n,v⟩ hy=>by
  rcases S.par n (ybu hy).1 with q | q
  ·exact .inl q
  ·exact .inr ⟨q,PySem.W.cellsFrom_some _ _ _ (.inl q)⟩
 refine codeAny_call_function hr.depth (KX _ _ lk) rfl S.co S.gen rfl (PySem.W.codeRec_of KX hcd) (hb _ _ _ _ ?_)
 refine wpAny_newFunctionEnv_cells S.kind hkind fun env he s1 x=>?_
 subst he
 refine ⟨lim.keeps x.toInCall.keep,codeAny_func ?_⟩
 obtain ⟨t,ht,hq⟩:=hbody A outer s H vs Q E (hr.deeper _) hsp
 have I:Inv (cxOf CX P w K mg base N qual scope f cdv A outer s H E) [] (start N vs) H s1:=zlL S hr.hd e0 hl r x
 refine wpAny_mono (ht [] s1 (start N vs) H _ I hq) (fun fl s' hs=>?_) fun e s' hs=>hs
 have fin:∀ {σ':St} {H':Hp} {v:V} {u:Value},Inv (cxOf CX P w K mg base N qual scope f cdv A outer s H E) [] σ' H' s'→RelV v u→Q v H'→CE outer P w H s Q u s':=
  fun {σ' H' v u} J rv q=>⟨v,H',J.os,J.bare,J.base,J.hok,rv,q⟩
 cases fl with
 | ret u=>
  obtain ⟨v,σ',H',J,rv,q⟩:=hs
  exact fin J rv q
 | next=>
  obtain ⟨σ',H',J,q⟩:=hs
  exact fin (v:=V.non) (u:=Value.none) J rfl q
 | brk=>
  obtain ⟨_,_,_,q⟩:=hs
  exact kE q
 | cont=>
  obtain ⟨_,_,_,q⟩:=hs
  exact kE q
section
variable {X:Cx} {x:Str} {p pos:Pos} {e:Expr} {es:List Expr} {t:TA} {id T:String} {r:List V→Hp→VK→Prop}
noncomputable def tCB (r:List V→Hp→VK→Prop) (t:TA):TE:=fun σ H Q=>t σ H fun vs H1=>r vs H1 Q
theorem zn1 (hc:zcB X (.builtin id) r)(hg:Gl X x)(hm:X.mg x=none)(hv:bootBuiltins x=some (.builtin id))(ha:PA X (e::es) t)(hn:x≠"__name__" :=by decide)(hdb:(x==("__debug__" :Str))=false:=by decide)
  (he:starEach (e::es) X.env=(false,eval e X.env)::starEach es X.env:=by rfl) (hpl:(backTo pos (starEach es X.env)).any (·.1)=false:=by rfl):PE X (.Call (.Name x p) (e::es) [] pos) (tCB r t):=by
 intro pins s σ H Q I h
 refine wpAny_Call_Name_kw (zea I hg hm hv ?_ hn hdb)
 exact kW (thn (ha pos pins s σ H _ I h) fun us s1 ⟨vs,H1,I1,r1,q1⟩=>hc pins s1 σ H1 vs us Q I1 r1 q1) he hpl
theorem zmy (hc:zcB X (.type T) r)(hg:Gl X x)(hm:X.mg x=none)(hv:bootBuiltins x=some (.type T))(ha:PA X (e::es) t)(hn:x≠"__name__" :=by decide)(hdb:(x==("__debug__" :Str))=false:=by decide)
  (he:starEach (e::es) X.env=(false,eval e X.env)::starEach es X.env:=by rfl) (hpl:(backTo pos (starEach es X.env)).any (·.1)=false:=by rfl):PE X (.Call (.Name x p) (e::es) [] pos) (tCB r t):=by
 intro pins s σ H Q I h
 refine wpAny_Call_Name_kw (zea I hg hm hv ?_ hn hdb)
 exact xD (thn (ha pos pins s σ H _ I h) fun us s1 ⟨vs,H1,I1,r1,q1⟩=>hc pins s1 σ H1 vs us Q I1 r1 q1) he hpl
end
end L2
namespace HT
open PySem PyProof.Rows
section
open PySem.SeqAt
open PySem.AutoSeq1 (wpAny_loadPart')
open PySem.MeetsSeq PySem.MeetsSeq2 PySem.MeetsSeq3
end
section
variable {prog:Program} {w:World} {A:Around} {E:Value→Shared→Prop} {s:Shared}
theorem cat_tup {t b:Addr}{vs ws:List Value}{Q:Value→Shared→Prop}(ht:IsTup s.heap t vs.toArray)(hb:IsTup s.heap b ws.toArray)(hv:vs≠[])
  (h1:ws= []→Q (.ref t) s) (h2:ws≠[]→Q (.ref s.heap.objs.size) {s with heap:=s.heap.push {cls:=.type "tuple",data:=.seq (vs++ws).toArray}})
  (hsz:vs.length+ws.length≤yL):wpAny (model prog w) A (binaryOp .Add (.ref t) (.ref b)) Q E s:=by
 obtain ⟨⟨cls,dd,data,sl⟩,ho,hc,n,hd⟩:=id ht
 obtain ⟨⟨cls2,dd2,data2,sl2⟩,ho2,hc2,n2,hd2⟩:=id hb
 simp only at hc hd hc2 hd2
 subst hc hd hc2 hd2
 have e:vs.toArray++ws.toArray=(vs++ws).toArray:=by simp
 by_cases hw:ws= []
 ·exact concat_meets ⟨_,ho,rfl⟩ ⟨_,ho2,rfl⟩ noFill_tuple_add seq_tuple_add ybm ybc (ya6 _ _)
   (tuple_addW1 t b vs.toArray ws.toArray n n2 dd dd2 sl sl2 (by simpa using hv) (by simp [hw])) ⟨ho,ho2,h1 hw⟩
 ·refine concat_meets ⟨_,ho,rfl⟩ ⟨_,ho2,rfl⟩ noFill_tuple_add seq_tuple_add ybm ybc (ya6 _ _)
   (tuple_addW2 t b vs.toArray ws.toArray n n2 dd dd2 sl sl2 (by simpa using hv) (by simpa using hw) (by rw [yQ,yQ];exact hsz)) ⟨ho,ho2,?_⟩
  rw [e]
  exact h2 hw
noncomputable def sIx (n d:Nat):Option Int→Nat
 | none=>d
 | some v=>if v < 0 then (v+(n:Int)).toNat else min v.toNat n
theorem sIx_le (n d:Nat)(hd:d≤n)(o:Option Int):sIx n d o≤n:=by
 cases o with
 | none=>exact hd
 | some v=>
  show (if v < 0 then (v+(n:Int)).toNat else min v.toNat n)≤n
  by_cases hv:v < 0
  ·rw [if_pos hv];omega
  ·rw [if_neg hv];exact Nat.min_le_right _ _
theorem zmV (v:Int)(n d:Nat):(if v < 0 then max (v+(n:Int)) 0 else min v (n:Int))=((sIx n d (some v):Nat):Int):=by
 show (if v < 0 then max (v+(n:Int)) 0 else min v (n:Int))=(((if v < 0 then (v+(n:Int)).toNat else min v.toNat n):Nat):Int)
 by_cases hv:v < 0
 ·simp only [if_pos hv];omega
 ·simp only [if_neg hv];omega
theorem zkx (lo hi:Option Int)(n:Nat):wW lo hi 1 (n:Int)=(((sIx n 0 lo:Nat):Int),((sIx n n hi:Nat):Int)):=by
 have h1:¬((1:Int) < 0):=by omega
 unfold wW
 simp only [h1,if_false]
 refine Prod.ext ?_ ?_
 ·cases lo with
  | none=>rfl
  | some v=>exact zmV v n 0
 ·cases hi with
  | none=>rfl
  | some v=>exact zmV v n n
theorem zkB (i j:Nat):vY (i:Int) (j:Int) 1=j - i:=by
 unfold vY
 have h1:(1:Int) > 0:=by omega
 simp only [h1,if_true,Int.ediv_one]
 split <;> omega
theorem zg9 {v:Value}{o:Option Int}{Q:Option Int→Shared→Prop}(p:IsPart v o)(h:Q o s):wpAny (model prog w) A (Builtin.Slice.slicePartIndex v) Q E s:=by
 cases p with
 | none=>exact slicePart_none h
 | int i t=>exact slicePart_int h
theorem zfj {sl:Addr}{vl vu:Value}{lo hi:Option Int}{n:Nat}{Q:Int×Int×Nat→Shared→Prop}(hs:s.heap.IsSliceOf sl vl vu .none)(pl:IsPart vl lo)(pu:IsPart vu hi)
  (h:Q (((sIx n 0 lo:Nat):Int),1,sIx n n hi - sIx n 0 lo) s):wpAny (model prog w) A (yaQ (.ref sl) (pure (n:Int))) Q E s:=by
 obtain ⟨os,hos,hcs,hds⟩:=id hs
 unfold yaQ Builtin.Slice.sliceFields
 refine yB (yB (wpAny_field hos hds (x:=vl) rfl (yB (wpAny_field hos hds (x:=vu) rfl (yB (wpAny_field hos hds (x:=.none) rfl (yD ?_)))))))
 refine yB (slicePart_none ?_)
 show wpAny _ _ (if ((1:Int)==0)=true then _ else _) _ _ s
 rw [if_neg (by decide)]
 refine yB (zg9 pl (yB (zg9 pu (yB (yD ?_)))))
 show wpAny _ _ (match wW lo hi 1 (n:Int) with | (lo,hi)=>pure (lo,(1:Int),vY lo hi 1)) _ _ s
 rw [zkx lo hi n]
 show wpAny _ _ (pure (((sIx n 0 lo:Nat):Int),(1:Int),vY ((sIx n 0 lo:Nat):Int) ((sIx n n hi:Nat):Int) 1)) _ _ s
 rw [zkB]
 exact yD h
theorem zm9 (xs:Array Value)(i k:Nat):((qI k).filterMap fun (m:Nat)=>xs[((i:Int)+(m:Int) * 1).toNat]?).toArray=((xs.toList.drop i).take k).toArray:=by
 have e:(fun (m:Nat)=>xs[((i:Int)+(m:Int) * 1).toNat]?)=fun m=>xs[i+m]? :=by
  funext m
  have:((i:Int)+(m:Int) * 1).toNat=i+m:=by omega
  rw [this]
 rw [e]
 have:=pick_run xs i k
 rw [List.filterMap_map] at this
 have e2:((fun x=>xs[x]?) ∘ fun x=>i+x)=fun m=>xs[i+m]? :=rfl
 rw [e2] at this
 rw [this]
theorem getItem_tuple_cut {t sl:Addr}{items:Array Value}{vl vu:Value}{lo hi:Option Int}{Q:Value→Shared→Prop}(ht:IsTup s.heap t items)(hs:s.heap.IsSliceOf sl vl vu .none)(pl:IsPart vl lo)(pu:IsPart vu hi)
  (hw:¬(sIx items.size 0 lo=0∧sIx items.size items.size hi=items.size))
  (h:Q (.ref s.heap.objs.size) {s with heap:=s.heap.push {cls:=.type "tuple",data:=.seq ((items.toList.drop (sIx items.size 0 lo)).take (sIx items.size items.size hi - sIx items.size 0 lo)).toArray}})
  (hsz:items.size≤yL):wpAny (model prog w) A (getItem (.ref t) (.ref sl)) Q E s:=by
 have htake:sizeOk (.seq ((items.toList.drop (sIx items.size 0 lo)).take (sIx items.size items.size hi - sIx items.size 0 lo)).toArray):=by
  show ((items.toList.drop (sIx items.size 0 lo)).take (sIx items.size items.size hi - sIx items.size 0 lo)).toArray.size≤yL
  rw [yQ,yR,jW,kY]
  omega
 have hj:sIx items.size items.size hi≤items.size:=sIx_le _ _ (yN _) hi
 obtain ⟨os,hos,hcs,hds⟩:=id hs
 have hTs:s.TypeIs (.ref sl) "slice" :=⟨os,hos,hcs⟩
 unfold getItem
 try with_reducible refine wpAny_holding ?_
 first | refine yB (yD ?_) | skip
 refine yB (wpAny_sequenceKey ht.typeIs (by decide) ?_)
 refine yB (wpAny_callSpecial?_slot (name:=yaV "__getitem__") ht.typeIs kI
  (wpAny_call_entry kI ht.typeIs entry_tuple_getitem ?_ (args_tuple_getitem _ _)))
 show wpAny _ _ (Builtin.Tuple.tupleItemsOf (.ref t) >>=_) _ _ s
 refine yB (tupleItemsOf_ ht ?_)
 refine yB (wpAny_typeOf hTs ?_)
 rw [if_pos (by decide)]
 refine yB (zfj hs pl pu ?_)
 have hno:¬((((sIx items.size 0 lo:Nat):Int)==0 && (1:Int)==1 && (sIx items.size items.size hi - sIx items.size 0 lo)==items.size)=true):=by
  intro q
  rw [qA,qA] at q
  have q1:((sIx items.size 0 lo:Nat):Int)=0:=eq_of_beq q.1.1
  have q2:sIx items.size items.size hi - sIx items.size 0 lo=items.size:=eq_of_beq q.2
  exact hw ⟨by omega,by omega⟩
 show wpAny _ _ (if (((sIx items.size 0 lo:Nat):Int)==0 && (1:Int)==1 && (sIx items.size items.size hi - sIx items.size 0 lo)==items.size)=true then _ else _) _ _ s
 rw [if_neg hno,zm9]
 first
  | exact yB (m:=kJ _) (wpAny_newObj_type (yD ⟨_,rfl,yD h⟩) htake)
  | exact yB (m:=kJ _) (wpAny_newObj_type (yB (yD (yD ⟨_,rfl,yD h⟩))) htake)
  | exact yB (yB (m:=kJ _) (wpAny_newObj_type (yD (yD ⟨_,rfl,yD h⟩)) htake))
  | exact yB (yB (m:=kJ _) (wpAny_newObj_type (yD ⟨_,rfl,yD h⟩) htake))
end
end HT
namespace L2
open PySem PySem.Spec PyProof.Rows
noncomputable abbrev TO:=St→Hp→(Option Int→Hp→Prop)→Prop
noncomputable def PO (X:Cx) (e:Option Expr) (t:TO):Prop:=
 ∀ (pins:List (Addr×Obj)) (s:Shared) (σ :St) (H:Hp) (Q:Option Int→Hp→Prop),Inv X pins σ H s→t σ H Q→
  wpAny (model X.prog X.w) X.A (evalPart e X.env) (fun u s'=>∃ o H',Inv X pins σ H' s'∧IsPart u o∧Q o H') X.xe s
noncomputable def zme:TO:=fun _ H Q=>Q none H
noncomputable def tPart (t:TE):TO:=fun σ H Q=>t σ H fun x H1=>∃ i,x= .int i∧Q (some i) H1
section
variable {X:Cx} {e:Expr} {te:TE} {lo hi:Option Expr} {tl th:TO} {pos p2:Pos}
theorem zoM:PO X none zme:=by
 intro pins s σ H Q I h
 rw [evalPart_none]
 exact yD ⟨none,H,I,.none,h⟩
theorem zoA (h:PE X e te):PO X (some e) (tPart te):=by
 intro pins s σ H Q I hw
 rw [evalPart_some]
 refine thn (h pins s σ H _ I hw) fun u s1 ⟨x,H1,I1,r1,q1⟩=>?_
 obtain ⟨i,rfl,q⟩:=q1
 obtain ⟨t,rfl⟩:=r1
 exact ⟨some i,H1,I1,.int i t,q⟩
noncomputable def SlR (X:Cx) (r:V→Option Int→Option Int→Hp→VK→Prop):Prop:=
 ∀ (pins:List (Addr×Obj)) (s:Shared) (σ :St) (H:Hp) (x:V) (v vl vu:Value) (lo hi:Option Int) (sl:Addr) (Q:VK),Inv X pins σ H s→RelV x v→s.heap.IsSliceOf sl vl vu .none→IsPart vl lo→IsPart vu hi→r x lo hi H Q→
  ∃ T id,typeLookup (.type T) "__getitem__" =pure (some (.builtin id))∧s.TypeIs v T∧wpAny (model X.prog X.w) X.A (getItem v (.ref sl)) (EP X pins σ Q) X.xe s
theorem SlR.or {r r':V→Option Int→Option Int→Hp→VK→Prop}(h:SlR X r)(h':SlR X r'):SlR X (fun x lo hi H Q=>r x lo hi H Q∨r' x lo hi H Q):=by
 intro pins s σ H x v vl vu lo hi sl Q I rx hs pl pu q
 rcases q with q | q
 ·exact h pins s σ H x v vl vu lo hi sl Q I rx hs pl pu q
 ·exact h' pins s σ H x v vl vu lo hi sl Q I rx hs pl pu q
noncomputable def tSl (r:V→Option Int→Option Int→Hp→VK→Prop) (te:TE) (tl th:TO):TE:=fun σ H Q=>te σ H fun x H1=>tl σ H1 fun l H2=>th σ H2 fun u H3=>r x l u H3 Q
theorem znp {r:V→Option Int→Option Int→Hp→VK→Prop}(hr:SlR X r)(he:PE X e te)(hl:PO X lo tl)(hu:PO X hi th):PE X (.Subscript e (.Slice lo hi none p2) pos) (tSl r te tl th):=by
 intro pins s σ H Q I h
 refine Subscript_ (thn (he pins s σ H _ I h) fun v s1 ⟨x,H1,I1,r1,q1⟩=>?_)
 refine wpAny_Slice (thn (hl pins s1 σ H1 _ I1 q1) fun vl s2 ⟨l,H2,I2,pl,q2⟩=>thn (hu pins s2 σ H2 _ I2 q2) fun vu s3 ⟨u,H3,I3,pu,q3⟩=>?_)
 rw [evalPart_none]
 refine yD ?_
 have I4:Inv X pins σ H3 {s3 with heap:=s3.heap.push {cls:=.type "slice",data:=.fields #[vl,vu,.none]}}:=I3.kept (t':=s3.toks) fun b ob q=>yH _ q
 obtain ⟨T,id,hT,ht,hg⟩:=hr pins {s3 with heap:=s3.heap.push {cls:=.type "slice",data:=.fields #[vl,vu,.none]}} σ H3 x v vl vu l u s3.heap.objs.size Q I4 r1 (Heap.IsSliceOf.new ..) pl pu q3
 show wpAny (model X.prog X.w) X.A (subscriptTail e (.Slice lo hi none p2) v (.ref s3.heap.objs.size)) (EP X pins σ Q) X.xe {s3 with heap:=s3.heap.push {cls:=.type "slice",data:=.fields #[vl,vu,.none]}}
 exact tail_any (ops:=[.ref s3.heap.objs.size,v]) ht hT hg (by with_unfolding_all rfl)
noncomputable def cutV (xs:List V) (lo hi:Option Int):List V:=(xs.drop (HT.sIx xs.length 0 lo)).take (HT.sIx xs.length xs.length hi - HT.sIx xs.length 0 lo)
theorem zge (xs:List V)(lo hi:Option Int):(cutV xs lo hi).length≤xs.length:=by
 unfold cutV
 rw [yR,jW]
 omega
noncomputable def rSlT (K:PySem.W.Frag):V→Option Int→Option Int→Hp→VK→Prop:=fun x lo hi H Q=>∃ a xs,x= .ref a∧SqT K H a xs∧
 ¬(HT.sIx xs.length 0 lo=0∧HT.sIx xs.length xs.length hi=xs.length)∧∀ p,H p=none→Q (.ref p) (upd H p (.tup (cutV xs lo hi)))
theorem zj7:SlR X (rSlT X.K):=by
 intro pins s σ H x v vl vu lo hi sl Q I rx hs pl pu h
 obtain ⟨a,xs,rfl,hx,hw,q⟩:=h
 cases rx
 obtain ⟨its,r,ht,hz⟩:=I.tuple hx
 have hlen:its.toArray.size=xs.length:=by rw [yQ];exact r.length.symm
 refine ⟨"tuple",_,kI.lookup,ht.typeIs,?_⟩
 refine HT.getItem_tuple_cut ht hs pl pu (by rw [hlen];exact hw) ?_ (by rw [hlen];exact hz)
 rw [hlen]
 refine ⟨.ref s.heap.objs.size,_,I.laid (t':=s.toks) (o:=.tup (cutV xs lo hi)) (fun b ob q=>yH _ q) (yN _) ?_,rfl,q _ (I.hok.fresh (yN _))⟩
 exact ⟨qX (zge xs lo hi) hz,_,(r.drop (HT.sIx xs.length 0 lo)).take (HT.sIx xs.length xs.length hi - HT.sIx xs.length 0 lo),ycw _ _⟩
noncomputable def rCatT (K:PySem.W.Frag):R2:=fun x y H Q=>∃ a b xs ys,x= .ref a∧y= .ref b∧SqT K H a xs∧SqT K H b ys∧xs≠[]∧xs.length+ys.length≤yL∧
 (ys= []→Q (.ref a) H)∧(ys≠[]→∀ p,H p=none→Q (.ref p) (upd H p (.tup (xs++ys))))
theorem Vals.nil_iff {xs:List V}{us:List Value}(r:Vals xs us):us= []↔xs= []:=by
 cases r with
 | nil=>simp
 | cons _ _=>simp
theorem zju:OpR X (binaryOp .Add) (rCatT X.K):=by
 intro pins s σ H x y v u Q I rx ry h
 obtain ⟨a,b,xs,ys,rfl,rfl,ha,hb,hx,hz,q1,q2⟩:=h
 cases rx
 cases ry
 obtain ⟨its,r1,p1,_⟩:=I.tuple ha
 obtain ⟨its2,r2,p2,_⟩:=I.tuple hb
 refine HT.cat_tup p1 p2 (fun z=>hx (r1.nil_iff.mp z)) (fun z=>⟨.ref a,H,I,rfl,q1 (r2.nil_iff.mp z)⟩) (fun z=>?_) (by rw [← r1.length,← r2.length];exact hz)
 refine ⟨.ref s.heap.objs.size,_,I.laid (t':=s.toks) (o:=.tup (xs++ys)) (fun b ob q=>yH _ q) (yN _) ?_,rfl,q2 (fun w=>z (r2.nil_iff.mpr w)) _ (I.hok.fresh (yN _))⟩
 exact ⟨by rw [yJ];exact hz,_,r1.append r2,ycw _ _⟩
end
noncomputable def ixN (n:Nat) (i:Int):Option Nat:=if 0≤i then (if i < n then some i.toNat else none) else if -(n:Int)≤i then some (i+n).toNat else none
noncomputable def atI {α :Type} (xs:List α) (i:Int):Option α :=(ixN xs.length i).bind fun j=>xs[j]?
theorem zoD {n:Nat}{i:Int}{j:Nat}(h:ixN n i=some j):seqIndex? i n=some j∧j < n∧-(n:Int)≤i∧i < n:=by
 unfold ixN at h
 by_cases h0: 0≤i
 ·rw [if_pos h0] at h
  by_cases h1:i < n
  ·rw [if_pos h1] at h
   have e:i.toNat=j:=qF h
   exact ⟨by rw [seqIndex_of h0 h1,e],by omega,by omega,h1⟩
  ·rw [if_neg h1] at h;cases h
 ·rw [if_neg h0] at h
  by_cases h1: -(n:Int)≤i
  ·rw [if_pos h1] at h
   have e:(i+n).toNat=j:=qF h
   exact ⟨by rw [seqIndex_neg (by omega) h1,e],by omega,h1,by omega⟩
  ·rw [if_neg h1] at h;cases h
theorem zlu {α :Type}{xs:List α}{i:Int}{v: α}(h:atI xs i=some v):∃ j,seqIndex? i xs.length=some j∧xs[j]? =some v∧j < xs.length∧-(xs.length:Int)≤i∧i < xs.length:=by
 unfold atI at h
 cases e:ixN xs.length i with
 | none=>rw [e] at h;cases h
 | some j=>
  rw [e] at h
  obtain ⟨h1,h2,h3,h4⟩:=zoD e
  exact ⟨j,h1,h,h2,h3,h4⟩
theorem zcf {α :Type}{xs:List α}{j:Nat}{v: α}(h:xs[j]? =some v):atI xs (j:Int)=some v:=by
 have hj:j < xs.length:=(yG.mp h).1
 have e:ixN xs.length (j:Int)=some j:=by
  unfold ixN
  rw [if_pos (by omega),if_pos (by omega)];simp
 unfold atI;rw [e];exact h
noncomputable def zlr (b:Expr):Prop:=∀ o i,subscripted b false o i=operate [o,i] (getItem o i)
noncomputable def IxR (X:Cx) (r:R2):Prop:=
 ∀ (value slice:Expr) (pins:List (Addr×Obj)) (s:Shared) (σ :St) (H:Hp) (x y:V) (v u:Value) (Q:VK),Inv X pins σ H s→RelV x v→RelV y u→r x y H Q→
  subscripted slice false v u=operate [v,u] (getItem v u)→wpAny (model X.prog X.w) X.A (subscriptTail value slice v u) (EP X pins σ Q) X.xe s
noncomputable def MtR (X:Cx) (id:String) (r:V→List V→Hp→VK→Prop):Prop:=
 ∀ (pins:List (Addr×Obj)) (s:Shared) (σ :St) (H:Hp) (x:V) (xs:List V) (v:Value) (us:List Value) (Q:VK),Inv X pins σ H s→RelV x v→Vals xs us→r x xs H Q→
  wpAny (model X.prog X.w) X.A (call (.builtin id) (v::us)) (EP X pins σ Q) X.xe s
section
variable {X:Cx} {a b:Expr} {ta tb:TE} {pos:Pos}
theorem IxR.or {r r':R2}(h:IxR X r)(h':IxR X r'):IxR X (fun x y H Q=>r x y H Q∨r' x y H Q):=by
 intro value slice pins s σ H x y v u Q I rx ry q hs
 rcases q with q | q
 ·exact h value slice pins s σ H x y v u Q I rx ry q hs
 ·exact h' value slice pins s σ H x y v u Q I rx ry q hs
theorem MtR.or {id:String}{r r':V→List V→Hp→VK→Prop}(h:MtR X id r)(h':MtR X id r'):MtR X id (fun x xs H Q=>r x xs H Q∨r' x xs H Q):=by
 intro pins s σ H x xs v us Q I rx rs q
 rcases q with q | q
 ·exact h pins s σ H x xs v us Q I rx rs q
 ·exact h' pins s σ H x xs v us Q I rx rs q
theorem pe_ix {r:R2}(hr:IxR X r)(ha:PE X a ta)(hb:PE X b tb)(hs:zlr b):PE X (.Subscript a b pos) (tOp r ta tb):=by
 intro pins s σ H Q I h
 exact Subscript_ (binT ha hb I h fun v u s2 x y H2 I2 rx ry q=>hr a b pins s2 σ H2 x y v u Q I2 rx ry q (hs _ _))
noncomputable def rIxL (K:PySem.W.Frag):R2:=fun x y H Q=>∃ p xs i v,x= .ref p∧y= .int i∧SqL K H p xs∧atI xs i=some v∧Q v H
noncomputable def rIxT (K:PySem.W.Frag):R2:=fun x y H Q=>∃ p xs i v,x= .ref p∧y= .int i∧SqT K H p xs∧atI xs i=some v∧Q v H
theorem zaC:IxR X (rIxL X.K):=by
 intro value slice pins s σ H x y v u Q I rx ry h hs
 obtain ⟨p,xs,i,z,rfl,rfl,hq,he,q⟩:=h
 cases rx
 obtain ⟨t,rfl⟩:=ry
 obtain ⟨its,r,pl,hz⟩:=I.list hq
 obtain ⟨j,h1,h2,h3,h4,h5⟩:=zlu he
 obtain ⟨w,ew,rw'⟩:=r.get h2
 have hl:=r.length
 have hn:=zlj
 have fin:EP X pins σ Q w s:=⟨z,H,I,rw',q⟩
 by_cases h0: 0≤i
 ·have hj:i.toNat=j:=by
   rw [seqIndex_of h0 h5] at h1
   exact qF h1
  exact item_listR pl.isList h0 (by omega) (by rw [hj];simpa using ew) fin hs
 ·have hj:(i+(its.toArray.size:Int)).toNat=j:=by
   rw [seqIndex_neg (by omega) h4] at h1
   rw [yQ,← hl]
   exact qF h1
  exact subscriptTail_builtinR (x:=w) pl.isList.typeIs slot_list_getitem.lookup
   (wpAny_getItem_list_neg (Q:=fun r s'=>r=w∧EP X pins σ Q r s') pl.isList (by omega) (by rw [yQ] <;> omega) (by omega) (by rw [hj];simpa using ew) ⟨rfl,fin⟩) hs
theorem zaM:IxR X (rIxT X.K):=by
 intro value slice pins s σ H x y v u Q I rx ry h hs
 obtain ⟨p,xs,i,z,rfl,rfl,hq,he,q⟩:=h
 cases rx
 obtain ⟨t,rfl⟩:=ry
 obtain ⟨its,r,pl,hz⟩:=I.tuple hq
 obtain ⟨j,h1,h2,h3,h4,h5⟩:=zlu he
 obtain ⟨w,ew,rw'⟩:=r.get h2
 have hl:=r.length
 have hn:=zlj
 have fin:EP X pins σ Q w s:=⟨z,H,I,rw',q⟩
 exact subscriptTail_builtinR (x:=w) pl.typeIs slot_tuple_getitem.lookup
  (getItem_tuple (j:=j) (Q:=fun r s'=>r=w∧EP X pins σ Q r s') pl (by omega) (by omega) (by rw [yQ,← hl];exact h1) (by simpa using ew) ⟨rfl,fin⟩) hs
theorem Inv.lst {pins:List (Addr×Obj)}{σ :St}{H:Hp}{s:Shared}{p:Addr}{xs:List V}(I:Inv X pins σ H s)(h:H p=some (.lst xs)):
  ∃ (its:List Value) (n:Nat),Vals xs its∧s.heap.get? p=some {cls:=.type "list",data:=.seq its.toArray n}∧xs.length≤yL:=by
 obtain ⟨z,its,n,r,e⟩:=I.hok p _ h
 exact ⟨its,n,r,e,z⟩
theorem ziW (lo hi:Option Int)(n:Nat):(sliceBounds lo hi none n).1=((HT.sIx n 0 lo:Nat):Int)∧(sliceBounds lo hi none n).2.1=((HT.sIx n n hi:Nat):Int)∧(sliceBounds lo hi none n).2.2=1:=by
 refine ⟨?_,?_,rfl⟩
 ·cases lo with
  | none=>simp [sliceBounds,HT.sIx]
  | some i=>
   simp only [sliceBounds,HT.sIx,ycc,show (1:Int) > 0 by decide,if_true]
   by_cases h:i < 0
   ·simp only [h,if_true] <;> omega
   ·simp only [h,if_false] <;> omega
 ·cases hi with
  | none=>simp [sliceBounds,HT.sIx]
  | some i=>
   simp only [sliceBounds,HT.sIx,ycc,show (1:Int) > 0 by decide,if_true]
   by_cases h:i < 0
   ·simp only [h,if_true] <;> omega
   ·simp only [h,if_false] <;> omega
theorem zhL (its:List Value)(lo hi:Option Int):slicePick its.toArray lo hi none=((its.drop (HT.sIx its.length 0 lo)).take (HT.sIx its.length its.length hi - HT.sIx its.length 0 lo)).toArray:=by
 obtain ⟨h1,h2,h3⟩:=ziW lo hi its.toArray.size
 unfold slicePick
 rw [h1,h2,h3]
 simp only [sliceRange_one,pick_run,yQ] <;> rfl
noncomputable def rSlL (K:PySem.W.Frag):V→Option Int→Option Int→Hp→VK→Prop:=fun x lo hi H Q=>∃ a xs,x= .ref a∧SqL K H a xs∧∀ p,H p=none→Q (.ref p) (upd H p (.lst (cutV xs lo hi)))
theorem zbX:SlR X (rSlL X.K):=by
 intro pins s σ H x v vl vu lo hi sl Q I rx hs pl pu h
 obtain ⟨a,xs,rfl,hx,q⟩:=h
 cases rx
 obtain ⟨its,r,ht,hz⟩:=I.list hx
 have hlen:=r.length
 refine ⟨"list",_,slot_list_getitem.lookup,ht.isList.typeIs,?_⟩
 refine wpAny_getItem_list_slice ht.isList hs pl pu .none (by simp) ?_ (by rw [yQ] <;> omega)
 rw [zhL,← hlen]
 refine ⟨.ref s.heap.objs.size,_,I.laid (t':=s.toks) (o:=.lst (cutV xs lo hi)) (fun b ob q=>yH _ q) (yN _) ?_,rfl,q _ (I.hok.fresh (yN _))⟩
 exact ⟨qX (zge xs lo hi) hz,_,0,(r.drop (HT.sIx xs.length 0 lo)).take (HT.sIx xs.length xs.length hi - HT.sIx xs.length 0 lo),yW _ rfl⟩
noncomputable def zir:V→Bool
 | .non=>true
 | .bl _=>true
 | .int _=>true
 | .str _=>true
 | _=>false
noncomputable def eqV:V→V→Bool
 | .non,.non=>true
 | .bl a,.bl b=>a==b
 | .bl a,.int b=>(if a then 1 else 0)==b
 | .int a,.bl b=>a==(if b then 1 else 0)
 | .int a,.int b=>a==b
 | .str a,.str b=>a==b
 | _,_=>false
theorem eqAt_V {A:Around}{s:Shared}{y x:V}{u v:Value}(ry:RelV y u)(rx:RelV x v)(fy:zir y=true)(fx:zir x=true):jY A s u v (eqV y x):=by
 cases y with
 | non=>
  cases ry
  cases x with
  | non=>cases rx;exact jY.same _
  | bl b=>cases rx;exact jY.none_bool b
  | int b=>obtain ⟨t,rfl⟩:=rx;exact jY.none_int b t
  | str b=>obtain ⟨t,rfl⟩:=rx;exact jY.none_str b t
  | _=>exact absurd (show false=true from fx) yY
 | bl a=>
  cases ry
  cases x with
  | non=>cases rx;exact jY.bool_none a
  | bl b=>cases rx;exact jY.bool_bool a b
  | int b=>obtain ⟨t,rfl⟩:=rx;exact jY.bool_int a b t
  | str b=>obtain ⟨t,rfl⟩:=rx;exact jY.bool_str a b t
  | _=>exact absurd (show false=true from fx) yY
 | int a=>
  obtain ⟨t',rfl⟩:=ry
  cases x with
  | non=>cases rx;exact jY.int_none a t'
  | bl b=>cases rx;exact jY.int_bool a t' b
  | int b=>obtain ⟨t,rfl⟩:=rx;exact jY.int_int a t' b t
  | str b=>obtain ⟨t,rfl⟩:=rx;exact ybP a t' b t
  | _=>exact absurd (show false=true from fx) yY
 | str a=>
  obtain ⟨t',rfl⟩:=ry
  cases x with
  | non=>cases rx;exact jY.str_none a t'
  | bl b=>cases rx;exact jY.str_bool a t' b
  | int b=>obtain ⟨t,rfl⟩:=rx;exact ybQ a t' b t
  | str b=>obtain ⟨t,rfl⟩:=rx;exact jY.str_str a t' b t
  | _=>exact absurd (show false=true from fx) yY
 | _=>exact absurd (show false=true from fy) yY
noncomputable def eqU (x:V) (u:Value):Bool:=match u with
 | .none=>eqV .non x
 | .bool b=>eqV (.bl b) x
 | .int i _=>eqV (.int i) x
 | .str z _=>eqV (.str z) x
 | _=>false
theorem zoh {x y:V}{u:Value}(r:RelV y u)(f:zir y=true):eqU x u=eqV y x:=by
 cases y with
 | non=>cases r;rfl
 | bl b=>cases r;rfl
 | int i=>obtain ⟨t,rfl⟩:=r;rfl
 | str z=>obtain ⟨t,rfl⟩:=r;rfl
 | _=>exact absurd (show false=true from f) yY
theorem zjA {x:V}:∀ {xs:List V} {us:List Value},Vals xs us→xs.all zir=true→us.any (eqU x)=xs.any fun y=>eqV y x
 | _,_,.nil,_=>rfl
 | y::xs,u::us,.cons r t,f=>by
  rw [List.all_cons,qA] at f
  rw [yaG,yaG,zoh r f.1,zjA t f.2]
theorem zhz {A:Around}{s:Shared}{x:V}{v:Value}(rx:RelV x v)(fx:zir x=true):∀ {xs:List V} {us:List Value},Vals xs us→xs.all zir=true→∀ u∈us,jY A s u v (eqU x u)
 | _,_,.nil,_=>fun u hu=>by cases hu
 | y::xs,u::us,.cons r t,f=>fun u' hu=>by
  rw [List.all_cons,qA] at f
  rcases yO.mp hu with rfl | hu
  ·rw [zoh r f.1];exact eqAt_V r rx f.1 fx
  ·exact zhz rx fx t f.2 u' hu
noncomputable def inV (x:V) (xs:List V):Bool:=xs.any fun y=>eqV y x
noncomputable def rIn (K:PySem.W.Frag) (neg:Bool):R2:=fun x y H Q=>∃ p xs,y= .ref p∧(SqL K H p xs∨SqT K H p xs)∧zir x=true∧xs.all zir=true∧Q (.bl (if neg then !inV x xs else inV x xs)) H
theorem zin:OpR X (compareOp .In) (rIn X.K false):=by
 intro pins s σ H x y v u Q I rx ry h
 obtain ⟨p,xs,rfl,hq,fx,fs,q⟩:=h
 cases ry
 rcases hq with hq | hq
 ·obtain ⟨its,r,pl,hz⟩:=I.list hq
  refine yck (eqU x) pl.isList (fun w hw=>zhz rx fx r fs w (by simpa using hw)) ⟨.bl _,H,I,rfl,?_⟩
  rw [show its.toArray.any (eqU x)=its.any (eqU x) by simp,zjA r fs]
  exact q
 ·obtain ⟨its,r,pl,hz⟩:=I.tuple hq
  refine SeqAt.in_tupleAt (eqU x) pl (fun w hw=>zhz rx fx r fs w (by simpa using hw)) ⟨.bl _,H,I,rfl,?_⟩
  rw [show its.toArray.any (eqU x)=its.any (eqU x) by simp,zjA r fs]
  exact q
theorem zau:zcB X (.builtin "len") (fun xs H Q=>∃ p ys,xs= [.ref p]∧(SqL X.K H p ys∨SqT X.K H p ys)∧Q (.int ys.length) H):=by
 intro pins s σ H xs us Q I r h
 obtain ⟨p,ys,rfl,hq,q⟩:=h
 obtain ⟨u,rfl,rx⟩:=zjf r
 cases rx
 have hn:=zlj
 rcases hq with hq | hq
 ·obtain ⟨its,r',pl,hz⟩:=I.list hq
  have hlen:=r'.length
  exact Calls.call_len_list pl.isList (by simp only [yQ] <;> omega) ⟨.int ys.length,H,I.tok _,⟨s.toks+1,by rw [yQ,hlen]⟩,q⟩
 ·obtain ⟨its,r',pl,hz⟩:=I.tuple hq
  have hlen:=r'.length
  exact len_tuple pl (by simp only [yQ] <;> omega) ⟨.int ys.length,H,I.tok _,⟨s.toks+1,by rw [yQ,hlen]⟩,q⟩
theorem zcB.or {f:Value}{r r':List V→Hp→VK→Prop}(h:zcB X f r)(h':zcB X f r'):zcB X f (fun xs H Q=>r xs H Q∨r' xs H Q):=by
 intro pins s σ H xs us Q I rs q
 rcases q with q | q
 ·exact h pins s σ H xs us Q I rs q
 ·exact h' pins s σ H xs us Q I rs q
theorem zhY:zcB X (.type "list") (fun xs H Q=>∃ p ys,xs= [.ref p]∧(SqL X.K H p ys∨SqT X.K H p ys)∧∀ l,H l=none→Q (.ref l) (upd H l (.lst ys))):=by
 intro pins s σ H xs us Q I r h
 obtain ⟨p,ys,rfl,hq,q⟩:=h
 obtain ⟨u,rfl,rx⟩:=zjf r
 cases rx
 have fin:∀ (its:List Value),Vals ys its→ys.length≤yL→∀ (h':Heap) (c':Nat),(∀ b o',s.heap.get? b=some o'→h'.get? b=some o')→
   h'.get? s.heap.objs.size=some {cls:=.type "list",dict:=none,data:=.seq its.toArray c',slots:=#[]}→EP X pins σ Q (.ref s.heap.objs.size) {s with heap:=h'}:=fun its r' hz h' c' kp e=>
  ⟨.ref s.heap.objs.size,_,I.laid (t':=s.toks) kp (yN _) (show zbB X.prog X.w _ h' _ (.lst ys) from ⟨hz,its,c',r',e⟩),rfl,q _ (I.hok.fresh (yN _))⟩
 rcases hq with hq | hq
 ·obtain ⟨its,r',pl,hz⟩:=I.list hq
  have hlen:=r'.length
  obtain ⟨o,ho,hc,n,hd⟩:=pl.isList
  exact call_list_seq p (.inl rfl) ho hc hd (fun h' c' kp e=>fin its r' hz h' c' kp e) (by simp only [yQ] <;> omega)
 ·obtain ⟨its,r',pl,hz⟩:=I.tuple hq
  have hlen:=r'.length
  obtain ⟨o,ho,hc,n,hd⟩:=pl
  exact call_list_seq p (.inr rfl) ho hc hd (fun h' c' kp e=>fin its r' hz h' c' kp e) (by simp only [yQ] <;> omega)
theorem zhD:zcB X (.type "tuple") (fun xs H Q=>∃ p ys,xs= [.ref p]∧((SqL X.K H p ys∧∀ l,H l=none→Q (.ref l) (upd H l (.tup ys)))∨(SqT X.K H p ys∧Q (.ref p) H))):=by
 intro pins s σ H xs us Q I r h
 obtain ⟨p,ys,rfl,h⟩:=h
 obtain ⟨u,rfl,rx⟩:=zjf r
 cases rx
 rcases h with ⟨hq,q⟩ | ⟨hq,q⟩
 ·obtain ⟨its,r',pl,hz⟩:=I.list hq
  have hlen:=r'.length
  refine call_tuple_list pl.isList (fun h' kp=>?_) (by simp only [yQ] <;> omega)
  have I1:Inv X pins σ H {s with heap:=h'}:=I.kept (t':=s.toks) kp
  have I2:Inv X pins σ (upd H h'.objs.size (.tup ys)) {s with heap:=h'.push {cls:=.type "tuple",data:=.seq its.toArray}}:=
   I1.laid (t':=s.toks) (fun b o e=>yH _ e) (yN _) (show zbB X.prog X.w _ _ _ (.tup ys) from ⟨hz,its,r',ycw _ _⟩)
  exact ⟨.ref h'.objs.size,_,I2,rfl,q _ (I1.hok.fresh (yN _))⟩
 ·obtain ⟨its,r',pl,hz⟩:=I.tuple hq
  exact call_tuple_same pl ⟨.ref p,H,I,rfl,q⟩
noncomputable def tyV (K:PySem.W.Frag) (T:String) (x:V) (H:Hp):Prop:=match x with
 | .str _=>T="str"
 | .int _=>T="int"
 | .ref p=>(T="list"∧∃ xs,SqL K H p xs)∨(T="tuple"∧∃ o,K.lookup p=some o∧o.cls= .type "tuple"∧o.dict=none)∨
   (T="dict"∧((∃ kvs,H p=some (.dK kvs))∨∃ kvs,H p=some (.dT kvs)))∨(T="set"∧∃ S n,H p=some (.set S n))
 | _=>False
theorem zn9 {pins:List (Addr×Obj)}{σ :St}{H:Hp}{s:Shared}{T:String}{x:V}{v:Value}(I:Inv X pins σ H s)(r:RelV x v)(ty:tyV X.K T x H):
  s.TypeIs v T∧∀ a,v= .ref a→∃ ob,s.heap.get? a=some ob∧ob.dict=none:=by
 cases x with
 | str z=>
  obtain ⟨t,rfl⟩:=r
  cases (show T="str" from ty)
  exact ⟨typeIs_str s z t,fun _ e=>nomatch e⟩
 | int i=>
  obtain ⟨t,rfl⟩:=r
  cases (show T="int" from ty)
  exact ⟨typeIs_int s i t,fun _ e=>nomatch e⟩
 | ref p=>
  cases r
  rcases ty with ⟨rfl,xs,hq⟩ | ⟨rfl,o,hk,hc,hd⟩ | ⟨rfl,hk⟩ | ⟨rfl,S,n,hk⟩
  ·obtain ⟨its,_,pl,_⟩:=I.list hq
   refine ⟨pl.isList.typeIs,fun a e=>?_⟩
   cases e
   obtain ⟨o,n,e,c,hd,_⟩:=pl
   exact ⟨o,e,hd⟩
  ·refine ⟨⟨o,I.kIn p o hk,hc⟩,fun a e=>?_⟩
   cases e
   exact ⟨o,I.kIn _ o hk,hd⟩
  ·have z:∃ o,s.heap.get? p=some o∧o.ExactDict:=by
    rcases hk with ⟨kvs,hk⟩ | ⟨kvs,hk⟩
    ·obtain ⟨_,_,_,_,o,_,_,e,ex,_⟩:=I.hok p _ hk
     exact ⟨o,e,ex⟩
    ·obtain ⟨_,_,_,_,o,_,_,e,ex,_⟩:=I.hok p _ hk
     exact ⟨o,e,ex⟩
   obtain ⟨o,e,ex⟩:=z
   refine ⟨⟨o,e,ex.1⟩,fun a e2=>?_⟩
   cases e2
   exact ⟨o,e,ex.2.1⟩
  ·obtain ⟨o,_,_,_,e,ex,_⟩:=I.hok p _ hk
   refine ⟨⟨o,e,ex.1⟩,fun a e2=>?_⟩
   cases e2
   exact ⟨o,e,ex.2.1⟩
 | _=>exact kE ty
noncomputable def tBM0 (K:PySem.W.Frag) (T:String) (r:V→List V→Hp→VK→Prop) (to:TE):TE:=fun σ H Q=>to σ H fun x H1=>tyV K T x H1∧r x [] H1 Q
noncomputable def tBM (K:PySem.W.Frag) (T:String) (r:V→List V→Hp→VK→Prop) (to:TE) (t:TA):TE:=fun σ H Q=>to σ H fun x H1=>tyV K T x H1∧t σ H1 fun xs H2=>r x xs H2 Q
variable {o e:Expr} {es:List Expr} {to:TE} {t:TA} {name:Str} {apos cpos:Pos} {T id:String} {r:V→List V→Hp→VK→Prop}
theorem pe_bm0 (pa:PlainAttrs T)(slot:Slot T name id)(hty:typeOf (.builtin id)=pure (.type "method_descriptor"))(hm:MtR X id r)(ho:PE X o to)
  (hbase:attributeBase o name X.env (eval o X.env)=eval o X.env:=by rfl) (hline:(apos.endLine==cpos.line)=true:=by rfl):PE X (.Call (.Attribute o name apos) [] [] cpos) (tBM0 X.K T r to):=by
 intro pins s σ H Q I h
 refine wpAny_Call_method0_late hbase hline (thn (ho pins s σ H _ I h) fun v s1 ⟨x,H1,I1,r1,ty,q1⟩=>?_)
 obtain ⟨h1,h2⟩:=zn9 I1 r1 ty
 exact ⟨T,id,pa,slot,hty,h1,h2,wG rfl (ybK (hm pins s1 σ H1 x [] v [] Q I1 r1 .nil q1))⟩
theorem pe_bm (pa:PlainAttrs T)(slot:Slot T name id)(hty:typeOf (.builtin id)=pure (.type "method_descriptor"))(hm:MtR X id r)(ho:PE X o to)(ha:PA X (e::es) t)
  (hbase:attributeBase o name X.env (eval o X.env)=eval o X.env:=by rfl)
  (hfew:((backTo cpos (starEach (e::es) X.env)).all (fun x=>!x.1) && (backToKw cpos (keywordEach [] X.env)).all (fun x=>x.1.isSome)
   && decide ((e::es).length+([]:List Keyword).length+(if ([]:List Keyword).isEmpty then 0 else 1) < 30))=true:=by rfl)
  (hline:(apos.endLine==cpos.line)=true:=by rfl) (hs:starEach (e::es) X.env=(false,eval e X.env)::starEach es X.env:=by rfl) (hplain:(backTo cpos (starEach es X.env)).any (·.1)=false:=by rfl):
  PE X (.Call (.Attribute o name apos) (e::es) [] cpos) (tBM X.K T r to t):=by
 intro pins s σ H Q I h
 refine wpAny_Call_method_late hbase hfew hline rfl (thn (ho pins s σ H _ I h) fun v s1 ⟨x,H1,I1,r1,ty,q1⟩=>?_)
 obtain ⟨h1,h2⟩:=zn9 I1 r1 ty
 refine ⟨T,id,pa,slot,hty,h1,h2,?_⟩
 have hA:=ha cpos pins s1 σ H1 _ I1 q1
 rw [hs] at hA ⊢
 refine wG (by show (false || (backTo cpos (starEach es X.env)).any (·.1))=false;rw [hplain] <;> rfl) (yaF ?_)
 exact thn hA fun us s2 ⟨vs,H2,I2,r2,q2⟩=>hm pins s2 σ H2 x vs v us Q I2 r1 r2 q2
end
noncomputable def MtM (X:Cx) (id:String) (r:V→List V→Hp→VK→Prop):Prop:=
 ∀ (pins:List (Addr×Obj)) (s:Shared) (σ :St) (H:Hp) (x:V) (xs:List V) (v:Value) (us:List Value) (Q:VK),Inv X pins σ H s→RelV x v→Vals xs us→r x xs H Q→
  wpAny (model X.prog X.w) X.A (call (.builtin id) (v::us)) (EP X pins σ Q) X.xe s
theorem Vals.one:∀ {x:V} {us:List Value},Vals [x] us→∃ u,us= [u]∧RelV x u
 | _,_,.cons r .nil=>⟨_,rfl,r⟩
theorem Vals.two:∀ {x y:V} {us:List Value},Vals [x,y] us→∃ u v,us= [u,v]∧RelV x u∧RelV y v
 | _,_,_,.cons r (.cons q .nil)=>⟨_,_,rfl,r,q⟩
theorem Vals.zero:∀ {us:List Value},Vals [] us→us= []
 | _,.nil=>rfl
theorem Vals.dropLast {xs:List V}{us:List Value}(h:Vals xs us):Vals xs.dropLast us.dropLast:=by
 induction h with
 | nil=>exact .nil
 | cons r t ih=>
  cases t with
  | nil=>exact .nil
  | cons q t'=>exact .cons r ih
theorem Vals.eraseIdx:∀ {xs:List V} {us:List Value} (i:Nat),Vals xs us→Vals (xs.eraseIdx i) (us.eraseIdx i)
 | _,_,_,.nil=>.nil
 | _,_,0,.cons _ t=>t
 | _,_,i+1,.cons r t=>.cons r (Vals.eraseIdx i t)
theorem Vals.reverse {xs:List V}{us:List Value}(h:Vals xs us):Vals xs.reverse us.reverse:=by
 induction h with
 | nil=>exact .nil
 | cons r t ih=>rw [kK,kK];exact Vals.append ih (.cons r .nil)
theorem Vals.rep {xs:List V}{us:List Value}(h:Vals xs us):∀ k:Nat,Vals (qH k xs).flatten (qH k us).flatten
 | 0=>.nil
 | k+1=>by
  rw [xE,xE,kN,kN]
  exact Vals.append h (Vals.rep h k)
theorem ziy (its:List Value):∀ (k:Nat) (acc:List Value),
  yct (fun x1 x2=>x1++x2) acc.toArray (qH k its.toArray)=(acc++(qH k its).flatten).toArray
 | 0,acc=>by simp
 | k+1,acc=>by
  have e:acc.toArray++its.toArray=(acc++its).toArray:=by simp
  have e2:(acc++its)++(qH k its).flatten=acc++(qH (k+1) its).flatten:=by
   rw [xE,kN,jH]
  rw [← e2,← ziy its k (acc++its),← e,xE,vR]
section
variable {X:Cx} {pins:List (Addr×Obj)} {σ :St} {H:Hp} {s:Shared} {l b:Addr} {xs ys zs:List V}
theorem Inv.lset {its its':List Value}{n:Nat}{f:Array Value→Array Value}{t':Nat}(I:Inv X pins σ H s)(hH:H l=some (.lst xs))
  (e:s.heap.get? l=some {cls:=.type "list",data:=.seq its.toArray n}) (hf:f its.toArray=its'.toArray) (hv:Vals ys its') (hz:ys.length≤yL):
  Inv X pins σ (upd H l (.lst ys)) {s with heap:=s.heap.update l (vD f),toks:=t'}:=by
 have q:=PySem.IsL.update e f
 rw [hf] at q
 refine I.write (x:=l) (e:=l) (by rw [hH];exact trivial) (.inl rfl) (fun b' u hb hu=>(vA s.heap (vD f) (xU hb)).trans hu) ⟨_,q⟩ ?_
 exact ⟨hz,its',_,hv,q⟩
theorem Inv.lnew {its:List Value}{t':Nat}(I:Inv X pins σ H s)(hv:Vals ys its)(hz:ys.length≤yL):
  Inv X pins σ (upd H s.heap.objs.size (.lst ys)) {s with heap:=s.heap.push {cls:=.type "list",data:=.seq its.toArray},toks:=t'}:=
 I.laid (fun _ _ q=>yH _ q) (yN _) ⟨hz,its,0,hv,yW _ rfl⟩
theorem Inv.fresh (I:Inv X pins σ H s):H s.heap.objs.size=none:=I.hok.fresh (yN _)
theorem Inv.lstM (I:Inv X pins σ H s)(hH:H l=some (.lst xs)):xs.length≤yL∧∃ (its:List Value) (n:Nat),Vals xs its∧xs.length=its.length∧s.heap.get? l=some {cls:=.type "list",data:=.seq its.toArray n}:=by
 obtain ⟨z,its,n,r,e⟩:=I.hok l _ hH
 exact ⟨z,its,n,r,r.length,e⟩
theorem zj5 {n:Nat}(h:n≤yL):kO n=false:=by
 unfold kO
 exact decide_eq_false (by omega)
end
section
variable {X:Cx}
noncomputable def zpo:V→List V→Hp→VK→Prop:=fun x vs H Q=>∃ l xs y,x= .ref l∧vs= [y]∧H l=some (.lst xs)∧xs.length < yL∧Q .non (upd H l (.lst (xs++ [y])))
theorem zbl:MtM X "list.append" zpo:=by
 intro pins s σ H x vs v us Q I rx rv h
 obtain ⟨l,xs,y,rfl,rfl,hH,hz,q⟩:=h
 cases rx
 obtain ⟨u,rfl,ru⟩:=rv.one
 obtain ⟨z,its,n,r,hl,e⟩:=I.lstM hH
 refine call_meets F.slot_list_append ⟨_,e,rfl⟩ F.entry_list_append (F.args_list_append_2 _ _) (PySem.list_append l its.toArray n u (by rw [yQ];omega)) ⟨e,?_⟩
 refine ⟨.non,_,I.lset (its':=its++ [u]) hH e (by simp) (r.append (.cons ru .nil)) ?_,rfl,q⟩
 rw [yJ,qO]
 omega
noncomputable def zor:V→List V→Hp→VK→Prop:=fun x vs H Q=>∃ l b xs zs,x= .ref l∧vs= [.ref b]∧H l=some (.lst xs)∧H b=some (.lst zs)∧xs.length+zs.length≤yL∧Q .non (upd H l (.lst (xs++zs)))
theorem zgt:MtM X "list.extend" zor:=by
 intro pins s σ H x vs v us Q I rx rv h
 obtain ⟨l,b,xs,zs,rfl,rfl,hH,hB,hz,q⟩:=h
 cases rx
 obtain ⟨u,rfl,ru⟩:=rv.one
 cases ru
 obtain ⟨z,its,n,r,hl,e⟩:=I.lstM hH
 obtain ⟨z2,its2,n2,r2,hl2,e2⟩:=I.lstM hB
 have hsz:its.toArray.size+its2.toArray.size≤yL:=by rw [yQ,yQ];omega
 have hlong:¬(!its.toArray.isEmpty && kO (its.toArray.size+its2.toArray.size))=true:=by
  rw [zj5 hsz,ya1]
  exact yY
 refine call_meets F.slot_list_extend ⟨_,e,rfl⟩ F.entry_list_extend (F.args_list_extend_2 _ _)
  (AutoSeq1.list_extend_list_list_0 l its.toArray n b its2.toArray n2 hlong (by rw [yQ];omega) (by omega)) ⟨e,e2,?_⟩
 refine ⟨.non,_,I.lset (its':=its++its2) hH e (by simp) (r.append r2) ?_,rfl,q⟩
 rw [yJ]
 omega
noncomputable def rCat:R2:=fun x y H Q=>∃ l b xs zs,x= .ref l∧y= .ref b∧H l=some (.lst xs)∧H b=some (.lst zs)∧xs.length+zs.length≤yL∧∀ p,H p=none→Q (.ref p) (upd H p (.lst (xs++zs)))
theorem zca:OpR X (binaryOp .Add) rCat:=by
 intro pins s σ H x y v u Q I rx ry h
 obtain ⟨l,b,xs,zs,rfl,rfl,hH,hB,hz,q⟩:=h
 cases rx
 cases ry
 obtain ⟨z,its,n,r,hl,e⟩:=I.lstM hH
 obtain ⟨z2,its2,n2,r2,hl2,e2⟩:=I.lstM hB
 refine PySem.P.add_list e e2 ?_ (by rw [yQ,yQ];omega)
 have ea:its.toArray++its2.toArray=(its++its2).toArray:=by simp
 rw [ea]
 exact ⟨.ref _,_,I.lnew (t':=s.toks) (r.append r2) (by rw [yJ];omega),rfl,q _ I.fresh⟩
noncomputable def rRep:R2:=fun x y H Q=>∃ l k xs,x= .ref l∧y= .int k∧H l=some (.lst xs)∧-(2 ^ 63)≤k∧k < 2 ^ 63∧xs.length * k.toNat≤yL∧
 ∀ p,H p=none→Q (.ref p) (upd H p (.lst (qH k.toNat xs).flatten))
theorem zos {α :Type}(xs:List α)(k:Nat):(qH k xs).flatten.length=k * xs.length:=by
 induction k with
 | zero=>simp
 | succ k ih=>rw [xE,kN,yJ,ih,Nat.succ_mul,Nat.add_comm]
theorem zlY:OpR X (binaryOp .Mult) rRep:=by
 intro pins s σ H x y v u Q I rx ry h
 obtain ⟨l,k,xs,rfl,rfl,hH,h1,h2,hz,q⟩:=h
 cases rx
 obtain ⟨t,rfl⟩:=ry
 obtain ⟨z,its,n,r,hl,e⟩:=I.lstM hH
 have hlen:its.toArray.size * k.toNat≤yL:=by rw [yQ,← hl];exact hz
 have hcap:¬its.toArray.size * k.toNat > (2 ^ 63 - 1) / 8:=by
  have:(yL:Nat)≤(2 ^ 63 - 1) / 8:=by decide
  omega
 have hfit:¬(!Builtin.List.listFitsIndex k)=true:=by
  rw [fitsIndex_both h1 h2]
  exact yY
 have hlong:¬kO (its.toArray.size * k.toNat)=true:=by
  rw [zj5 hlen]
  exact yY
 have hnew:yct (fun x1 x2=>x1++x2) #[] (qH (if its.toArray.isEmpty=true then 0 else k.toNat) its.toArray)=(qH k.toNat its).flatten.toArray:=by
  have f0:∀ m:Nat,yct (fun x1 x2=>x1++x2) #[] (qH m its.toArray)=(qH m its).flatten.toArray:=fun m=>by
   have:=ziy its m []
   rw [List.nil_append] at this
   exact this
  rw [f0]
  cases its with
  | nil=>simp
  | cons a r'=>rw [if_neg (by simp)]
 refine wpAny_binaryOp_repeat_ref (T:="list") (U:="int") (by decide) ⟨_,e,rfl⟩ (fun s'=>typeIs_int s' k t) noFill_list_mul F.fills_int_mul F.slot_int_rmul repeat_list F.slot_int_index.lookup
  (call_meets F.slot_int_rmul (typeIs_int s k t) F.entry_int_rmul (F.args_int_rmul_2 _ _) (int___rmul___int_list k t l its.toArray n)
   ⟨e,rfl,⟨_,e,rfl⟩,call_meets F.slot_list_mul ⟨_,e,rfl⟩ F.entry_list_mul (F.args_list_mul_2 _ _) (AutoListH.list___mul___list_int_3 l its.toArray n k t hfit hcap hlong) ⟨e,?_⟩⟩)
 rw [hnew]
 exact ⟨.ref _,_,I.lnew (t':=s.toks) (r.rep k.toNat) (by rw [zos,yaW];exact hz),rfl,q _ I.fresh⟩
end
section
variable {prog:Program} {w:World} {A:Around} {E:Value→Shared→Prop} {s:Shared}
end
section
variable {X:Cx}
end
section
variable {κ :Type} [DecidableEq κ]
noncomputable def valV (kvs:List (κ×V)) (k: κ):Option V:=(kvs.find? fun kv=>decide (kv.1=k)).map (·.2)
noncomputable def putK (kvs:List (κ×V)) (k: κ) (v:V):List (κ×V):=
 if (kvs.any fun kv=>decide (kv.1=k))=true then kvs.map (fun kv=>if kv.1=k then (kv.1,v) else kv) else kvs++ [(k,v)]
noncomputable def dropK (kvs:List (κ×V)) (k: κ):List (κ×V):=kvs.filter fun kv=>decide (kv.1≠k)
theorem zfw {p: κ×V}{r:List (κ×V)}{k: κ}(e:p.1=k):valV (p::r) k=some p.2:=by simp [valV,vS,e]
theorem zfx {p: κ×V}{r:List (κ×V)}{k: κ}(e:¬p.1=k):valV (p::r) k=valV r k:=by simp [valV,vS,e]
theorem zhp (k: κ):∀ kvs:List (κ×V),(kvs.any fun kv=>decide (kv.1=k))=(valV kvs k).isSome
 | []=>rfl
 | p::r=>by
  rw [yaG]
  by_cases e:p.1=k
  ·simp only [zfw e,decide_eq_true e,Bool.true_or,Option.isSome_some]
  ·rw [zfx e,decide_eq_false e,Bool.false_or];exact zhp k r
theorem zej (kvs:List (κ×V))(k: κ)(v:V):(putK kvs k v).length≤kvs.length+1:=by
 unfold putK
 split
 ·rw [yA];omega
 ·rw [yJ,qP,yal];omega
theorem zjP {kvs:List (κ×V)}{k: κ}(v:V)(h:valV kvs k=none):putK kvs k v=kvs++ [(k,v)]:=by
 unfold putK
 rw [zhp,h]
 exact if_neg (by decide)
theorem RelO.isSome_eq {o:Option V}{u:Option Value}(r:RelO o u):o.isSome=u.isSome:=by
 cases o with
 | none=>cases u with
  | none=>rfl
  | some _=>exact (show False from r).elim
 | some _=>cases u with
  | none=>exact (show False from r).elim
  | some _=>rfl
theorem RelO.getD {o:Option V}{u:Option Value}{d:V}{d':Value}(r:RelO o u)(rd:RelV d d'):RelV (o.getD d) (u.getD d'):=by
 cases o with
 | none=>cases u with
  | none=>exact rd
  | some _=>exact (show False from r).elim
 | some _=>cases u with
  | none=>exact (show False from r).elim
  | some _=>exact r
theorem KV.val {kvs:List (κ×V)}{vs:List (κ×Value)}(r:KV kvs vs)(k: κ):RelO (valV kvs k) (valueAt vs k):=by
 unfold KV at r
 induction r with
 | nil=>exact True.intro
 | @cons p q ps qs h t ih=>
  obtain ⟨h1,h2⟩:=h
  by_cases e:p.1=k
  ·have e':q.1=k:=h1.symm.trans e
   have b:valueAt (q::qs) k=some q.2:=by simp [valueAt,vS,e']
   rw [zfw e,b];exact h2
  ·have e':¬q.1=k:=fun z=>e (h1.trans z)
   have b:valueAt (q::qs) k=valueAt qs k:=by simp [valueAt,vS,e']
   rw [zfx e,b];exact ih
theorem KV.any {kvs:List (κ×V)}{vs:List (κ×Value)}(r:KV kvs vs)(k: κ):(kvs.any fun kv=>decide (kv.1=k))=vs.any fun kv=>decide (kv.1=k):=by
 unfold KV at r
 induction r with
 | nil=>rfl
 | cons h t ih=>rw [yaG,yaG,ih,h.1]
theorem KV.repl {kvs:List (κ×V)}{vs:List (κ×Value)}(r:KV kvs vs)(k: κ){y:V}{u:Value}(ry:RelV y u):
  KV (kvs.map fun kv=>if kv.1=k then (kv.1,y) else kv) (vs.map fun kv=>if kv.1=k then (kv.1,u) else kv):=by
 unfold KV at r ⊢
 induction r with
 | nil=>exact .nil
 | @cons p q ps qs h t ih=>
  rw [qW,qW]
  refine .cons ?_ ih
  obtain ⟨h1,h2⟩:=h
  by_cases e:p.1=k
  ·rw [if_pos e,if_pos (h1.symm.trans e)];exact ⟨h1,ry⟩
  ·rw [if_neg e,if_neg (fun z=>e (h1.trans z))];exact ⟨h1,h2⟩
theorem KV.put {kvs:List (κ×V)}{vs:List (κ×Value)}(r:KV kvs vs)(k: κ){y:V}{u:Value}(ry:RelV y u):KV (putK kvs k y) (stored vs k u):=by
 unfold putK stored
 rw [r.any k]
 by_cases e:(vs.any fun kv=>decide (kv.1=k))=true
 ·rw [if_pos e,if_pos e];exact r.repl k ry
 ·rw [if_neg e,if_neg e];exact ycl r ⟨rfl,ry⟩
theorem KV.drop {kvs:List (κ×V)}{vs:List (κ×Value)}(r:KV kvs vs)(k: κ):KV (dropK kvs k) (without vs k):=by
 unfold KV at r ⊢
 unfold dropK without
 induction r with
 | nil=>exact .nil
 | @cons p q ps qs h t ih=>
  obtain ⟨h1,h2⟩:=h
  rw [ycd,ycd]
  by_cases e:p.1=k
  ·have a:¬decide (p.1≠k)=true:=by simp [e]
   have b:¬decide (q.1≠k)=true:=by simp [h1.symm.trans e]
   rw [if_neg a,if_neg b];exact ih
  ·have e':¬q.1=k:=fun z=>e (h1.trans z)
   have a:decide (p.1≠k)=true:=by simp [e]
   have b:decide (q.1≠k)=true:=by simp [e']
   rw [if_pos a,if_pos b];exact .cons ⟨h1,h2⟩ ih
theorem KV.keys {kvs:List (κ×V)}{vs:List (κ×Value)}(r:KV kvs vs):kvs.map (·.1)=vs.map (·.1):=by
 unfold KV at r
 induction r with
 | nil=>rfl
 | cons h t ih=>rw [qW,qW,ih,h.1]
theorem KV.length {kvs:List (κ×V)}{vs:List (κ×Value)}(r:KV kvs vs):kvs.length=vs.length:=vV r
end
theorem zk8 {P:Program}{w:World}{k:Key}{u:Value}(r:RelV (kV k) u):(zaq P w).is k u=true:=by
 cases k with
 | inl i=>obtain ⟨t,e⟩:=(show ∃ t,u=Value.int i t from r);subst e;exact zjH P w i t
 | inr x=>obtain ⟨t,e⟩:=(show ∃ t,u=Value.str x t from r);subst e;exact zjw P w x t
theorem zh4 {P:Program}{w:World}:∀ {ks:List Key} {us:List Value},Vals (ks.map kV) us→ItemsAre (zaq P w) ks us
 | [],_,r=>by rw [yb8] at r;cases r;exact .nil
 | k::ks,_,r=>by
  rw [qW] at r
  cases r with
  | cons h t=>exact .cons (zk8 h) (zh4 t)
noncomputable abbrev KT (H:Hp):List (List Key×V)→List (List Key×Addr×Value)→Prop:=Paired fun p q=>p.1=q.1∧RdT H q.2.1 (p.1.map kV)∧RelV p.2 q.2.2
theorem KT.val {H:Hp}{kvs:List (List Key×V)}{xs:List (List Key×Addr×Value)}(r:KT H kvs xs)(k:List Key):RelO (valV kvs k) ((atKey xs k).map (·.2)):=by
 induction r with
 | nil=>exact True.intro
 | @cons p q ps qs h t ih=>
  obtain ⟨h1,_,h2⟩:=h
  by_cases e:p.1=k
  ·have e':q.1=k:=h1.symm.trans e
   have b:atKey (q::qs) k=some q.2:=by simp [atKey,vS,e']
   rw [zfw e,b];exact h2
  ·have e':¬q.1=k:=fun z=>e (h1.trans z)
   have b:atKey (q::qs) k=atKey qs k:=by simp [atKey,vS,e']
   rw [zfx e,b];exact ih
theorem KT.repl {H:Hp}{kvs:List (List Key×V)}{xs:List (List Key×Addr×Value)}(r:KT H kvs xs)(k:List Key){y:V}{u:Value}(ry:RelV y u):
  KT H (kvs.map fun kv=>if kv.1=k then (kv.1,y) else kv) (xs.map (putAt k u)):=by
 induction r with
 | nil=>exact .nil
 | @cons p q ps qs h t ih=>
  rw [qW,qW]
  refine .cons ?_ ih
  obtain ⟨h1,h2,h3⟩:=h
  unfold putAt
  by_cases e:p.1=k
  ·rw [if_pos e,if_pos (h1.symm.trans e)];exact ⟨h1,h2,ry⟩
  ·rw [if_neg e,if_neg (fun z=>e (h1.trans z))];exact ⟨h1,h2,h3⟩
theorem KT.put {H:Hp}{kvs:List (List Key×V)}{xs:List (List Key×Addr×Value)}(r:KT H kvs xs)(k:List Key){b:Addr}{y:V}{u:Value}(hb:RdT H b (k.map kV))(ry:RelV y u):
  KT H (putK kvs k y) (storedH xs k b u):=by
 have e:(kvs.any fun kv=>decide (kv.1=k))=(atKey xs k).isSome:=by
  rw [zhp,(r.val k).isSome_eq,ya7]
 unfold putK storedH
 rw [e]
 by_cases q:(atKey xs k).isSome=true
 ·rw [if_pos q,if_pos q];exact r.repl k ry
 ·rw [if_neg q,if_neg q];exact ycl r ⟨rfl,hb,ry⟩
theorem KT.keeps {H H':Hp}{kvs:List (List Key×V)}{xs:List (List Key×Addr×Value)}(r:KT H kvs xs)(ht:∀ b ys,RdT H b ys→RdT H' b ys):KT H' kvs xs:=
 Paired.mapP r fun _ _ z=>⟨z.1,ht _ _ z.2.1,z.2.2⟩
section
variable {P:Program} {w:World} {H:Hp} {h:Heap} {a:Addr}
theorem rd_of {u:HO}(ok:HOk P w H h)(e:Rd H a u):zbB P w H h a u:=e.ok ok
theorem zjJ {kvs:List (Key×V)}(ok:HOk P w H h)(e:Rd H a (.dK kvs)):kvs.length≤yL∧(a==sysModules)=false∧∃ vs,KV kvs vs∧h.DictOf (zaq P w) a vs:=
 show zbB P w H h a (.dK kvs) from rd_of ok e
theorem dk_of {kvs:List (Key×V)}(ok:HOk P w H h)(e:H a=some (.dK kvs)):kvs.length≤yL∧(a==sysModules)=false∧∃ vs,KV kvs vs∧h.DictOf (zaq P w) a vs:=zjJ ok (.inl e)
theorem zfV {ks:List Key}(ok:HOk P w H h)(e:RdT H a (ks.map kV)):(tupleKind (zaq P w)).is h ks a:=by
 obtain ⟨_,its,r,o,h1,h2,n,h3⟩:=(show zbB P w H h a (.tup (ks.map kV)) from Rd.ok (show Rd H a _ from e) ok)
 exact ⟨o,its.toArray,n,h1,h2,h3,by simpa using zh4 r⟩
theorem zjK {kvs:List (List Key×V)}(ok:HOk P w H h)(e:Rd H a (.dT kvs)):kvs.length≤yL∧(a==sysModules)=false∧
  ∃ xs,KT H kvs xs∧h.DictOfH (tupleKind (zaq P w)) a xs:=by
 obtain ⟨z,y,xs,r,o,es,ep,h1,h2,h3,h4,h5⟩:=(show zbB P w H h a (.dT kvs) from rd_of ok e)
 refine ⟨z,y,xs,r,o,es,ep,h1,h2,h3,h4,fun x hx=>?_,h5⟩
 have all:∀ {l:List (List Key×V)} {m:List (List Key×Addr×Value)},KT H l m→∀ x∈m,(tupleKind (zaq P w)).is h x.1 x.2.1:=by
  intro l m q
  induction q with
  | nil=>intro x hx;exact nomatch hx
  | @cons p q ps qs hq t ih=>
   intro x hx
   rcases yO.mp hx with e | hx
   ·subst e
    exact zfV ok (by rw [← hq.1];exact hq.2.1)
   ·exact ih x hx
 exact all r x hx
theorem dt_of {kvs:List (List Key×V)}(ok:HOk P w H h)(e:H a=some (.dT kvs)):kvs.length≤yL∧(a==sysModules)=false∧
  ∃ xs,KT H kvs xs∧h.DictOfH (tupleKind (zaq P w)) a xs:=zjK ok (.inl e)
end
noncomputable def DGet (H:Hp) (a:Addr) (y:V) (r:Option V):Prop:=
 (∃ kvs k,Rd H a (.dK kvs)∧y=kV k∧r=valV kvs k)∨∃ kvs k b,Rd H a (.dT kvs)∧y= .ref b∧RdT H b (k.map kV)∧r=valV kvs k
noncomputable def DPut (H:Hp) (a:Addr) (y v:V) (H':Hp):Prop:=
 (∃ kvs k,H a=some (.dK kvs)∧y=kV k∧kvs.length < yL∧H'=upd H a (.dK (putK kvs k v)))∨
 ∃ kvs k b,H a=some (.dT kvs)∧y= .ref b∧RdT H b (k.map kV)∧kvs.length < yL∧H'=upd H a (.dT (putK kvs k v))
theorem DGet.k {H:Hp}{a:Addr}{kvs:List (Key×V)}{k:Key}(e:H a=some (.dK kvs)):DGet H a (kV k) (valV kvs k):=.inl ⟨kvs,k,.inl e,rfl,rfl⟩
theorem DGet.t {H:Hp}{a b:Addr}{kvs:List (List Key×V)}{k:List Key}(e:H a=some (.dT kvs))(eb:H b=some (.tup (k.map kV))):DGet H a (.ref b) (valV kvs k):=.inr ⟨kvs,k,b,.inl e,rfl,.inl eb,rfl⟩
theorem DPut.k {H:Hp}{a:Addr}{kvs:List (Key×V)}{k:Key}{v:V}(e:H a=some (.dK kvs))(hl:kvs.length < yL):DPut H a (kV k) v (upd H a (.dK (putK kvs k v))):=.inl ⟨kvs,k,e,rfl,hl,rfl⟩
theorem DPut.t {H:Hp}{a b:Addr}{kvs:List (List Key×V)}{k:List Key}{v:V}(e:H a=some (.dT kvs))(eb:H b=some (.tup (k.map kV)))(hl:kvs.length < yL):
  DPut H a (.ref b) v (upd H a (.dT (putK kvs k v))):=.inr ⟨kvs,k,b,e,rfl,.inl eb,hl,rfl⟩
section
variable {X:Cx} {pins:List (Addr×Obj)} {σ :St} {H:Hp} {s:Shared} {a:Addr} {y v:V} {u r:Value} {o:Option V} {A:Around} {E:Value→Shared→Prop}
theorem Inv.big (I:Inv X pins σ H s):sysModules < s.heap.objs.size:=by
 have h:qM < s.heap.objs.size:=(I.mod.glob.keeps I.bk).lt
 exact Nat.lt_trans (by decide) h
theorem zmx {Q:Value→Shared→Prop}(hu:A.units+1 < cLine)(I:Inv X pins σ H s)(g:DGet H a y (some v))(ry:RelV y u)(h:∀ w' s',Inv X pins σ H s'→RelV v w'→Q w' s'):
  wpAny (model X.prog X.w) A (getItem (.ref a) u) Q E s:=by
 rcases g with ⟨kvs,k,e,ey,l⟩ | ⟨kvs,k,b,e,ey,eb,l⟩
 ·subst ey
  obtain ⟨z,hd,vs,rel,dd⟩:=zjJ I.hok e
  obtain ⟨w',hw,rw'⟩:=RelO.some_of (v:=v) (o:=valueAt vs k) (by rw [l];exact rel.val k)
  exact wpAny_getItem_of (zk8 ry) dd.mapOf hw (h w' _ (I.tok _) rw')
 ·subst ey
  cases (show u=Value.ref b from ry)
  obtain ⟨z,hd,xs,rel,dd⟩:=zjK I.hok e
  obtain ⟨w',hw,rw'⟩:=RelO.some_of (v:=v) (o:=(atKey xs k).map (·.2)) (by rw [l];exact rel.val k)
  obtain ⟨p,hp,hp2⟩:=jQ.mp hw
  refine wpAny_getItem_heap (tupleKind_room_in1 hu) (zfV I.hok eb) dd hp ?_
  rw [hp2]
  exact h w' _ (I.tok _) rw'
theorem d_in {Q:Value→Shared→Prop}(hu:A.units+1 < cLine)(I:Inv X pins σ H s)(g:DGet H a y o)(ry:RelV y u)(h:∀ s',Inv X pins σ H s'→Q (.bool o.isSome) s'):
  wpAny (model X.prog X.w) A (compareOp .In u (.ref a)) Q E s:=by
 rcases g with ⟨kvs,k,e,ey,l⟩ | ⟨kvs,k,b,e,ey,eb,l⟩
 ·subst ey
  obtain ⟨z,hd,vs,rel,dd⟩:=zjJ I.hok e
  refine wpAny_in_of (zk8 ry) hd dd.mapOf ?_
  rw [← (rel.val k).isSome_eq,← l]
  exact h _ (I.tok _)
 ·subst ey
  cases (show u=Value.ref b from ry)
  obtain ⟨z,hd,xs,rel,dd⟩:=zjK I.hok e
  refine wpAny_in_heap (tupleKind_room_in1 hu) (zfV I.hok eb) hd dd ?_
  have q:=(rel.val k).isSome_eq
  rw [ya7] at q
  rw [← q,← l]
  exact h _ (I.tok _)
theorem zoL {Q:Value→Shared→Prop}(hu:A.units+1 < cLine)(I:Inv X pins σ H s)(g:DGet H a y o)(ry:RelV y u)(h:∀ s',Inv X pins σ H s'→Q (.bool (!o.isSome)) s'):
  wpAny (model X.prog X.w) A (compareOp .NotIn u (.ref a)) Q E s:=by
 rcases g with ⟨kvs,k,e,ey,l⟩ | ⟨kvs,k,b,e,ey,eb,l⟩
 ·subst ey
  obtain ⟨z,hd,vs,rel,dd⟩:=zjJ I.hok e
  refine wpAny_notIn_of (zk8 ry) hd dd.mapOf ?_
  rw [← (rel.val k).isSome_eq,← l]
  exact h _ (I.tok _)
 ·subst ey
  cases (show u=Value.ref b from ry)
  obtain ⟨z,hd,xs,rel,dd⟩:=zjK I.hok e
  refine wpAny_notIn_heap (tupleKind_room_in1 hu) (zfV I.hok eb) hd dd ?_
  have q:=(rel.val k).isSome_eq
  rw [ya7] at q
  rw [← q,← l]
  exact h _ (I.tok _)
theorem zl9 {h':Heap}{t':Nat}{ob:HO}(I:Inv X pins σ H s)(mu:Mut (H a))(hs:jB a s.heap h')(he:∃ q,h'.get? a=some q)(new:zbB X.prog X.w (upd H a ob) h' a ob):
  Inv X pins σ (upd H a ob) {s with heap:=h',toks:=t'}:=
 I.write (x:=a) (e:=a) mu (.inl rfl) (fun b q hb z=>(hs.2 b hb).trans z) he new
theorem dk_new {P:Program}{w:World}{H':Hp}{h':Heap}{kvs:List (Key×V)}{vs:List (Key×Value)}(z:kvs.length≤yL)(hd:(a==sysModules)=false)(rel:KV kvs vs)(dd:h'.DictOf (zaq P w) a vs):
  zbB P w H' h' a (.dK kvs):=⟨z,hd,vs,rel,dd⟩
theorem zmf {H':Hp}{Q:Unit→Shared→Prop}(hu:A.units+1 < cLine)(I:Inv X pins σ H s)(g:DPut H a y v H')(ry:RelV y u)(rv:RelV v r)(h:∀ s',Inv X pins σ H' s'→Q () s'):
  wpAny (model X.prog X.w) A (setItem (.ref a) u r) Q E s:=by
 rcases g with ⟨kvs,k,e,ey,l,eH⟩ | ⟨kvs,k,b,e,ey,eb,l,eH⟩
 ·subst ey eH
  obtain ⟨z,hd,vs,rel,dd⟩:=dk_of I.hok e
  have hz:vs.length≤yL:=by rw [← rel.length];exact z
  have hl:(putK kvs k v).length≤yL:=by have:=zej kvs k v;omega
  refine wpAny_setItem_pairs (hsz:=hz) (zk8 ry) dd fun h' dd' hs=>h _ ?_
  have he:∃ q,h'.get? a=some q:=let ⟨q,_,_,hq,_⟩:=dd';⟨q,hq⟩
  exact zl9 I (by rw [e];exact True.intro) hs he (dk_new hl hd (rel.put k rv) dd')
 ·subst ey eH
  cases (show u=Value.ref b from ry)
  obtain ⟨z,hd,xs,rel,dd⟩:=dt_of I.hok e
  have hz:xs.length≤yL:=by rw [← vV rel];exact z
  have hl:(putK kvs k v).length≤yL:=by have:=zej kvs k v;omega
  refine wpAny_setItem_heap (hsz:=hz) (tupleKind_room_in1 hu) (zfV I.hok eb) dd fun h' dd' hs=>h _ ?_
  obtain ⟨q,es,ep,hq,h2,h3,h4,_,h5⟩:=dd'
  refine zl9 I (by rw [e];exact True.intro) hs ⟨q,hq⟩ ⟨hl,hd,_,(rel.put k eb rv).keeps fun c ys ec=>ec.keep fun u eu hu=>?_,q,es,ep,hq,h2,h3,h4,h5⟩
  rw [zak (znC eu e (fun z=>by obtain ⟨ys,hu | ⟨_,hu⟩⟩:=hu <;> (rw [hu] at z;cases z)))]
  exact eu
end
section
variable {X:Cx} {pins:List (Addr×Obj)} {σ :St} {H:Hp} {s:Shared} {a:Addr} {kvs:List (Key×V)} {k:Key} {u:Value} {A:Around} {E:Value→Shared→Prop}
end
noncomputable def NoSl (i:Expr):Prop:=∀ ov iv,subscripted i false ov iv=operate [ov,iv] (getItem ov iv)
theorem zoz {prog:Program}{w:World}{A:Around}{E:Value→Shared→Prop}{s:Shared}{env:Env}{value slice:Expr}{pos:Pos}{T id:String}{Q:Value→Shared→Prop}
  (hl:typeLookup (.type T) "__getitem__" =pure (some (.builtin id))) (hs:NoSl slice)
  (h:wpAny (model prog w) A (eval value env) (fun o s₁ =>wpAny (model prog w) A (eval slice env) (fun i s₂ =>s₂.TypeIs o T∧wpAny (model prog w) A (getItem o i) Q E s₂) E s₁) E s):
  wpAny (model prog w) A (eval (.Subscript value slice pos) env) Q E s:=by
 refine Subscript_ (wpAny_mono h (fun o s₁ h₁ =>wpAny_mono h₁ (fun i s₂ h₂ =>?_) fun _ _ x=>x) fun _ _ x=>x)
 obtain ⟨hT,h₂⟩:=h₂
 unfold subscriptTail
 refine yB ?_
 rw [getitemInPython_of_ne hT.not_modules]
 refine yB (wpAny_specialOf hT hl ?_)
 have fin:wpAny (model prog w) A (subscripted slice false o i) (fun r s₃ =>wpAny (model prog w) A (letTemporaryGo value o r >>=fun _=>pure r) Q E s₃) E s₂ :=by
  rw [hs o i]
  exact wpAny_operating (wpAny_mono h₂ (fun r s₃ h₃ =>yB (wpAny_letTemporaryGo (yD h₃))) fun _ _ x=>x)
 first
  | exact yD (yB fin)
  | exact yB (yD (yB fin))
  | exact yB fin
theorem zjG {X:Cx}{pins:List (Addr×Obj)}{σ :St}{H:Hp}{s:Shared}{a:Addr}{y:V}{o:Option V}(I:Inv X pins σ H s)(g:DGet H a y o):s.TypeIs (.ref a) "dict" :=by
 rcases g with ⟨kvs,k,e,_,_⟩ | ⟨kvs,k,b,e,_,_,_⟩
 ·obtain ⟨_,_,vs,_,dd⟩:=zjJ I.hok e
  exact dd.typeIs
 ·obtain ⟨_,_,xs,_,dd⟩:=zjK I.hok e
  exact dd.typeIs
noncomputable def tDGet (td ty:TE):TE:=fun σ H Q=>td σ H fun x H1=>ty σ H1 fun y H2=>∃ a v,x= .ref a∧DGet H2 a y (some v)∧Q v H2
noncomputable def tDIn (ty td:TE):TE:=fun σ H Q=>ty σ H fun y H1=>td σ H1 fun x H2=>∃ a o,x= .ref a∧DGet H2 a y o∧Q (.bl o.isSome) H2
noncomputable def zmn (ty td:TE):TE:=fun σ H Q=>ty σ H fun y H1=>td σ H1 fun x H2=>∃ a o,x= .ref a∧DGet H2 a y o∧Q (.bl (!o.isSome)) H2
noncomputable def sDPut (td ty tv:TE):TS:=fun D σ H=>tv σ H fun v H1=>td σ H1 fun x H2=>ty σ H2 fun y H3=>∃ a H4,x= .ref a∧DPut H3 a y v H4∧D.nx σ H4
section
variable {X:Cx} {o i e value:Expr} {pos pos' tpos:Pos} {td ty tv:TE}
theorem zpE (hu:X.A.units+1 < cLine)(ho:PE X o td)(hi:PE X i ty)(hs:NoSl i):PE X (.Subscript o i pos) (tDGet td ty):=by
 intro pins s σ H Q I h
 refine zoz PySem.F.slot_dict_getitem.lookup hs (thn (ho pins s σ H _ I h) fun u s1 ⟨x,H1,I1,rx,q1⟩=>thn (hi pins s1 σ H1 _ I1 q1) fun iv s2 ⟨y,H2,I2,ry,a,v,ex,g,q2⟩=>?_)
 subst ex
 obtain rfl:u=Value.ref a:=rx
 exact ⟨zjG I2 g,zmx hu I2 g ry fun w' s3 I3 rw'=>⟨v,H2,I3,rw',q2⟩⟩
theorem pc_din (hu:X.A.units+1 < cLine)(hi:PE X i ty)(ho:PE X o td):PC X .In i o (tDIn ty td):=by
 intro pins s σ H Q I h
 refine thn (hi pins s σ H _ I h) fun iv s1 ⟨y,H1,I1,ry,q1⟩=>thn (ho pins s1 σ H1 _ I1 q1) fun u s2 ⟨x,H2,I2,rx,a,ov,ex,g,q2⟩=>?_
 subst ex
 obtain rfl:u=Value.ref a:=rx
 exact d_in hu I2 g ry fun s3 I3=>⟨.bl ov.isSome,H2,I3,rfl,q2⟩
theorem zmH (hu:X.A.units+1 < cLine)(hi:PE X i ty)(ho:PE X o td):PC X .NotIn i o (zmn ty td):=by
 intro pins s σ H Q I h
 refine thn (hi pins s σ H _ I h) fun iv s1 ⟨y,H1,I1,ry,q1⟩=>thn (ho pins s1 σ H1 _ I1 q1) fun u s2 ⟨x,H2,I2,rx,a,ov,ex,g,q2⟩=>?_
 subst ex
 obtain rfl:u=Value.ref a:=rx
 exact zoL hu I2 g ry fun s3 I3=>⟨.bl (!ov.isSome),H2,I3,rfl,q2⟩
theorem zox (hu:X.A.units+1 < cLine)(ho:PE X o td)(hi:PE X i ty)(hv:PE X value tv)(hs:swapsWith value (some (.Subscript o i pos')) pos.line X.env=pure false):
  PS X (.Assign [.Subscript o i pos'] value pos) (sDPut td ty tv):=by
 intro pins s σ H D I h
 refine wpAny_Assign_Subscript (thn (hv pins s σ H _ I h) fun r s1 ⟨v,H1,I1,rv,q1⟩=>thn (ho pins s1 σ H1 _ I1 q1) fun u s2 ⟨x,H2,I2,rx,q2⟩=>thn (hi pins s2 σ H2 _ I2 q2) fun iv s3 ⟨y,H3,I3,ry,a,H4,ex,g,q3⟩=>?_) hs
 subst ex
 obtain rfl:u=Value.ref a:=rx
 exact zmf hu I3 g ry rv fun s4 I4=>⟨σ,H4,I4,q3⟩
end
theorem znE {P:Program}{w:World}{H:Hp}(h:Heap)(hb:sysModules < h.objs.size):zbB P w H (h.push {cls:=.type "dict",data:=.dict #[]}) h.objs.size (.dT []):=
 ⟨qN _,beq_eq_false_iff_ne.mpr (xU (qC hb)),[],.nil,_,#[],0,yW _ rfl,⟨rfl,rfl,rfl⟩,rfl,rfl,xG⟩
noncomputable def zob:TE:=fun _ H Q=>∀ p,H p=none→Q (.ref p) (upd H p (.dT []))
section
variable {X:Cx} {pos:Pos}
theorem znc:PE X (.Dict [] [] pos) zob:=fun pins s σ H Q I h=>
 wpAny_Dict_empty ⟨.ref s.heap.objs.size,_,I.laid (a:=s.heap.objs.size) (o:=.dT []) (t':=s.toks) (fun _ _ q=>yH _ q) (yN _) (znE s.heap I.big),rfl,h _ (I.hok.fresh (yN _))⟩
end
noncomputable def mergeK (kvs more:List (Key×V)):List (Key×V):=more.foldl (fun acc kv=>putK acc kv.1 kv.2) kvs
theorem KV.merge:∀ {more:List (Key×V)} {rs:List (Key×Value)} {kvs:List (Key×V)} {vs:List (Key×Value)},KV more rs→KV kvs vs→KV (mergeK kvs more) (merged vs rs):=by
 intro more rs kvs vs r
 unfold KV at r
 induction r generalizing kvs vs with
 | nil=>intro q;exact q
 | @cons p q ps qs h t ih=>
  intro r0
  have e:KV (putK kvs p.1 p.2) (stored vs q.1 q.2):=by
   have:=r0.put p.1 h.2
   rw [← h.1];exact this
  exact ih e
structure M2 (X:Cx) (o:Expr) (m:Str) (apos:Pos) (e f:Expr) (cpos:Pos):Prop where
 base:attributeBase o m X.env (eval o X.env)=eval o X.env
 few:((backTo cpos (starEach [e,f] X.env)).all (fun x=>!x.1) && (backToKw cpos (keywordEach [] X.env)).all (fun x=>x.1.isSome)
  && decide (([e,f]:List Expr).length+([]:List Keyword).length+(if ([]:List Keyword).isEmpty then 0 else 1) < 30))=true
 line:(apos.endLine==cpos.line)=true
 trees:backTo cpos (starEach [e,f] X.env)= [(false,eval e X.env),(false,eval f X.env)]
noncomputable def IsD (H:Hp) (a:Addr):Prop:=(∃ kvs,Rd H a (.dK kvs))∨∃ kvs,Rd H a (.dT kvs)
theorem isD_at {X:Cx}{pins:List (Addr×Obj)}{σ :St}{H:Hp}{s:Shared}{a:Addr}(I:Inv X pins σ H s)(d:IsD H a):
  s.TypeIs (.ref a) "dict"∧(∀ b,Value.ref a= .ref b→∃ ob,s.heap.get? b=some ob∧ob.dict=none)∧(a==sysModules)=false:=by
 rcases d with ⟨kvs,e⟩ | ⟨kvs,e⟩
 ·obtain ⟨_,hd,vs,_,dd⟩:=zjJ I.hok e
  refine ⟨dd.typeIs,fun b q=>?_,hd⟩
  cases q
  obtain ⟨ob,_,_,h1,h2,_⟩:=dd
  exact ⟨ob,h1,h2.2.1⟩
 ·obtain ⟨_,hd,xs,_,dd⟩:=zjK I.hok e
  refine ⟨dd.typeIs,fun b q=>?_,hd⟩
  cases q
  obtain ⟨ob,_,_,h1,h2,_⟩:=dd
  exact ⟨ob,h1,h2.2.1⟩
section
variable {X:Cx} {pins:List (Addr×Obj)} {σ :St} {H:Hp} {s:Shared} {a:Addr} {y d:V} {u r:Value} {o:Option V} {A:Around} {E:Value→Shared→Prop}
theorem d_get2 {Q:Value→Shared→Prop}(hu:A.units+1 < cLine)(I:Inv X pins σ H s)(g:DGet H a y o)(ry:RelV y u)(rd:RelV d r)(h:∀ w' s',Inv X pins σ H s'→RelV (o.getD d) w'→Q w' s'):
  wpAny (model X.prog X.w) A (call (.builtin "dict.get") [.ref a,u,r]) Q E s:=by
 rcases g with ⟨kvs,k,e,ey,l⟩ | ⟨kvs,k,b,e,ey,eb,l⟩
 ·subst ey
  obtain ⟨z,hd,vs,rel,dd⟩:=zjJ I.hok e
  refine call_meetsIn yaz dd.typeIs ybn (ybd _ _ _) (meets_dict_get_default (zaq X.prog X.w) a (zk8 ry) hd r) ⟨_,dd.mapOf,h _ _ (I.tok _) ?_⟩
  rw [l]
  exact (rel.val k).getD rd
 ·subst ey
  cases (show u=Value.ref b from ry)
  obtain ⟨z,hd,xs,rel,dd⟩:=zjK I.hok e
  refine call_meetsIn yaz dd.typeIs ybn (ybd _ _ _) (meetsH_dict_get_default (tupleKind (zaq X.prog X.w)) a b hd r) ⟨tupleKind_room_in1 hu,k,xs,zfV I.hok eb,dd,h _ _ (I.tok _) ?_⟩
  rw [l]
  exact (rel.val k).getD rd
end
noncomputable def zoj (td ty tx:TE):TE:=fun σ H Q=>td σ H fun x H1=>∃ a,x= .ref a∧IsD H1 a∧ty σ H1 fun y H2=>tx σ H2 fun z H3=>∃ o,DGet H3 a y o∧Q (o.getD z) H3
section
variable {X:Cx} {o e f:Expr} {apos cpos:Pos} {td ty tx:TE}
theorem znM (hu:X.A.units+1 < cLine)(ho:PE X o td)(he:PE X e ty)(hf:PE X f tx)(m:M2 X o "get" apos e f cpos):PE X (.Call (.Attribute o "get" apos) [e,f] [] cpos) (zoj td ty tx):=by
 intro pins s σ H Q I h
 refine wpAny_Call_method m.base m.few m.line ybe yaz PySem.F.type_dict_get (thn (ho pins s σ H _ I h) fun u s1 ⟨x,H1,I1,rx,a,ex,d,q1⟩=>?_)
 subst ex
 obtain rfl:u=Value.ref a:=rx
 obtain ⟨t1,t2,_⟩:=isD_at I1 d
 refine ⟨t1,t2,?_⟩
 rw [m.trees]
 refine wG rfl (yaF (vL (thn (he pins s1 σ H1 _ I1 q1) fun iv s2 ⟨y,H2,I2,ry,q2⟩=>
  vL (thn (hf pins s2 σ H2 _ I2 q2) fun fv s3 ⟨z,H3,I3,rz,ov,g,q3⟩=>kH ?_))))
 exact d_get2 hu I3 g ry rz fun w' s4 I4 rw'=>⟨_,H3,I4,rw',q3⟩
end
section
variable {X:Cx} {pins:List (Addr×Obj)} {σ :St} {H:Hp} {s:Shared} {a:Addr} {kvs:List (Key×V)} {A:Around} {E:Value→Shared→Prop}
end
section
variable {X:Cx} {pins:List (Addr×Obj)} {σ :St} {H:Hp} {s:Shared} {a:Addr} {y:V} {u:Value} {A:Around} {E:Value→Shared→Prop}
end
end L2
namespace Att
open PySem PySem.W PySem.Calls PyProof.Rows
theorem zgj {P:Params}{h:Heap}:∀ (ns:List Int) (vs:List Value),WellAll P h vs (ns.map WData.int)→IntsAre vs ns:=by
 intro ns
 induction ns with
 | nil=>
  intro vs w
  rw [yb8] at w
  cases w
  exact .nil
 | cons n ns ih=>
  intro vs w
  rw [qW] at w
  cases w with
  | cons a b=>
   cases a
   exact .cons _ _ (ih _ b)
theorem zmU {l:OpenLaw}{n:Nat}(hn:l.most=some n){P:Params}{h:Heap}{args:List WData}{vals:List Value}
  (hpre:l.row.toRowW.claim.pre args=true) (hwl:WellAll P h vals args):
  ∃ a vs ns,vals= [Value.ref a]∧args= [WData.list (ns.map WData.int)]∧h.get? a=some {cls:=.type "list",data:=.seq vs.toArray}∧IntsAre vs ns∧ns.length≤n:=by
 have hsh:WShape.hasAll [] args [.list .int]=true:=(pre_splitW hpre).1
 have hc:l.pre.holds [] {args:=args}=true:=(pre_splitW hpre).2
 obtain ⟨d,r,rfl,h1,h2⟩:=hasAllW_cons hsh
 obtain rfl:=hasAllW_nil h2
 obtain ⟨xs,rfl,h3⟩:=hasW_list h1
 obtain ⟨ns,rfl⟩:=items_int h3
 have hlen:ns.length≤n:=by
  unfold OpenLaw.pre at hc
  have h4:(WTm.not (.lt (.lit (.int (n:Int))) (.len (.arg 0)))).holds [] {args:=[.list (ns.map .int)]}=true:=by
   have h4:=(holds_andW hc).1
   rw [hn] at h4
   exact h4
  have h5:=condW_of h4 (w_not (w_lt w_lit (w_len_list (w_arg rfl))))
  rw [yA] at h5
  refine Nat.le_of_not_lt fun q=>?_
  have q':(n:Int) < ((ns.length:Nat):Int):=by omega
  first
   | (rw [decide_eq_true q'] at h5;exact absurd h5 (by decide))
   | (simp at h5;omega)
 cases hwl with
 | cons w1 w2=>
  cases w2
  cases w1 with
  | list ho hall=>exact ⟨_,_,ns,rfl,rfl,ho,zgj ns _ hall,hlen⟩
theorem zmA (l:OpenLaw)(args:List WData):l.row.toRowW.claim.post args (.bool true) args=true:=
 postW_of (r:=l.row.toRowW) (X:=(true==true))
  (show WShape.has [] (.bool true) .bool=true by first | rfl | decide | simp [WShape.has,WShape.arms,WShape.armsAll])
  (show (WTm.eq .res (.lit (.bool true))).value [] {args:=args,res:=some (.bool true),after:=args}=some (.bool (true==true)) from w_eq_bool (w_res rfl) w_lit) rfl
theorem attach_call {l:OpenLaw}{n:Nat}{q:Program}{loose:List Str}{XP:(Str→Option Value)→Heap→Prop}{YP:World→Heap→Prop}{d:DefRec}
  (hn:l.most=some n) (hdf:d.params.defaults= [])
  (call:∀ (w:World) (s₀ s₁ :Shared) (mg mb:Str→Option Value) (fa:Addr) (o:Obj) (pm cd doc:Value) (a:Addr) (vs:List Value) (ns:List Int),
   Ground q loose [] XP w s₀ mg mb s₁.heap→YP w s₁.heap→
   s₁.heap.get? fa=some o→o.data= .func (docDef d.name d.params d.body d.scope pm cd doc)→s₁.heap.CodeRec cd d.name→mg d.name=some (.ref fa)→
   s₁.heap.get? a=some {cls:=.type "list",data:=.seq vs.toArray}→IntsAre vs ns→ns.length≤n→s₁.gens= #[]→
   codeAny (model l.prog w) callerA (.call (.ref fa) ⟨[.ref a],[]⟩) (fun r s'=>r= .ok (.ret (.bool true))∧OldK s₁.heap s'.heap∧s'.os=s₁.os∧AllBare s'.gens) s₁):
  WalkO q loose XP YP l.row.toRowW d [] (fun f vs=>ycu f vs):=by
 intro w s₀ s₁ mg mb G Y fa o pm cd doc dV kV ho hd hcd hD hmg hg args vals as hpre hlay hrd hwl hlo
 obtain rfl:dV= .none:=Dflts.none hD hdf
 obtain rfl:kV= .none:=Dflts.noKw hD
 obtain ⟨a,vs,ns,rfl,rfl,hobj,hints,hlen⟩:=zmU hn hpre hwl
 refine enter_call (codeAny_mono (call w s₀ s₁ mg mb fa o pm cd doc a vs ns G Y ho (fd_plain hd) hcd hmg hobj hints hlen hg) fun r s' hq=>?_)
 obtain ⟨rfl,h2,h3,h4⟩:=hq
 exact ⟨.inl ⟨.bool true,.bool true,[],rfl,fun _=>rfl,.bool true,zmA l _,fun _=>⟨List.Pairwise.nil,fun _ hm=>(nomatch hm)⟩⟩,h2,h3,h4⟩
section
variable {prog:Program} {w:World} {A:Around} {E:Value→Shared→Prop} {s:Shared} {K:Frag}
end
end Att
namespace L2
open PySem PySem.Spec PyProof.Rows
theorem zib:∀ {vs:List Value} {ns:List Int},IntsAre vs ns→Vals (ns.map V.int) vs
 | _,_,.nil=>.nil
 | _,_,.cons n t h=>.cons ⟨t,rfl⟩ (zib h)
noncomputable def Only (H:Hp):Prop:=∀ b,H b=none∨∃ o xs,H b=some (.frz o (.lst xs))
theorem znK {P:Program}{w:World}{K:PySem.W.Frag}{mg mb:Str→Option Value}{CX:CXT}{k:Nat}{fa a:Addr}{fd:FuncData}{x:Str}{sp:Sp}{s₁ :Shared}{vs:List Value}{ns:List Int}
  (KX:K.In s₁.heap) (hns:s₁.heap.Ns qM mg) (hb:s₁.heap.Ns builtinsNs mb) (hbb:∀ x:Str,x≠"__name__"→mb x=bootBuiltins x) (hlim:s₁.heap.NoLimit) (hg:s₁.gens= #[])
  (ha:s₁.heap.get? a=some {cls:=.type "list",data:=.seq vs.toArray}) (hi:IntsAre vs ns) (hl:ns.length≤yL) (hr:Room k callerA)
  (F:∀ base:Heap,K.In base→base.Ns qM mg→FnOk P w K mg base CX k fa fd [x] sp) (hbind:∀ (s:Shared) (u:Value),BindsTo s fd ⟨[u],[]⟩ [(x,u)])
  (hsp:∀ H:Hp,Only H→SqL K H a (ns.map V.int)→sp [.ref a] H (fun v _=>v= .bl true) fun _ _ _=>False)
  (hCX:∀ H e s',CX [] H s₁ (fun _ _ _=>False) e s'→False):
  codeAny (model P w) callerA (.call (.ref fa) ⟨[.ref a],[]⟩) (fun r s'=>r= .ok (.ret (.bool true))∧OldK s₁.heap s'.heap∧s'.os=s₁.os∧AllBare s'.gens) s₁ :=by
 have rv:=zib hi
 have lenV:=hi.length
 have core:∀ H:Hp,Only H→SqL K H a (ns.map V.int)→HOk P w H s₁.heap→(∀ b,H b≠none→b=a)→(H a≠none→K.lookup a=none)→
   codeAny (model P w) callerA (.call (.ref fa) ⟨[.ref a],[]⟩) (fun r s'=>r= .ok (.ret (.bool true))∧OldK s₁.heap s'.heap∧s'.os=s₁.os∧AllBare s'.gens) s₁ :=by
  intro H hO hS hok hA hK
  have base_of:∀ {b:Addr} {o:Obj},s₁.heap.get? b=some o→H b=none→(hidT s₁.heap H).get? b=some o:=fun e n=>zns e n
  have noA:∀ {b:Addr} {o:Obj} {es:Array DictEntry} {ep:Nat},s₁.heap.get? b=some o→o.data= .dict es ep→H b=none:=fun {b o es ep} e d=>by
   cases q:H b with
   | none=>rfl
   | some u=>
    have e':b=a:=hA b (by rw [q];simp)
    subst e'
    rw [ha] at e;cases e
    have d':Data.seq vs.toArray _=Data.dict es ep:=d
    cases d'
  have nsK:∀ {b:Addr} {m:Str→Option Value},s₁.heap.Ns b m→(hidT s₁.heap H).Ns b m:=fun {b m} ⟨o,es,ep,e,d,r⟩=>⟨o,es,ep,base_of e (noA e d),d,r⟩
  have hKb:K.In (hidT s₁.heap H):=fun b o e=>base_of (KX b o e) (by
   cases q:H b with
   | none=>rfl
   | some u=>
    have e':b=a:=hA b (by rw [q];simp)
    subst e'
    rw [hK (by rw [q];simp)] at e;cases e)
  have hM:Mod K mg (hidT s₁.heap H):=⟨hKb,nsK hns,⟨mb,nsK hb,hbb⟩,let ⟨mc,h1,h2⟩:=hlim;⟨mc,nsK h1,h2⟩⟩
  have e0:Env0 P w K mg (hidT s₁.heap H) callerA [] s₁ H:=⟨rfl,hM,fun b o e=>zpm e,Nat.le_of_eq (zlJ _ _),trivial,fun b hb=>absurd (show b∈([]:List Addr) from hb) (by simp),hok,.of_eq hg⟩
  refine codeAny_mono ((F _ hKb (nsK hns)).run callerA [] s₁ H ⟨[.ref a],[]⟩ [.ref a] [.ref a] _ _ hr e0 (hbind s₁ (.ref a)) (.cons rfl .nil) (hsp H hO hS)) fun r s' h=>?_
  cases r with
  | error e=>exact (hCX H e s' h).elim
  | ok fl=>
   cases fl with
   | next=>exact kE h
   | brk=>exact kE h
   | cont=>exact kE h
   | ret u=>
    obtain ⟨v,H',os,bare,un,hok',r',q⟩:=h
    have q':v= .bl true:=q
    subst q'
    obtain rfl:u=Value.bool true:=r'
    refine ⟨rfl,OldK.of_keep fun b o e=>?_,os,bare⟩
    cases q:H b with
    | none=>exact un.keep b o e q (by intro z;exact absurd (show b∈([]:List Addr) from z) (by simp)) (by simp)
    | some u=>
     rcases hO b with z | ⟨ob,xs,z⟩
     ·rw [q] at z;cases z
     ·have z2:=un.frzs b ob _ z
      obtain ⟨e1,_⟩:=hok b _ z
      obtain ⟨e2,_⟩:=hok' b _ z2
      rw [e] at e1;cases e1
      exact e2
 cases hk:K.lookup a with
 | some o=>
  have e:=KX a o hk
  rw [ha] at e
  cases e
  refine core (fun _=>none) (fun _=>.inl rfl) (.inr ⟨_,vs.toArray,_,hk,rfl,rfl,rfl,by rw [yQ,lenV];exact hl,by simpa using rv⟩) (fun b u z=>by have z':(none:Option HO)=some u:=z;cases z') (fun b z=>absurd rfl z) fun z=>absurd rfl z
 | none=>
  refine core (fun b=>if b=a then some (.frz {cls:=.type "list",data:=.seq vs.toArray} (.lst (ns.map V.int))) else none) (fun b=>?_) (.inl (.inr ⟨{cls:=.type "list",data:=.seq vs.toArray},if_pos rfl⟩)) (fun b u z=>?_) (fun b z=>?_) fun _=>hk
  ·by_cases hb:b=a
   ·exact .inr ⟨_,_,if_pos hb⟩
   ·exact .inl (if_neg hb)
  ·by_cases hb:b=a
   ·have z':=(if_pos hb).symm.trans z
    cases z'
    subst hb
    exact ⟨ha,by rw [yA];exact hl,vs,_,rv,ha⟩
   ·have z':=(if_neg hb).symm.trans z
    cases z'
  ·by_cases hb:b=a
   ·exact hb
   ·exact absurd (if_neg hb) z
theorem zpt {l:ybv}{n k:Nat}{q:Program}{loose:List Str}{XP:(Str→Option Value)→Heap→Prop}{YP:World→Heap→Prop}{d:DefRec}{K:Params→PySem.W.Frag}{CX:World→CXT}{sp:World→Sp}{x:Str}
  (hn:l.most=some n) (hn2:n≤yL) (hdf:d.params.defaults= []) (hr:Room k callerA)
  (hY:∀ (w:World) (h:Heap),YP w h→(K w.params).In h)
  (F:∀ (w:World) (mg:Str→Option Value) (fa:Addr) (h:Heap),(K w.params).In h→h.Ns qM mg→mg d.name=some (.ref fa)→
   ∃ fd:FuncData,(∀ (s:Shared) (u:Value),BindsTo s fd ⟨[u],[]⟩ [(x,u)])∧
    ∀ base:Heap,(K w.params).In base→base.Ns qM mg→FnOk l.prog w (K w.params) mg base (CX w) k fa fd [x] (sp w))
  (hsp:∀ (w:World) (H:Hp) (a:Addr) (ns:List Int),ns.length≤n→Only H→SqL (K w.params) H a (ns.map V.int)→sp w [.ref a] H (fun v _=>v= .bl true) fun _ _ _=>False)
  (hCX:∀ (w:World) (H:Hp) (s:Shared) (e:Value) (s':Shared),CX w [] H s (fun _ _ _=>False) e s'→False):
  PySem.W.WalkO q loose XP YP l.row.toRowW d [] (fun f vs=>ycu f vs):=by
 refine Att.attach_call hn hdf fun w s₀ s₁ mg mb fa o pm cd doc a vs ns G Y ho hd hcd hmg hobj hints hlen hg=>?_
 have KX:=hY w _ Y
 obtain ⟨fd,hb,hF⟩:=F w mg fa _ KX G.T.g hmg
 exact znK KX G.T.g G.T.b G.T.builtins G.T.nolimit hg hobj hints (qX hlen hn2) hr hF hb (fun H hO hS=>hsp w H a ns hlen hO hS) fun H e s'=>hCX w H s₁ e s'
noncomputable abbrev CX0:CXT:=fun _ _ _ _ _ _=>False
noncomputable abbrev E0:XK:=fun _ _ _=>False
theorem zaR {X:Cx}:zhW CX0 X E0:=fun _ _ _ _ _ _ _ h=>h.elim
structure Fun (K:PySem.W.Frag) (x qual:Str) (st:Stmt) (f:Addr) (fd:FuncData):Prop where
 ex:∃ (oc:Value) (od:Option Addr) (kV doc pm:Value) (an:Option Addr) (cdv ct:Value) (osl:Array (Option Value)),
  fd=PySem.W.fnOf x qual (zbS st) (zbp st) (zaj st) .none kV doc pm an cdv ct∧K.lookup f=some ⟨oc,od,.func fd,osl⟩∧PySem.W.codeIn K cdv qual=true
 kp:PySem.W.keepIn K (.ref f)=true
section
variable {P:Program} {w:World} {K:PySem.W.Frag} {mg:Str→Option Value} {base:Heap}
theorem Fun.ok {x qual:Str}{st:Stmt}{f:Addr}{fd:FuncData}{N ps:List Str}{k:Nat}{sp:Sp}(F:Fun K x qual st f fd)(S:zav N ps (zaj st))(len:∀ vs H Q E,sp vs H Q E→vs.length=ps.length)
  (hbody:∀ (cdv:Value) (A:Around) (outer:List Env) (s:Shared) (H:Hp) (vs:List V) (Q:VK) (E:XK),Room k (A.deeper (envOfC qual (zaj st) s.heap.objs.size f cdv))→sp vs H Q E→
   ∃ t,PSs (cxOf CX0 P w K mg base N qual (zaj st) f cdv A outer s H E).nox (zbp st) t∧t {nx:=fun _ H'=>Q .non H',rt:=Q} (start N vs) H):FnOk P w K mg base CX0 (k+1) f fd ps sp:=by
 obtain ⟨oc,od,kV,doc,pm,an,cdv,ct,osl,rfl,lk,hcd⟩:=F.ex
 refine zoP lk hcd S len fun A outer s H vs Q E hr hsp=>?_
 obtain ⟨t,h,q⟩:=hbody cdv A outer s H vs Q E hr hsp
 exact ⟨t,h.nox,q⟩
theorem Fun.binds {x qual:Str}{st:Stmt}{f:Addr}{fd:FuncData}{ps:List Str}(F:Fun K x qual st f fd)
  (h:∀ (kV doc pm:Value) (an:Option Addr) (cdv ct:Value) (us:List Value),us.length=ps.length→bindArgs (PySem.W.fnOf x qual (zbS st) (zbp st) (zaj st) .none kV doc pm an cdv ct) ⟨us,[]⟩=pure (ps.zip us)):zfy K fd ps []:=by
 obtain ⟨oc,od,kV,doc,pm,an,cdv,ct,osl,rfl,lk,hcd⟩:=F.ex
 exact .all (h kV doc pm an cdv ct)
theorem zmP {x qual:Str}{st:Stmt}{f:Addr}{oc:Value}{od an:Option Addr}{osl:Array (Option Value)}{kV doc pm cdv ct:Value}(l:K.lookup f=some ⟨oc,od,.func (PySem.W.fnOf x qual (zbS st) (zbp st) (zaj st) .none kV doc pm an cdv ct),osl⟩)
  (c:PySem.W.codeIn K cdv qual=true) (k:PySem.W.keepIn K (.ref f)=true):Fun K x qual st f (PySem.W.fnOf x qual (zbS st) (zbp st) (zaj st) .none kV doc pm an cdv ct):=⟨⟨oc,od,kV,doc,pm,an,cdv,ct,osl,rfl,l,c⟩,k⟩
end
theorem zkA {A:Around}{k:Nat}(hr:Room k A):A.units+1 < cLine:=ybS (Nat.add_le_add_left (by decide: 1≤64) _) hr.units
section
variable {X:Cx}
theorem pv (i:Nat){x:Str}{pos:Pos}(hN:X.N[i]? =some x:=by rfl)(hv:Vis X.env.scope x:=by first | exact Or.inl rfl | exact Or.inr (Or.inl rfl) | exact Or.inr (Or.inr rfl))(hd:(x==("__debug__" :Str))=false:=by decide)
  (hcd:(x==("__classdict__" :Str))=false:=by decide):PE X (.Name x pos) (tVar i):=zn3 hN hv hd hcd
end
theorem iteF {A B:Prop}(h:B):if false=true then A else B:=by
 rw [if_neg yY]
 exact h
theorem iteT {A B:Prop}(h:A):if true=true then A else B:=by
 rw [if_pos rfl]
 exact h
theorem ite2 {c A B:Prop}[Decidable c](h1:c→A)(h2:¬c→B):if c then A else B:=by
 by_cases h:c
 ·rw [if_pos h]
  exact h1 h
 ·rw [if_neg h]
  exact h2 h
noncomputable def Same (H H':Hp):Prop:=∀ b o,H b=some o→H' b=some o
theorem Same.refl (H:Hp):Same H H:=fun _ _ h=>h
theorem Same.trans {H H1 H2:Hp}(a:Same H H1)(b:Same H1 H2):Same H H2:=fun c o h=>b c o (a c o h)
theorem Same.free {H H':Hp}(e:Same H H'){l:Addr}(h:H' l=Option.none):H l=Option.none:=by
 cases q:H l with
 | none=>rfl
 | some o=>
  rw [e l o q] at h
  cases h
theorem Same.seq {K:PySem.W.Frag}{H H':Hp}{a:Addr}{xs:List V}(e:Same H H')(h:SqL K H a xs):SqL K H' a xs:=by
 rcases h with (h | ⟨o,h⟩) | h
 ·exact .inl (.inl (e _ _ h))
 ·exact .inl (.inr ⟨o,e _ _ h⟩)
 ·exact .inr h
section
variable {X:Cx}
end
section
variable {κ :Type} [DecidableEq κ]
end
end L2
set_option maxHeartbeats 4000000
namespace L2
open PySem PySem.Spec PyProof.Rows
theorem zhM {prog:Program}{w:World}{A:Around}{R:Result→Shared→Prop}{s:Shared}
  {elt tg iter:Expr} {ifs:List Expr} {scope:Scope} {pos:Pos} {it acc:Value} {env:Env}
  (I:Nat→Shared→Prop)
  (turn:∀ n s,I n s→wpAny (model prog w) A (pyNext it)
   (fun r s1=>match r with
    | none=>R (.ok .next) s1
    | some v=>wpAny (model prog w) A (letOwnedTupleGo tg it v) (fun _ s2=>
      wpAny (model prog w) A (assign tg env v) (fun _ s3=>
      wpAny (model prog w) A
       (forIn ifs true fun c r=>if r=true then do
         let ok ← isTrue c env (eval c env)
         pure (ForInStep.yield ok)
        else pure (ForInStep.yield r))
       (fun ok s4=>if ok=true then
         wpAny (model prog w) A (eval elt env) (fun x s5=>
          wpAny (model prog w) A (call (.builtin "list.append") [acc,x])
           (fun _ s6=>∃ m,m < n∧I m s6) (fun _ _=>False) s5) (fun _ _=>False) s4
        else ∃ m,m < n∧I m s4) (fun _ _=>False) s3) (fun _ _=>False) s2)
      (fun _ _=>False) s1)
   (fun _ _=>False) s)
  (n:Nat) (h:I n s):
  codeAny (model prog w) A (.compLoop (.ListComp elt [⟨tg,iter,ifs,0⟩] scope pos) 0 it acc env) R s:=by
 refine codeAny_loop rfl I (fun n s hI=>?_) n h
 show wpAny _ A ((compTurn _ 0 it acc env).onRaise (fun x=>do noteFrame x env;theTreesLotGoes x)) _ _ s
 refine wpAny_noted (E:=fun e s'=>R (.error e) s') ?_
 rw [compTurn_list]
 refine yB (wpAny_standAt (yB (wpAny_mono (turn n s hI) (fun r s1 h1=>?_) fun _ _ z=>z.elim)))
 cases r with
 | none=>exact yD h1
 | some v=>
  refine yB (wpAny_mono h1 (fun _ s2 h2=>yB (wpAny_mono h2 (fun _ s3 h3=>
   yB (wpAny_mono h3 (fun ok s4 h4=>?_) fun _ _ z=>z.elim)) fun _ _ z=>z.elim)) fun _ _ z=>z.elim)
  cases ok with
  | false=>exact yD ⟨rfl,h4⟩
  | true=>
   exact yB (yB (wpAny_mono h4 (fun x s5 h5=>yB (wpAny_mono h5
    (fun _ s6 h6=>yD (yD ⟨rfl,h6⟩)) fun _ _ z=>z.elim)) fun _ _ z=>z.elim))
theorem zgN {scope:Scope}{env:Env}(h:∀ y∈scope.names,y.2= .free→∃ c,env.cells.lookup y.1=some c):
  ∃ cl,closureFor scope env=pure cl∧(∀ x c,cl.lookup x=some c→env.cells.lookup x=some c)∧
   ∀ y∈scope.names,y.2= .free→∃ c,cl.lookup y.1=some c:=by
 have all:∀ (ns:List (Str×NameKind)),(∀ y∈ns,y.2= .free→∃ c,env.cells.lookup y.1=some c)→∀ cl0:List (Str×Addr),
   (∀ x c,cl0.lookup x=some c→env.cells.lookup x=some c)→
   ∃ cl,(forIn ns cl0 fun (x:Str×NameKind) (r:List (Str×Addr))=>
     (if (x.2==NameKind.free)=true then do
      let a ← cellOf env x.1
      pure (ForInStep.yield ((x.1,a)::r))
     else pure (ForInStep.yield r):Sem _))=pure cl∧(∀ x c,cl.lookup x=some c→env.cells.lookup x=some c)∧
    (∀ x c,cl0.lookup x=some c→∃ c,cl.lookup x=some c)∧∀ y∈ns,y.2= .free→∃ c,cl.lookup y.1=some c:=by
  intro ns
  induction ns with
  | nil=>exact fun _ cl0 h0=>⟨cl0,rfl,h0,fun x c e=>⟨c,e⟩,fun y hy=>nomatch hy⟩
  | cons y r ih=>
   intro hy cl0 h0
   by_cases hk:y.2= .free
   ·obtain ⟨c,hc⟩:=hy y (.head _) hk
    have h1:∀ x d,((y.1,c)::cl0).lookup x=some d→env.cells.lookup x=some d:=fun x d e=>by
     rw [vT] at e
     cases q:x==y.1 with
     | true=>
      rw [q] at e
      have:x=y.1:=eq_of_beq q
      subst this
      exact (qF e) ▸ hc
     | false=>
      rw [q] at e
      exact h0 x d e
    obtain ⟨cl,e,a,b,d⟩:=ih (fun z hz=>hy z (.tail _ hz)) ((y.1,c)::cl0) h1
    have keep:∀ x d,cl0.lookup x=some d→∃ d,cl.lookup x=some d:=fun x d e=>by
     cases q:x==y.1 with
     | true=>exact b x c (by rw [vT,q])
     | false=>exact b x d (by rw [vT,q];exact e)
    refine ⟨cl,?_,a,keep,fun z hz hf=>?_⟩
    ·rw [ycm]
     have:(y.2==NameKind.free)=true:=by rw [hk];rfl
     rw [if_pos this]
     have ec:cellOf env y.1=pure c:=by unfold cellOf;rw [hc]
     rw [ec]
     exact e
    ·rcases yO.mp hz with rfl | hz
     ·exact b z.1 c (by rw [vT,beq_self_eq_true])
     ·exact d z hz hf
   ·obtain ⟨cl,e,a,b,d⟩:=ih (fun z hz=>hy z (.tail _ hz)) cl0 h0
    refine ⟨cl,?_,a,b,fun z hz hf=>?_⟩
    ·rw [ycm]
     have:¬(y.2==NameKind.free)=true:=by simpa using hk
     rw [if_neg this]
     exact e
    ·rcases yO.mp hz with rfl | hz
     ·exact absurd hf hk
     ·exact d z hz hf
 obtain ⟨cl,e,a,_,d⟩:=all scope.names h [] (fun x c e=>by simp at e)
 exact ⟨cl,congrArg (fun (m:Sem (List (Str×Addr)))=>m >>=fun cs=>pure cs) e,a,d⟩
theorem ze5 {scope:Scope}{env:Env}{x:Str}(hc:∀ y∈scope.names,y.2≠.cell)
  (h:(relabel scope env).names.lookup x=some .cell∨(relabel scope env).names.lookup x=some .free):∃ y∈scope.names,y.1=x∧y.2= .free:=by
 have all:∀ ns:List (Str×NameKind),(∀ y∈ns,y.2≠.cell)→∀ k,(k=NameKind.cell∨k=NameKind.free)→
   (ns.map fun (n,k)=>if (k== .free && env.scope.kind== .function && env.kindOf n==some .cell) then (n,.cell) else (n,k)).lookup x=some k→∃ y∈ns,y.1=x∧y.2= .free:=by
  intro ns
  induction ns with
  | nil=>intro _ k _ e;simp at e
  | cons y r ih=>
   intro hn k hk e
   obtain ⟨n,j⟩:=y
   rw [qW,vT] at e
   have step:(∃ z∈r,z.1=x∧z.2= .free)→∃ z∈(n,j)::r,z.1=x∧z.2= .free:=fun ⟨z,hz,q⟩=>⟨z,.tail _ hz,q⟩
   by_cases hcc:(j==NameKind.free && env.scope.kind== .function && env.kindOf n==some .cell)=true
   ·have hj:j= .free:=by
     simp only [qA,beq_iff_eq] at hcc
     exact hcc.1.1
    simp only [hcc,if_true] at e
    cases q:x==n with
    | true=>exact ⟨(n,j),.head _,(eq_of_beq q).symm,hj⟩
    | false=>
     rw [q] at e
     exact step (ih (fun z hz=>hn z (.tail _ hz)) k hk e)
   ·simp only [hcc,if_false,yT] at e
    cases q:x==n with
    | true=>
     rw [q] at e
     have ej:j=k:=qF e
     refine ⟨(n,j),.head _,(eq_of_beq q).symm,?_⟩
     rcases hk with hk | hk
     ·exact absurd (ej.trans hk) (hn (n,j) (.head _))
     ·exact ej.trans hk
    | false=>
     rw [q] at e
     exact step (ih (fun z hz=>hn z (.tail _ hz)) k hk e)
 rcases h with h | h
 ·exact all scope.names hc _ (.inl rfl) h
 ·exact all scope.names hc _ (.inr rfl) h
noncomputable def zbn (X:Cx) (N:List Str) (scope:Scope) (cl:List (Str×Addr)) (fp:List Addr) (s:Shared) (H:Hp):Cx where
 prog:=X.prog
 w:=X.w
 K:=X.K
 mg:=X.mg
 base:=X.base
 A:=X.A
 N:=N
 s₀ :=s
 H₀ :=H
 env:=compEnvC scope cl s.heap.objs.size X.env
 outer:=X.stack
 stack:=X.stack
 ex:=fp
 fn:=fun _=>false
 calm:=X.calm
 pn:=[]
 xe:=fun _ _=>False
noncomputable def zbK (n:Nat) (cap:List Nat) (σ :St):St:=qH n none++cap.map fun j=>(σ[j]?).join
noncomputable def PTs (X:Cx) (ifs:List Expr) (t:TT):Prop:=
 ∀ (pins:List (Addr×Obj)) (s:Shared) (σ :St) (H:Hp) (Q:Bool→Hp→Prop),Inv X pins σ H s→t σ H Q→
  wpAny (model X.prog X.w) X.A (forIn ifs true fun c r=>if r=true then do
    let ok ← isTrue c X.env (eval c X.env)
    pure (ForInStep.yield ok)
   else pure (ForInStep.yield r)) (TP X pins σ Q) X.xe s
noncomputable def tYes:TT:=fun _ H Q=>Q true H
theorem zpx {X:Cx}:PTs X [] tYes:=fun _ _ _ H _ I h=>wpAny_tests_nil ⟨H,I,h⟩
theorem zpg {X:Cx}{c:Expr}{t:TT}(h:PT X c t):PTs X [c] t:=fun pins s σ H Q I hw=>wpAny_tests_one (h pins s σ H Q I hw)
noncomputable def zdP (J:It) (D:Addr) (n:Nat) (cap:List Nat) (σ :St) (g:TG) (tt:TT) (te:TE) (Q:VK) (H1:Hp):Prop:=
 ∃ W:Nat→Nat→Hp→Prop,(∃ m,W 0 m (upd H1 D (.lst [])))∧∀ i m H,W i m H→
  (J.stop i H∧Q (.ref D) H)∨(J.go i H∧∃ N:Hp→Prop,(∀ H',N H'→∃ m',m' < m∧W (i+1) m' H')∧∀ x H',J.yld i H x H'→g x (zbK n cap σ) H' fun σ2 H2=>
   tt σ2 H2 fun b H3=>if b=true then te σ2 H3 fun y H4=>∃ xs,H4 D=some (.lst xs)∧xs.length < yL∧N (upd H4 D (.lst (xs++ [y])))
    else N H3)
noncomputable def znX (n:Nat) (cap:List Nat) (wi:TI) (g:TG) (tt:TT) (te:TE):TE:=fun σ H Q=>wi σ H fun J H1=>∀ D,H1 D=none→zdP J D n cap σ g tt te Q H1
section
variable {X:Cx} {elt tg iter:Expr} {ifs:List Expr} {scope:Scope} {pos:Pos} {N:List Str} {n:Nat} {cap:List Nat} {wi:TI} {g:TG} {tt:TT} {te:TE}
structure Blk (X:Cx) (scope:Scope) (N:List Str) (n:Nat) (cap:List Nat):Prop where
 kind:scope.kind= .function
 cell:∀ y∈scope.names,y.2≠.cell
 names:∀ y∈scope.names,y.2= .local→scope.names.lookup y.1=some .local
 free:∀ y∈scope.names,y.2= .free→X.env.kindOf y.1=some .cell∨X.env.kindOf y.1=some .free
 len:N.length=n+cap.length
 caps:∀ (i j:Nat) (x:Str),cap[i]? =some j→N[n+i]? =some x→X.N[j]? =some x∧(scope.names.lookup x=some .free)
end
noncomputable def blkOk (names:List (Str×NameKind)) (N:List Str) (n:Nat) (cap:List Nat) (No:List Str) (so:List (Str×NameKind)):Bool:=
 names.all (fun y=>y.2 != .cell) && names.all (fun y=>y.2 != .local || names.lookup y.1==some .local) &&
 names.all (fun y=>y.2 != .free || (so.lookup y.1==some .cell || so.lookup y.1==some .free)) && (N.length==n+cap.length) &&
 (qI cap.length).all fun i=>match cap[i]?,N[n+i]? with
  | some j,some x=>No[j]? ==some x && names.lookup x==some .free
  | _,_=>true
theorem zbt {X:Cx}{scope:Scope}{N:List Str}{n:Nat}{cap:List Nat}(hk:scope.kind= .function)(h:blkOk scope.names N n cap X.N X.env.scope.names=true):Blk X scope N n cap:=by
 unfold blkOk at h
 simp only [qA,yX] at h
 obtain ⟨⟨⟨⟨h1,h2⟩,h3⟩,h4⟩,h5⟩:=h
 refine ⟨hk,fun y hy z=>?_,fun y hy z=>?_,fun y hy z=>?_,by simpa using h4,fun i j x e1 e2=>?_⟩
 ·have:=h1 y hy
  rw [z] at this
  cases this
 ·have:=h2 y hy
  rw [z] at this
  simpa using this
 ·have:=h3 y hy
  rw [z] at this
  show X.env.scope.names.lookup y.1=some .cell∨X.env.scope.names.lookup y.1=some .free
  simpa using this
 ·have hi:i < cap.length:=(yG.mp e1).1
  have:=h5 i (qE.mpr hi)
  rw [e1,e2] at this
  simpa using this
theorem zlX {n:Nat}{cap:List Nat}{σ :St}{i:Nat}{v:V}(h:(zbK n cap σ)[i]? =some (some v)):
  ∃ k j,i=n+k∧cap[k]? =some j∧σ[j]? =some (some v):=by
 unfold zbK at h
 by_cases hi:i < n
 ·rw [qY (by simpa using hi),yak,if_pos hi] at h
  cases h
 ·rw [qR (by simpa using Nat.not_lt.mp hi)] at h
  simp only [xQ,yE] at h
  cases e:cap[i - n]? with
  | none=>rw [e] at h;cases h
  | some j=>
   rw [e] at h
   have h':(σ[j]?).join=some v:=qF h
   refine ⟨i - n,j,by omega,e,?_⟩
   cases q: σ[j]? with
   | none=>rw [q] at h';cases h'
   | some o=>
    rw [q] at h'
    exact congrArg some h'
theorem zfc {scope:Scope}{env:Env}{x:Str}(h:scope.names.lookup x=some .free):
  (relabel scope env).names.lookup x=some .cell∨(relabel scope env).names.lookup x=some .free:=by
 have all:∀ ns:List (Str×NameKind),ns.lookup x=some .free→
   (ns.map fun (n,k)=>if (k== .free && env.scope.kind== .function && env.kindOf n==some .cell) then (n,NameKind.cell) else (n,k)).lookup x=some .cell∨
   (ns.map fun (n,k)=>if (k== .free && env.scope.kind== .function && env.kindOf n==some .cell) then (n,NameKind.cell) else (n,k)).lookup x=some .free:=by
  intro ns
  induction ns with
  | nil=>intro e;simp at e
  | cons y r ih=>
   intro e
   obtain ⟨m,j⟩:=y
   rw [vT] at e
   rw [qW,vT]
   cases q:x==m with
   | true=>
    rw [q] at e
    have ej:j= .free:=qF e
    subst ej
    by_cases hcc:(NameKind.free==NameKind.free && env.scope.kind== .function && env.kindOf m==some .cell)=true
    ·simp only [hcc,if_true,q,true_or]
    ·simp only [hcc,if_false,yT,q,or_true]
   | false=>
    rw [q] at e
    have h1:=ih e
    by_cases hcc:(j==NameKind.free && env.scope.kind== .function && env.kindOf m==some .cell)=true
    ·simp only [hcc,if_true,q]
     exact h1
    ·simp only [hcc,if_false,yT,q]
     exact h1
 exact all scope.names h
theorem zoN {X:Cx}{pins:List (Addr×Obj)}{σ :St}{H:Hp}{s:Shared}{N:List Str}{scope:Scope}{n:Nat}{cap:List Nat}{cl:List (Str×Addr)}{fp:List Addr}
  (I:Inv X pins σ H s) (B:Blk X scope N n cap) (c1:∀ x c,cl.lookup x=some c→X.env.cells.lookup x=some c)
  (c2:∀ y∈scope.names,y.2= .free→∃ c,cl.lookup y.1=some c) (hf:∀ b∈fp,FpOk X pins H b) (hfl:∀ b∈fp,b < s.heap.objs.size):(zbn X N scope cl fp s H).Ok where
 mod:=I.ok.mod
 kind:=by show (relabel scope X.env).kind=_;exact B.kind
 glob:=I.ok.glob
 blt:=I.ok.blt
 above:=yN _
 inj:=fun x y c e1 e2=>I.ok.inj x y c (c1 x c e1) (c1 y c e2)
 has:=fun x h=>by
  obtain ⟨y,hy,e,k⟩:=ze5 B.cell h
  obtain ⟨c,hc⟩:=c2 y hy k
  exact ⟨c,e ▸ hc⟩
 cab:=fun x c h=>nomatch h
 hd:=I.ok.hd
 frames:=I.ok.frames
 stk:=.inl rfl
 exf:=fun b hb=>⟨qC (hfl b hb),fun x c e=>(hf b hb).2.2.2.2.1 x c (c1 x c e)⟩
 bs:=I.bs
 bsz:=qX I.ok.bsz I.sz
 noex:=fun b o e hb=>by
  rcases (hf b hb).2.2.2.1 with z | z
  ·exact I.ok.noex b o e z
  ·exact absurd (qL (yU e) (qX I.ok.bsz z)) (vE _)
 exfs:=fun b hb z=>by
  rcases yO.mp (I.stkSub b z) with e | e
  ·exact (hf b hb).2.1 e
  ·exact (hf b hb).2.2.1 e
 funs:=I.stack
 frf:=I.stkFree
theorem zkU {X:Cx}{pins:List (Addr×Obj)}{σ :St}{H:Hp}{s:Shared}{h1:Heap}{t1:Nat}{N:List Str}{scope:Scope}{n:Nat}{cap:List Nat}{cl:List (Str×Addr)}{fp:List Addr}{m:Str→Option Value}
  (I:Inv X pins σ H s) (B:Blk X scope N n cap) (c1:∀ x c,cl.lookup x=some c→X.env.cells.lookup x=some c)
  (c2:∀ y∈scope.names,y.2= .free→∃ c,cl.lookup y.1=some c) (hf:∀ b∈fp,FpOk X pins H b) (hfl:∀ b∈fp,b < s.heap.objs.size)
  (hn:h1.Ns s.heap.objs.size m) (k:∀ b o,s.heap.get? b=some o→h1.get? b=some o):
  Inv (zbn X N scope cl fp s H) [] (zbK n cap σ) H {s with heap:=h1,toks:=t1} where
 ok:=zoN I B c1 c2 hf hfl
 os:=rfl
 bare:=I.bare
 base:=Un.kept k
 loc:=by
  refine ⟨m,hn,fun i x v e1 e2 e3=>?_⟩
  obtain ⟨k',j,rfl,ec,es⟩:=zlX e2
  obtain ⟨ex,ef⟩:=B.caps k' j x ec e1
  have hy:∃ y∈scope.names,y.1=x∧y.2= .free:=ze5 (env:=X.env) B.cell (zfc ef)
  obtain ⟨y,hy,ey,ky⟩:=hy
  have kx:X.env.kindOf x=some .cell∨X.env.kindOf x=some .free:=ey ▸ B.free y hy ky
  obtain ⟨m0,_,hl⟩:=I.loc
  have vis:Vis X.env.scope x:=.inr kx
  obtain ⟨u,r,l⟩:=hl j x v ex es vis
  refine ⟨u,r,.inr ⟨zfc ef,?_⟩⟩
  rcases l with ⟨kl,_⟩ | ⟨_,c,hc,ho⟩
  ·rcases kx with q | q <;> (rw [kl] at q;cases q)
  ·obtain ⟨c',hc'⟩:=c2 y hy ky
   rw [ey] at hc'
   have:=c1 x c' hc'
   rw [hc] at this
   cases this
   obtain ⟨o,eo,d⟩:=ho
   exact ⟨c,hc',o,k c o eo,d⟩
 cell:=fun x c e=>by
  obtain ⟨v,o,eo,d⟩:=I.cell x c (c1 x c e)
  exact ⟨v,o,k c o eo,d⟩
 free:=I.hok.fresh (yN _)
 freeC:=fun x c e=>I.freeC x c (c1 x c e)
 pin:=fun p hp=>nomatch hp
 hok:=I.hok.kept k
 len:=by show (zbK n cap σ).length=N.length;rw [B.len];unfold zbK;simp
theorem zn2 {X:Cx}{pins:List (Addr×Obj)}{σ σ':St}{H H':Hp}{s s':Shared}{N:List Str}{scope:Scope}{cl:List (Str×Addr)}{fp:List Addr}{pl:List (Addr×Obj)}
  (I:Inv X pins σ H s) (I':Inv (zbn X N scope cl fp s H) pl σ' H' s') (hf:∀ b∈fp,FpOk X pins H b):
  Inv X pins σ H' s'∧FpOk X pins H' s.heap.objs.size∧∃ m,s'.heap.Ns s.heap.objs.size m:=by
 obtain ⟨m,hn,_⟩:=I'.loc
 have u:Un (frs X.stack) fp H H' s.heap s'.heap:=I'.base
 have J:Inv X pins σ H' s':=I.call' (ch:=fp) I'.os u I'.hok I'.bare fun b hb=>by
  obtain ⟨_,a1,_,a3,a4,a5⟩:=hf b hb
  exact ⟨a3,a1,a4,a5⟩
 exact ⟨J,I.fpOk (yN _) I'.free,m,hn⟩
noncomputable def zjk (n:Nat) (g:TG):Prop:=∀ x σ H Q,g x σ H Q→g x σ H fun σ2 H2=>Q σ2 H2∧σ2.length= σ.length∧∀ z,n≤z→σ2[z]? = σ[z]?
noncomputable def zmt (n:Nat) (g:TGs):Prop:=∀ xs σ H Q,g xs σ H Q→g xs σ H fun σ2 H2=>Q σ2 H2∧σ2.length= σ.length∧∀ z,n≤z→σ2[z]? = σ[z]?
theorem zaL {n i:Nat}(h:i < n):zjk n (zdM i):=fun x σ H Q q=>⟨q,by simp,fun z hz=>by rw [xX (by omega)]⟩
theorem zne {n:Nat}:zmt n gNil:=fun xs σ H Q q=>⟨q.1,q.2,rfl,fun _ _=>rfl⟩
theorem zia {n i:Nat}{u:TGs}(h:i < n)(hu:zmt n u)(hm:∀ xs σ H (Q Q':St→Hp→Prop),u xs σ H Q→(∀ a b,Q a b→Q' a b)→u xs σ H Q'):zmt n (zja (zdM i) u):=fun xs σ H Q q=>by
 obtain ⟨v,r,e,q⟩:=q
 refine ⟨v,r,e,hm r _ H _ _ (hu r _ H _ q) fun σ2 H2 ⟨p,l,k⟩=>⟨p,by rw [l];simp,fun z hz=>?_⟩⟩
 rw [k z hz,xX (by omega)]
theorem zj9:∀ xs σ H (Q Q':St→Hp→Prop),gNil xs σ H Q→(∀ a b,Q a b→Q' a b)→gNil xs σ H Q':=fun xs σ H Q Q' q m=>⟨q.1,m _ _ q.2⟩
theorem zlG {i:Nat}{u:TGs}(hm:∀ xs σ H (Q Q':St→Hp→Prop),u xs σ H Q→(∀ a b,Q a b→Q' a b)→u xs σ H Q'):
  ∀ xs σ H (Q Q':St→Hp→Prop),zja (zdM i) u xs σ H Q→(∀ a b,Q a b→Q' a b)→zja (zdM i) u xs σ H Q':=fun xs σ H Q Q' ⟨v,r,e,q⟩ m=>⟨v,r,e,hm r _ H _ _ q m⟩
theorem zc9 {K:PySem.W.Frag}{n m i j:Nat}(hi:i < n)(hj:j < n):zjk n (gTup K m (zja (zdM i) (zja (zdM j) gNil))):=fun x σ H Q q=>by
 obtain ⟨a,xs,e,hq,hl,q⟩:=q
 exact ⟨a,xs,e,hq,hl,zia hi (zia hj zne zj9) (zlG zj9) xs σ H Q q⟩
theorem ziX {X:Cx}{elt tg iter:Expr}{ifs:List Expr}{scope:Scope}{pos:Pos}{N:List Str}{n:Nat}{cap:List Nat}{g:TG}{tt:TT}{te:TE}
  {cl:List (Str×Addr)} {RR:Value→Addr→Result→Shared→Prop} {E:Value→Shared→Prop}
  (hc:X.calm=true) (B:Blk X scope N n cap) (c1:∀ x c,cl.lookup x=some c→X.env.cells.lookup x=some c) (c2:∀ y∈scope.names,y.2= .free→∃ c,cl.lookup y.1=some c)
  (hk:zjk n g) (hg:∀ cl fp s H,PG (zbn X N scope cl fp s H) tg g) (ht:∀ cl fp s H,PTs (zbn X N scope cl fp s H) ifs tt) (he:∀ cl fp s H,PE (zbn X N scope cl fp s H) elt te)
  {pins:List (Addr×Obj)} {σ :St} {Q:VK} {itv:Value} {s2:Shared}
  (h:PIE X pins σ tg (fun J H1=>∀ D,H1 D=none→zdP J D n cap σ g tt te Q H1) itv s2)
  (hRR:∀ (D C:Addr) (H':Hp) (s':Shared) (m:Str→Option Value),Inv X pins σ H' s'→FpOk X pins H' C→s'.heap.Ns C m→Q (.ref D) H'→RR (.ref D) C (.ok .next) s'):
  wpAny (model X.prog X.w) X.A (newList []) (fun acc s3=>
   wpAny (model X.prog X.w) X.A (newFunctionEnv scope X.env.globals cl [] X.env.qual none .none (some X.env)) (fun cenv s4=>
    codeAny (model X.prog X.w) X.A (.compStart (.ListComp elt [⟨tg,iter,ifs,0⟩] scope pos) 0 itv acc {cenv with scope:=relabel scope X.env})
     (RR acc cenv.locals) s4) E s3) E s2:=by
 obtain ⟨it,fp,tn,J,H2,e,I2,T,st2,f2,q2⟩:=h
 subst e
 refine wpAny_newObj_type ?_ (by show 0≤yL;decide)
 have hD:H2 s2.heap.objs.size=none:=I2.hok.fresh (yN _)
 obtain ⟨W,⟨m0,w0⟩,turn⟩:=q2 _ hD
 have I3:Inv X pins σ (upd H2 s2.heap.objs.size (.lst [])) {s2 with heap:=s2.heap.push {cls:=.type "list",data:=.seq ([]:List Value).toArray},toks:=s2.toks}:=
  I2.lnew .nil (by show 0≤yL;decide)
 have st3:tn 0 (s2.heap.push {cls:=.type "list",data:=.seq ([]:List Value).toArray}):=T.keep _ _ _ st2 fun b _ o e=>yH _ e
 have obj2:=T.obj _ _ st2
 have fD:∀ b∈fp,b≠s2.heap.objs.size:=fun b hb=>by
  obtain ⟨o,eo,_⟩:=obj2 b hb
  exact qC (yU eo)
 have f3:∀ b∈fp,FpOk X pins (upd H2 s2.heap.objs.size (.lst [])) b:=fun b hb=>⟨by rw [zak (fD b hb)];exact (f2 b hb).1,(f2 b hb).2⟩
 have go3:∀ (s3:Shared) (H3:Hp),Inv X pins σ H3 s3→tn 0 s3.heap→(∀ b∈fp,FpOk X pins H3 b)→W 0 m0 H3→
   wpAny (model X.prog X.w) X.A (newFunctionEnv scope X.env.globals cl [] X.env.qual none .none (some X.env)) (fun cenv s4=>
    codeAny (model X.prog X.w) X.A (.compStart (.ListComp elt [⟨tg,iter,ifs,0⟩] scope pos) 0 (.ref it) (.ref s2.heap.objs.size) {cenv with scope:=relabel scope X.env})
     (RR (.ref s2.heap.objs.size) cenv.locals) s4) E s3:=by
  intro s3 H3 I3 st3 f3 w0
  refine wpAny_newFunctionEnv B.cell (fun y hy=>nomatch hy) (fun h4 n4 sb4=>?_) B.kind
  have k4:∀ b o,s3.heap.get? b=some o→h4.get? b=some o:=fun b o e=>sb4.extBut b o (qC (yU e)) (yH _ e)
  have fl3:∀ b∈fp,b < s3.heap.objs.size:=fun b hb=>by
   obtain ⟨o,eo,_⟩:=T.obj _ _ st3 b hb
   exact yU eo
  have I4:Inv (zbn X N scope cl fp s3 H3) [] (zbK n cap σ) H3 {s3 with heap:=h4,toks:=s3.toks+([]:List (Str×Value)).length}:=
   zkU I3 B c1 c2 f3 fl3 n4 k4
  have st4:tn 0 h4:=T.keep _ _ _ st3 fun b _ o e=>k4 b o e
  have stat:∀ {H':Hp},(∀ b∈fp,H' b=none)→∀ b∈fp,FpOk (zbn X N scope cl fp s3 H3) [] H' b:=fun hn b hb=>by
   obtain ⟨_,a1,a2,_,a4,_⟩:=f3 b hb
   refine ⟨hn b hb,qC (fl3 b hb),fun z=>?_,.inl hb,fun x c e=>a4 x c (c1 x c e),fun p hp=>nomatch hp⟩
   rcases yO.mp (I3.stkSub b z) with e | e
   ·exact a1 e
   ·exact a2 e
  have loop:∀ s5:Shared,s5= {s3 with heap:=h4,toks:=s3.toks+([]:List (Str×Value)).length}→
    codeAny (model X.prog X.w) X.A (.compLoop (.ListComp elt [⟨tg,iter,ifs,0⟩] scope pos) 0 (.ref it) (.ref s2.heap.objs.size) (compEnvC scope cl s3.heap.objs.size X.env))
     (RR (.ref s2.heap.objs.size) s3.heap.objs.size) s5:=by
   rintro s5 rfl
   refine zhM (fun k s'=>∃ i H',Inv (zbn X N scope cl fp s3 H3) [] (zbK n cap σ) H' s'∧tn i s'.heap∧(∀ b∈fp,H' b=none)∧W i k H') ?_ m0
    ⟨0,H3,I4,st4,fun b hb=>(f3 b hb).1,w0⟩
   rintro k s6 ⟨i,H6,I6,st6,fr6,w6⟩
   rcases turn i k H6 w6 with ⟨stop,qn⟩ | ⟨go,N6,hN6,step⟩
   ·refine thn (T.done (zbn X N scope cl fp s3 H3) rfl rfl rfl hc i [] s6 _ H6 _ I6 (stat fr6) st6 stop) fun r s7 ⟨hr,I7⟩=>?_
    subst hr
    obtain ⟨J7,C7,m7,n7⟩:=zn2 I3 I7 f3
    exact hRR _ _ H6 s7 m7 J7 C7 n7 qn
   ·refine thn (T.item (zbn X N scope cl fp s3 H3) rfl rfl rfl hc i [] s6 _ H6 _ I6 (stat fr6) st6 go) fun r s7 ⟨u,hr,h7⟩=>?_
    subst hr
    refine thn h7 fun _ s8 ⟨x,H8,I8,r8,y8,st8,fr8⟩=>?_
    have I8':=I8.pinned (stat fr8) (T.obj _ _ st8)
    refine thn (hg cl fp s3 H3 _ s8 _ H8 x u _ I8' r8 (hk _ _ _ _ (step x H8 y8))) fun _ s9 ⟨σ9,H9,I9,q9,l9,k9⟩=>?_
    refine thn (ht cl fp s3 H3 _ s9 σ9 H9 _ I9 q9) fun b s10 ⟨H10,I10,q10⟩=>?_
    have wk:∀ (z:Nat) v,(zbK n cap σ)[z]? =some (some v)→σ9[z]? =some (some v):=fun z v e=>by
     obtain ⟨kk,j,rfl,_,_⟩:=zlX e
     rw [k9 _ (xZ _ _)]
     exact e
    have back:∀ {Ha:Hp} {sa:Shared} {j:Nat},Inv (zbn X N scope cl fp s3 H3) ([]++zh9 fp s8.heap) σ9 Ha sa→W (i+1) j Ha→
      ∃ i H',Inv (zbn X N scope cl fp s3 H3) [] (zbK n cap σ) H' sa∧tn i sa.heap∧(∀ b∈fp,H' b=none)∧W i j H':=fun {Ha sa j} Ia wa=>by
     refine ⟨i+1,Ha,(Ia.unpinned).weak l9.symm wk,T.keep _ _ _ st8 fun b hb o e=>(Ia.pin (b,o) (jG _ (jG _ (zd0 hb e)))).1,fun b hb=>?_,wa⟩
     obtain ⟨o,e,d⟩:=T.obj _ _ st8 b hb
     exact (Ia.pin (b,o) (jG _ (jG _ (zd0 hb e)))).2.1
    cases b with
    | false=>
     rw [if_neg yY] at q10 ⊢
     obtain ⟨m',hm,w'⟩:=hN6 _ q10
     exact ⟨m',hm,back I10 w'⟩
    | true=>
     rw [if_pos rfl] at q10 ⊢
     refine thn (he cl fp s3 H3 _ s10 σ9 H10 _ I10 q10) fun y s11 ⟨yv,H11,I11,r11,q11⟩=>?_
     obtain ⟨xs,eD,hl,q11⟩:=q11
     obtain ⟨m',hm,w'⟩:=hN6 _ q11
     refine thn (zbl _ s11 σ9 H11 (.ref s2.heap.objs.size) [yv] (.ref s2.heap.objs.size) [y] (fun _ Hz=>Hz=upd H11 s2.heap.objs.size (.lst (xs++ [yv]))) I11 rfl (.cons r11 .nil)
      ⟨_,xs,yv,rfl,rfl,eD,hl,rfl⟩) fun _ s12 ⟨_,H12,I12,_,e12⟩=>?_
     subst e12
     exact ⟨m',hm,back I12 w'⟩
  exact codeAny_compStart_list (loop _ rfl) (T.self _ _ _ _ _ st4 (loop _ rfl))
 exact go3 _ _ I3 st3 f3 w0
section
variable {X:Cx} {elt tg iter:Expr} {ifs:List Expr} {scope:Scope} {pos:Pos} {N:List Str} {n:Nat} {cap:List Nat} {wi:TI} {g:TG} {tt:TT} {te:TE}
theorem zo0 (hc:X.calm=true)(B:Blk X scope N n cap)(hi:PI X tg iter wi)(hk:zjk n g)
  (hg:∀ cl fp s H,PG (zbn X N scope cl fp s H) tg g) (ht:∀ cl fp s H,PTs (zbn X N scope cl fp s H) ifs tt) (he:∀ cl fp s H,PE (zbn X N scope cl fp s H) elt te)
  (hs:∀ x,foldedSetIterable iter X.env x=pure x:=by intro _;rfl):PE X (.ListComp elt [⟨tg,iter,ifs,0⟩] scope pos) (znX n cap wi g tt te):=by
 intro pins s σ H Q I h
 obtain ⟨cl,ecl,c1,c2⟩:=zgN (scope:=scope) (env:=X.env) fun y hy k=>I.ok.has y.1 (B.free y hy k)
 rw [eval_ListComp]
 refine wpAny_comprehension_free (use:=none) rfl hs ecl B.kind B.names ?_
 refine thn (hi pins s σ H _ I h) fun v s1 h1=>thn h1 fun itv s2 h2=>?_
 refine ziX (RR:=fun acc C=>compPost (model X.prog X.w) X.A X.xe none (EP X pins σ Q) acc C) hc B c1 c2 hk hg ht he h2 fun D C H' s' m J f nn q=>?_
 exact ⟨m,nn,fun h' sb=>⟨.ref D,H',J.turned (t':=s'.toks) (fun b o hb e=>sb.extBut b o hb e) f.1 f.2.1 f.2.2.2.1 f.2.2.2.2.1 f.2.2.2.2.2,rfl,q⟩⟩
theorem zpf {i:Nat}{x:Str}{pos' spos:Pos}(hc:X.calm=true)(B:Blk X scope N n cap)(hN:X.N.Nodup)(hi:X.N[i]? =some x)(hx:X.env.scope.names.lookup x=some .local)(hit:PI X tg iter wi)(hk:zjk n g)
  (hg:∀ cl fp s H,PG (zbn X N scope cl fp s H) tg g) (ht:∀ cl fp s H,PTs (zbn X N scope cl fp s H) ifs tt) (he:∀ cl fp s H,PE (zbn X N scope cl fp s H) elt te)
  (hsw:swapsWith (.ListComp elt [⟨tg,iter,ifs,0⟩] scope pos) (some (.Name x pos')) spos.line X.env=pure true)
  (hs:∀ x,foldedSetIterable iter X.env x=pure x:=by intro _;rfl):
  PS X (.Assign [.Name x pos'] (.ListComp elt [⟨tg,iter,ifs,0⟩] scope pos) spos) (tAsg (znX n cap wi g tt te) (zdM i)):=by
 intro pins s σ H D I h
 obtain ⟨cl,ecl,c1,c2⟩:=zgN (scope:=scope) (env:=X.env) fun y hy k=>I.ok.has y.1 (B.free y hy k)
 rw [exec_Assign_Name_used _ _ _ _ hsw]
 refine yB (wpAny_standAt (yB ?_))
 show wpAny _ X.A (do
  let _ ← comprehension (.ListComp elt [⟨tg,iter,ifs,0⟩] scope pos) scope X.env _ (newList []) false (eval iter X.env)
   (some (assign (.Name x pos') X.env))) _ _ s
 refine yB (thn (wpAny_comprehension_free (use:=some (assign (.Name x pos') X.env)) (Q:=fun _ s'=>SP X pins D .next s') rfl hs ecl B.kind B.names ?_) fun _ s' hq=>yD (yD hq))
 refine thn (hit pins s σ H _ I h) fun v s1 h1=>thn h1 fun itv s2 h2=>?_
 refine ziX (Q:=fun y H2=>zdM i y σ H2 D.nx) (RR:=fun acc C=>compPost (model X.prog X.w) X.A X.xe (some (assign (.Name x pos') X.env)) (fun _ s'=>SP X pins D .next s') acc C) hc B c1 c2 hk hg ht he h2 fun Dl C H' s' m J f nn q=>?_
 show wpAny (model X.prog X.w) X.A (assign (.Name x pos') X.env (.ref Dl)) _ X.xe s'
 refine wpAny_assign_Name (zis J hN hi (.inl hx) (show RelV (.ref Dl) (.ref Dl) from rfl) (fun s3 I3 ⟨a,sb,ha⟩=>?_) (.inr hx))
 have ca:C≠a:=by
  rcases ha with e | e
  ·rw [e];exact f.2.1
  ·exact fun z=>f.2.2.2.2.1 x a e z.symm
 refine ⟨m,nn.sameBut sb ca,fun h' sb'=>⟨_,H',I3.turned (t':=s3.toks) (fun b o hb e=>sb'.extBut b o hb e) f.1 f.2.1 f.2.2.2.1 f.2.2.2.2.1 f.2.2.2.2.2,q⟩⟩
end
section
variable {g:TG} {tt:TT} {te:TE} {n0:Nat} {cap:List Nat} {σ :St} {Q:VK} {D:Addr} {H1:Hp} {K:PySem.W.Frag}
theorem zd2 {lo:Int}{n:Nat}(Pv:Nat→Hp→Prop)(h0:Pv 0 (upd H1 D (.lst [])))
  (hs:∀ i H,i < n→Pv i H→g (.int (lo+i)) (zbK n0 cap σ) H fun σ2 H2=>tt σ2 H2 fun b H3=>if b=true then te σ2 H3 fun y H4=>∃ xs,H4 D=some (.lst xs)∧xs.length < yL∧Pv (i+1) (upd H4 D (.lst (xs++ [y]))) else Pv (i+1) H3)
  (hd:∀ H,Pv n H→Q (.ref D) H):
  zdP (Itr lo n) D n0 cap σ g tt te Q H1:=by
 refine ⟨fun i m H=>m=n - i∧i≤n∧Pv i H,⟨n,by simp,qN _,h0⟩,?_⟩
 rintro i m H ⟨rfl,hi,p⟩
 by_cases hlt:i < n
 ·refine .inr ⟨hlt,Pv (i+1),fun H' p'=>⟨n - (i+1),by omega,rfl,hlt,p'⟩,fun x H' y=>?_⟩
  obtain ⟨e1,e2⟩:=y
  subst e1 e2
  exact hs i _ hlt p
 ·have e:i=n:=by omega
  subst e
  exact .inl ⟨yN _,hd H p⟩
theorem za0 {a:Addr}{xs:List V}(Pv:Nat→Hp→Prop)(h0:Pv 0 (upd H1 D (.lst [])))(hl:∀ i H,i≤xs.length→Pv i H→SqL K H a xs)
  (hs:∀ i x H,xs[i]? =some x→Pv i H→g x (zbK n0 cap σ) H fun σ2 H2=>tt σ2 H2 fun b H3=>if b=true then te σ2 H3 fun y H4=>∃ xs,H4 D=some (.lst xs)∧xs.length < yL∧Pv (i+1) (upd H4 D (.lst (xs++ [y]))) else Pv (i+1) H3)
  (hd:∀ H,Pv xs.length H→Q (.ref D) H):
  zdP (Itl K a) D n0 cap σ g tt te Q H1:=by
 refine ⟨fun i m H=>m=xs.length - i∧i≤xs.length∧Pv i H,⟨xs.length,by simp,qN _,h0⟩,?_⟩
 rintro i m H ⟨rfl,hi,p⟩
 have q:=hl i H hi p
 by_cases hlt:i < xs.length
 ·refine .inr ⟨⟨xs,xs[i],q,by simp [hlt]⟩,Pv (i+1),fun H' p'=>⟨xs.length - (i+1),by omega,rfl,hlt,p'⟩,fun x H' y=>?_⟩
  obtain ⟨e1,y⟩:=y
  subst e1
  exact hs i x _ (y xs q) p
 ·have e:i=xs.length:=by omega
  subst e
  exact .inl ⟨⟨xs,q,yN _⟩,hd H p⟩
theorem zjV {a:Addr}{xs:List V}(Pv:Nat→Hp→Prop)(h0:Pv 0 (upd H1 D (.lst [])))(hl:∀ i H,i≤xs.length→Pv i H→SqT K H a xs)
  (hs:∀ i x H,xs[i]? =some x→Pv i H→g x (zbK n0 cap σ) H fun σ2 H2=>tt σ2 H2 fun b H3=>if b=true then te σ2 H3 fun y H4=>∃ xs,H4 D=some (.lst xs)∧xs.length < yL∧Pv (i+1) (upd H4 D (.lst (xs++ [y]))) else Pv (i+1) H3)
  (hd:∀ H,Pv xs.length H→Q (.ref D) H):
  zdP (Itt K a) D n0 cap σ g tt te Q H1:=by
 refine ⟨fun i m H=>m=xs.length - i∧i≤xs.length∧Pv i H,⟨xs.length,by simp,qN _,h0⟩,?_⟩
 rintro i m H ⟨rfl,hi,p⟩
 have q:=hl i H hi p
 by_cases hlt:i < xs.length
 ·refine .inr ⟨⟨xs,xs[i],q,by simp [hlt]⟩,Pv (i+1),fun H' p'=>⟨xs.length - (i+1),by omega,rfl,hlt,p'⟩,fun x H' y=>?_⟩
  obtain ⟨e1,y⟩:=y
  subst e1
  exact hs i x _ (y xs q) p
 ·have e:i=xs.length:=by omega
  subst e
  exact .inl ⟨⟨xs,q,yN _⟩,hd H p⟩
end
theorem Inv.laidC {X:Cx}{pins:List (Addr×Obj)}{σ :St}{H:Hp}{s:Shared}{h':Heap}{a:Addr}{o:HO}{t':Nat}{ch:List Addr}(I:Inv X pins σ H s)
  (hch:∀ b∈ch,FpOk X pins H b) (k:∀ b u,b∉ch→s.heap.get? b=some u→h'.get? b=some u) (hp:s.heap.objs.size≤a)
  (new:zbB X.prog X.w (upd H a o) h' a o):Inv X pins σ (upd H a o) {s with heap:=h',toks:=t'}:=by
 have hn:=I.hok.fresh hp
 have nch:∀ c u,H c=some u→c∉ch:=fun c u e z=>by rw [(hch c z).1] at e;cases e
 refine I.step (g':=s.gens) (d':=s.drawn) (ch:=ch) (fun b hb=>⟨(hch b hb).2.2.2.1,(hch b hb).2.1,(hch b hb).2.2.2.2.1,(hch b hb).2.2.2.2.2⟩)
  (fun b u _ _ hc e _=>k b u hc e) (fun b u _ _ hc e _=>⟨u.slots,k b u hc e⟩)
  (fun b u _ e n=>by rw [zak (qC (qL (yU e) hp))];exact n) (fun b u hc e=>⟨u,k b u hc e⟩)
  (fun b xs q=>by rw [zak (zao q hn)];exact q) (fun b u xs q=>by rw [zak (zao q hn)];exact q)
  (fun b ps q=>⟨#[],by rw [zak (zao q hn),q];simp⟩) (fun m hm=>?_) (fun b u e=>?_) I.bare
 ·exact hm.at' fun ob e=>k _ ob (fun z=>(hch _ z).2.1 rfl) e
 ·by_cases hb:b=a
  ·subst hb;rw [zab] at e;cases e;exact new
  ·rw [zak hb] at e
   refine (I.hok b u e).stay (fun c v hc q=>k c v ?_ q) (fun c q=>by rw [zak (zao q hn)];exact q) fun c xs q=>q.upd hn
   rcases hc with rfl | hc
   ·exact nch _ _ e
   ·exact nch _ _ hc
noncomputable def Ite (K:PySem.W.Frag) (a:Addr):It:=
 ⟨fun i H => ∃ xs x, SqL K H a xs ∧ xs[i]? = some x,
  fun i H v H'=>∃ T x,H T=none∧v= .ref T∧H'=upd H T (.tup [.int i,x])∧∀ xs,SqL K H a xs→xs[i]? =some x,
  fun i H=>∃ xs,SqL K H a xs∧xs.length≤i⟩
theorem zmM {P:Program}{w:World}{K:PySem.W.Frag}{elts:List Expr}{k:Nat}{tp:Pos}(a e it:Addr)(hne:e≠it):
  Turn P w K (.Tuple elts k tp) (Ite K a) [e,it] e (fun i h=>(∃ old,IsEnum h e it (i:Nat) old)∧h.IsListIter it a i) where
 mem:=by simp
 obj:=fun i h st b hb=>by
  obtain ⟨⟨old,he⟩,o,eo,c,d⟩:=st
  rcases yO.mp hb with rfl | hb
  ·exact ⟨_,he,fun v z=>nomatch z⟩
  ·have q:b=it:=by simpa using hb
   subst q
   exact ⟨o,eo,fun v z=>by rw [d] at z;cases z⟩
 keep:=fun i h h' st k=>by
  obtain ⟨⟨old,he⟩,hit⟩:=st
  exact ⟨⟨old,k e (by simp) _ he⟩,hit.at fun o q=>k it (by simp) o q⟩
 item:=by
  intro X hP hw hK hc i pins s σ H E I hf st hg
  subst hP hw hK
  obtain ⟨⟨old,he⟩,hit⟩:=st
  obtain ⟨xs,x,hq,hx⟩:=hg
  obtain ⟨its,rv,p,hz⟩:=I.list hq
  obtain ⟨u,hu,ru⟩:=rv.get hx
  have fe:=hf e (by simp)
  have fi:=hf it (by simp)
  refine wpAny_pyNext_enum_item he hit p.isList (x:=u) (by simpa using hu) hne fun h' ho hit' hT hsz hk=>?_
  have eT:e≠s.heap.objs.size:=qC (yU he)
  have iT:it≠s.heap.objs.size:=by
   obtain ⟨o,eo,_⟩:=hit
   exact qC (yU eo)
  have I1:Inv X pins σ (upd H s.heap.objs.size (.tup [.int i,x])) {s with heap:=h',toks:=s.toks+1}:=
   I.laidC (ch:=[e,it]) hf (fun b v hb q=>hk b v (fun z=>hb (by simp [z])) (fun z=>hb (by simp [z])) q) (yN _)
    ⟨(by show 2≤yL;decide),[.int i s.toks,u],.cons ⟨_,rfl⟩ (.cons ru .nil),_,hT,rfl,_,rfl⟩
  refine ⟨_,rfl,wpAny_letOwnedTupleGo_enum ho fun h2 he2 sb2=>?_⟩
  have I2:Inv X pins σ (upd H s.heap.objs.size (.tup [.int i,x])) {s with heap:=h2,toks:=s.toks+1}:=
   I1.turned (t':=s.toks+1) (fun b o hb q=>(sb2.2 b hb).trans q) (by rw [zak eT];exact fe.1) fe.2.1 fe.2.2.2.1 fe.2.2.2.2.1 fe.2.2.2.2.2
  refine ⟨.ref s.heap.objs.size,_,I2,rfl,⟨_,x,I.hok.fresh (yN _),rfl,rfl,fun ys hy=>by rw [I.list_inj hy hq];exact hx⟩,⟨⟨u,?_⟩,?_⟩,fun b hb=>?_⟩
  ·have:(((i+1:Nat)):Int)=(i:Int)+1:=by omega
   rw [this]
   exact he2
  ·exact hit'.extBut sb2.extBut (xU hne)
  ·rcases yO.mp hb with rfl | hb
   ·rw [zak eT];exact fe.1
   ·have q:b=it:=by simpa using hb
    subst q
    rw [zak iT];exact fi.1
 done:=by
  intro X hP hw hK hc i pins s σ H E I hf st hg
  subst hP hw hK
  obtain ⟨⟨old,he⟩,hit⟩:=st
  obtain ⟨xs,hq,hx⟩:=hg
  obtain ⟨its,rv,p,hz⟩:=I.list hq
  have fi:=hf it (by simp)
  have hl:=rv.length
  exact wpAny_pyNext_enum_end (I.ok.hd hc) he hit p.isList (by simp;omega) fun h' eb=>
   ⟨rfl,I.turned (t':=s.toks) (fun b o hb q=>eb b o hb q) fi.1 fi.2.1 fi.2.2.2.1 fi.2.2.2.2.1 fi.2.2.2.2.2⟩
 self:=fun _ _ _ _ _ st h=>by
  obtain ⟨⟨old,he⟩,_⟩:=st
  exact wpAny_pyIter_enum he h
noncomputable def iEnum (K:PySem.W.Frag) (ta:TA):TI:=fun σ H R=>ta σ H fun vs H1=>∃ l,vs= [.ref l]∧(∃ xs,SqL K H1 l xs)∧R (Ite K l) H1
theorem zpq {X:Cx}{a:Expr}{ta:TA}{p pos tp:Pos}{elts:List Expr}{k:Nat}(hg:Gl X "enumerate")(hm:X.mg "enumerate" =none)(ha:PA X [a] ta)
  (hs:starEach [a] X.env= [(false,eval a X.env)]:=by rfl):PI X (.Tuple elts k tp) (.Call (.Name "enumerate" p) [a] [] pos) (iEnum X.K ta):=by
 intro pins s σ H R I h
 refine Call_ (zea I hg hm boot_enumerate (xD (thn (ha pos pins s σ H _ I h) fun us s1 ⟨vs,H1,I1,r1,q1⟩=>?_) hs rfl))
 obtain ⟨l,e,⟨xs,hq⟩,q⟩:=q1
 subst e
 cases r1 with
 | cons r rr=>
  cases rr
  cases r
  obtain ⟨its,rv,pl,hz⟩:=I1.list hq
  refine call_enumerate_list pl.isList fun h' he hit hz' hk=>?_
  refine wpAny_pyIter_enum he ?_
  refine ⟨s1.heap.objs.size+1,[s1.heap.objs.size+1,s1.heap.objs.size],_,_,H1,rfl,I1.kept (t':=s1.toks) hk,zmM l _ _ (Nat.succ_ne_self _),⟨⟨_,he⟩,hit⟩,fun b hb=>?_,q⟩
  have le:s1.heap.objs.size≤b:=by
   rcases yO.mp hb with z | hb
   ·rw [z];exact Nat.le_succ _
   ·have z:b=s1.heap.objs.size:=by simpa using hb
    rw [z];exact yN _
  exact I1.fpOk le (I1.hok.fresh le)
theorem zfs {K:PySem.W.Frag}{a:Addr}{xs:List V}{g:TG}{tb:TS}{D:Ends}{σ :St}{H:Hp}(Pv:Nat→St→Hp→Prop)(h0:Pv 0 σ H)
  (hl:∀ i σ H,i≤xs.length→Pv i σ H→SqL K H a xs)
  (hs:∀ i x σ H T,xs[i]? =some x→Pv i σ H→H T=none→g (.ref T) σ (upd H T (.tup [.int i,x])) fun σ2 H2=>tb {D with nx:=Pv (i+1),ct:=Pv (i+1),bk:=D.nx} σ2 H2)
  (hd:∀ σ H,Pv xs.length σ H→D.nx σ H):
  ∃ W:Nat→Nat→St→Hp→Prop,(∃ m,W 0 m σ H)∧∀ i m σ H,W i m σ H→
   ((Ite K a).stop i H ∧ D.nx σ H) ∨ ((Ite K a).go i H ∧ ∃ N : St → Hp → Prop, (∀ σ' H', N σ' H' → ∃ m', m' < m ∧ W (i + 1) m' σ' H') ∧
     ∀ x H',(Ite K a).yld i H x H'→g x σ H' fun σ2 H2=>tb {D with nx:=N,ct:=N,bk:=D.nx} σ2 H2):=by
 refine ⟨fun i m σ H=>m=xs.length - i∧i≤xs.length∧Pv i σ H,⟨xs.length,by simp,qN _,h0⟩,?_⟩
 rintro i m σ H ⟨rfl,hi,p⟩
 have q:=hl i σ H hi p
 by_cases hlt:i < xs.length
 ·refine .inr ⟨⟨xs,xs[i],q,by simp [hlt]⟩,Pv (i+1),fun σ' H' p'=>⟨xs.length - (i+1),by omega,rfl,hlt,p'⟩,fun x H' y=>?_⟩
  obtain ⟨T,z,hT,e1,e2,y⟩:=y
  subst e1 e2
  exact hs i z σ H T (y xs q) p hT
 ·have e:i=xs.length:=by omega
  subst e
  exact .inl ⟨⟨xs,q,yN _⟩,hd σ H p⟩
open PySem.W (Dat kqdP kqdPs kqdOk)
mutual
inductive Rep (K:PySem.W.Frag) (H:Hp):V→Dat→Prop
 | non:Rep K H .non .none
 | bl (b:Bool):Rep K H (.bl b) (.bool b)
 | int (i:Int):Rep K H (.int i) (.int i)
 | str (x:Str):Rep K H (.str x) (.str x)
 | tup {a:Addr} {xs:List V} {ds:List Dat}:SqT K H a xs→Reps K H xs ds→Rep K H (.ref a) (.tuple ds)
 | lst {a:Addr} {xs:List V} {ds:List Dat}:SqL K H a xs→Reps K H xs ds→Rep K H (.ref a) (.list ds)
inductive Reps (K:PySem.W.Frag) (H:Hp):List V→List Dat→Prop
 | nil:Reps K H [] []
 | cons {x:V} {xs:List V} {d:Dat} {ds:List Dat}:Rep K H x d→Reps K H xs ds→Reps K H (x::xs) (d::ds)
end
theorem Same.seqT {K:PySem.W.Frag}{H H':Hp}{a:Addr}{xs:List V}(e:Same H H')(h:SqT K H a xs):SqT K H' a xs:=by
 rcases h with h | h
 ·rcases h with h | ⟨o,h⟩
  ·exact .inl (.inl (e _ _ h))
  ·exact .inl (.inr ⟨o,e _ _ h⟩)
 ·exact .inr h
mutual
theorem Rep.mono {K:PySem.W.Frag}{H H':Hp}(s:Same H H'):∀ {v:V} {d:Dat},Rep K H v d→Rep K H' v d
 | _,_,.non=>.non
 | _,_,.bl b=>.bl b
 | _,_,.int i=>.int i
 | _,_,.str x=>.str x
 | _,_,.tup h r=>.tup (s.seqT h) (Reps.mono s r)
 | _,_,.lst h r=>.lst (s.seq h) (Reps.mono s r)
theorem Reps.mono {K:PySem.W.Frag}{H H':Hp}(s:Same H H'):∀ {vs:List V} {ds:List Dat},Reps K H vs ds→Reps K H' vs ds
 | _,_,.nil=>.nil
 | _,_,.cons h r=>.cons (Rep.mono s h) (Reps.mono s r)
end
theorem Reps.length {K:PySem.W.Frag}{H:Hp}:∀ {vs:List V} {ds:List Dat},Reps K H vs ds→vs.length=ds.length
 | _,_,.nil=>rfl
 | _,_,.cons _ r=>congrArg Nat.succ (Reps.length r)
theorem Reps.get {K:PySem.W.Frag}{H:Hp}:∀ {vs:List V} {ds:List Dat} {i:Nat} {v:V},Reps K H vs ds→vs[i]? =some v→∃ d,ds[i]? =some d∧Rep K H v d
 | _,_,_,_,.nil,e=>by simp at e
 | _,_,0,_,.cons h _,e=>by simp at e;subst e;exact ⟨_,rfl,h⟩
 | _,_,i+1,v,.cons _ r,e=>by
  obtain ⟨d,h1,h2⟩:=Reps.get (i:=i) (v:=v) r (by simpa using e)
  exact ⟨d,by simpa using h1,h2⟩
theorem Reps.getD {K:PySem.W.Frag}{H:Hp}:∀ {vs:List V} {ds:List Dat} {i:Nat} {d:Dat},Reps K H vs ds→ds[i]? =some d→∃ v,vs[i]? =some v∧Rep K H v d
 | _,_,_,_,.nil,e=>by simp at e
 | _,_,0,_,.cons h _,e=>by simp at e;subst e;exact ⟨_,rfl,h⟩
 | _,_,i+1,v,.cons _ r,e=>by
  obtain ⟨d,h1,h2⟩:=Reps.getD (i:=i) (d:=v) r (by simpa using e)
  exact ⟨d,by simpa using h1,h2⟩
theorem Reps.append {K:PySem.W.Frag}{H:Hp}:∀ {vs us:List V} {ds es:List Dat},Reps K H vs ds→Reps K H us es→Reps K H (vs++us) (ds++es)
 | _,_,_,_,.nil,s=>s
 | _,_,_,_,.cons h r,s=>.cons h (Reps.append r s)
theorem Reps.snoc {K:PySem.W.Frag}{H:Hp}{vs:List V}{ds:List Dat}{v:V}{d:Dat}(r:Reps K H vs ds)(h:Rep K H v d):Reps K H (vs++ [v]) (ds++ [d]):=r.append (.cons h .nil)
theorem Reps.ints {K:PySem.W.Frag}{H:Hp}:∀ ns:List Int,Reps K H (ns.map V.int) (ns.map Dat.int)
 | []=>.nil
 | n::r=>.cons (.int n) (Reps.ints r)
section
variable {X:Cx} {pins:List (Addr×Obj)} {σ :St} {H:Hp} {s:Shared}
mutual
theorem Rep.reads (I:Inv X pins σ H s):∀ (n:Nat) {v:V} {d:Dat} {u:Value},Rep X.K H v d→RelV v u→kqdOk n d=true→∃ as,Reads s.heap u (kqdP d) as
 | _,_,_,_,.non,r,_=>by cases (show _=_ from r);exact ⟨_,Reads.none⟩
 | _,_,_,_,.bl b,r,_=>by cases (show _=_ from r);exact ⟨_,Reads.bool b⟩
 | _,_,_,_,.int i,r,_=>by obtain ⟨t,rfl⟩:=r;exact ⟨_,Reads.int i t⟩
 | _,_,_,_,.str x,r,_=>by obtain ⟨t,rfl⟩:=r;exact ⟨_,Reads.str x t⟩
 | 0,_,_,_,.tup _ _,_,hk=>by simp [kqdOk] at hk
 | 0,_,_,_,.lst _ _,_,hk=>by simp [kqdOk] at hk
 | n+1,_,_,_,.tup h q,r,hk=>by
  cases (show _=_ from r)
  obtain ⟨its,rv,⟨o,e,c,m,d⟩,_⟩:=I.tuple h
  obtain ⟨as,z⟩:=Reps.reads I n q rv (by simpa [kqdOk] using hk)
  rw [kqdP]
  exact ⟨as,reads_tuple_at e c d (by simpa using z)⟩
 | n+1,_,_,_,.lst h q,r,hk=>by
  cases (show _=_ from r)
  obtain ⟨its,rv,⟨o,m,e,c,_,d⟩,_⟩:=I.list h
  obtain ⟨as,z⟩:=Reps.reads I n q rv (by simpa [kqdOk] using hk)
  rw [kqdP]
  exact ⟨_,reads_list_at e c d (by simpa using z)⟩
theorem Reps.reads (I:Inv X pins σ H s):∀ (n:Nat) {vs:List V} {ds:List Dat} {us:List Value},Reps X.K H vs ds→Vals vs us→(∀ d∈ds,kqdOk n d=true)→∃ as,ReadsAll s.heap us (kqdPs ds) as
 | _,_,_,_,.nil,r,_=>by cases r;exact ⟨_,ReadsAll.nil⟩
 | n,_,_,_,.cons h q,r,hk=>by
  cases r with
  | cons r1 r2=>
   obtain ⟨as,z⟩:=Rep.reads I n h r1 (hk _ (.head _))
   obtain ⟨bs,y⟩:=Reps.reads I n q r2 fun d hm=>hk d (.tail _ hm)
   rw [kqdPs]
   exact ⟨_,ReadsAll.cons z y⟩
end
end
noncomputable def rEqD (K:PySem.W.Frag) (neg:Bool):R2:=fun x y H Q=>∃ dx dy,Rep K H x dx∧Rep K H y dy∧kqdOk 8 dx=true∧kqdOk 8 dy=true∧(dx=dy→Q (.bl (!neg)) H)∧(dx≠dy→Q (.bl neg) H)
section
variable {X:Cx}
theorem zcc {d:Dat}(h:kqdOk 8 d=true):ybw (kqdP d)=true:=by
 have l:=PySem.W.kqd_lay 8 d h
 unfold ybw
 rw [l.1,ybT]
 exact decide_eq_true (qX l.2 (by decide))
theorem op_eqD (hu:X.A.units+64 < cLine):OpR X (compareOp .Eq) (rEqD X.K false):=by
 intro pins s σ H x y v u Q I rx ry ⟨dx,dy,hx,hy,kx,ky,q1,q2⟩
 obtain ⟨as,ra⟩:=Rep.reads I 8 hx rx kx
 obtain ⟨bs,rb⟩:=Rep.reads I 8 hy ry ky
 have e:=PySem.W.kqd_eqv 8 dx dy 8 kx ky
 refine eq_dataH ra rb (zcc kx) (zcc ky) hu ?_
 cases z:wQ (kqdP dx) (kqdP dy) with
 | true=>exact ⟨.bl true,H,I,rfl,q1 (e.mp z)⟩
 | false=>exact ⟨.bl false,H,I,rfl,q2 fun w=>by rw [e.mpr w] at z;cases z⟩
theorem op_neD (hu:X.A.units+64 < cLine):OpR X (compareOp .NotEq) (rEqD X.K true):=by
 intro pins s σ H x y v u Q I rx ry ⟨dx,dy,hx,hy,kx,ky,q1,q2⟩
 obtain ⟨as,ra⟩:=Rep.reads I 8 hx rx kx
 obtain ⟨bs,rb⟩:=Rep.reads I 8 hy ry ky
 have e:=PySem.W.kqd_eqv 8 dx dy 8 kx ky
 refine ne_dataH ra rb (zcc kx) (zcc ky) hu ?_
 cases z:wQ (kqdP dx) (kqdP dy) with
 | true=>exact ⟨.bl false,H,I,rfl,q1 (e.mp z)⟩
 | false=>exact ⟨.bl true,H,I,rfl,q2 fun w=>by rw [e.mpr w] at z;cases z⟩
noncomputable def CBits (i j:Int):Prop:=qG i≤2 ^ 20∧qG j≤2 ^ 20
theorem ze3:OpR X (binaryOp .Mult) (rI CBits fun i j=>.int (i * j)):=opI fun i j t u s Q E h q=>mul_int q (IntMulOk.of_bits h.1 h.2)
theorem zfN {i:Int}{k:Nat}(hk:k≤2 ^ 20)(h1: -(2 ^ k) < i)(h2:i < 2 ^ k):qG i≤2 ^ 20:=by
 unfold qG
 split
 ·exact qN _
 ·rename_i h0
  have hn:i.natAbs < 2 ^ k:=by
   have e:((2 ^ k:Nat):Int)=2 ^ k:=by norm_cast
   omega
  have:i.natAbs.log2 < k:=by
   refine (Nat.log2_lt ?_).mpr hn
   intro z
   simp at h0
   omega
  omega
end
end L2
namespace L2
open PySem PySem.Spec PyProof.Rows
section
variable {X:Cx} {K:PySem.W.Frag}
theorem zew (h:X.K=K:=by rfl):IxR X (rIxL K):=by subst h;exact zaC
theorem zlm (h:X.K=K:=by rfl):IxR X (rIxT K):=by subst h;exact zaM
theorem zmI (h:X.K=K:=by rfl):SlR X (rSlT K):=by subst h;exact zj7
theorem zpn {es:List Expr}{k:Nat}{t:TGs}{n:Nat}{pos:Pos}(hc:X.calm=true)(h:PGs X es t)(hK:X.K=K:=by rfl)
  (hn:(assignEach es X.env).length=n:=by rfl) (hst:(assignEach es X.env).findIdx? (·.1)=none:=by rfl):PG X (.Tuple es k pos) (gTup K n t):=by subst hK;exact zn8 hc h hn hst
end
structure Bx (p:Prop):Prop where
 get:p
section
variable {X:Cx} {a b c e l o i f elt tg iter target value:Expr} {es ts rest:List Expr} {st:Stmt} {sts body els:List Stmt} {ta tb tc te td ty tx tv tl to ti:TE} {tA tB':TT} {t tr:TA} {s u tb':TS} {g:TG} {gs:TGs} {wi:TI} {tt:TT}
 {pos apos cpos p pos' spos:Pos} {op op':CmpOp} {bop:Operator} {r r':R2} {lo hi:Option Expr} {tlo thi:TO}
theorem bpv (k:Nat){x:Str}{pos:Pos}(hN:X.N[k]? =some x:=by rfl)(hv:Vis X.env.scope x:=by first | exact Or.inl rfl | exact Or.inr (Or.inl rfl) | exact Or.inr (Or.inr rfl))
  (hd:(x==("__debug__" :Str))=false:=by decide) (hcd:(x==("__classdict__" :Str))=false:=by decide):Bx (PE X (.Name x pos) (tVar k)):=⟨zn3 hN hv hd hcd⟩
theorem zad {k:Int}{j pos}:Bx (PE X (.Constant (.int k) j pos) (tC (.int k))):=⟨pe_int⟩
theorem zf7 {k:Bool}{j pos}:Bx (PE X (.Constant (.bool k) j pos) (tC (.bl k))):=⟨pe_bl⟩
theorem zhI {j pos}:Bx (PE X (.Constant .none j pos) (tC .non)):=⟨pe_non⟩
theorem zar {x:Str}{j pos}:Bx (PE X (.Constant (.str x) j pos) (tC (.str x))):=⟨pe_str⟩
theorem zde {x:Str}{v:V}{w:Value}{pos:Pos}(hg:Gl X x)(hm:X.mg x=some w)(r:RelV v w)(hd:(x==("__debug__" :Str))=false:=by decide):Bx (PE X (.Name x pos) (tC v)):=⟨zoq hg hm r hd⟩
theorem znx {x:Str}{v:V}{w:Value}{pos:Pos}(hg:Gl X x)(hm:X.mg x=none)(hv:bootBuiltins x=some w)(r:RelV v w)(hn:x≠"__name__" :=by decide)(hd:(x==("__debug__" :Str))=false:=by decide):Bx (PE X (.Name x pos) (tC v)):=⟨zo1 hg hm hv r hn hd⟩
theorem zah (ho:OpR X (binaryOp bop) r)(ha:Bx (PE X a ta))(hb:Bx (PE X b tb)):Bx (PE X (.BinOp a bop b pos) (tOp r ta tb)):=⟨pe_op ho ha.1 hb.1⟩
theorem zdx {uop:UnaryOp}{r:V→Hp→VK→Prop}(ho:UnR X (unaryOp uop) r)(ha:Bx (PE X a ta)):Bx (PE X (.UnaryOp uop a pos) (tUn r ta)):=⟨pe_un ho ha.1⟩
theorem zfr (ho:OpR X (compareOp op) r)(ha:Bx (PE X a ta))(hb:Bx (PE X b tb))(hm:behindInMarks op b=false):Bx (PE X (.Compare a [op] [b] pos) (tOp r ta tb)):=⟨zo8 ho ha.1 hb.1 hm⟩
theorem zay (ho:OpR X (compareOp op) r)(ha:Bx (PE X a ta))(hb:Bx (PE X b tb))(hm:behindInMarks op b=false):Bx (PT X (.Compare a [op] [b] pos) (znU (tOp r ta tb))):=⟨zoY ho ha.1 hb.1 hm⟩
theorem zmF (ho:OpR X (compareOp op) r)(ho':OpR X (compareOp op') r')(ha:Bx (PE X a ta))(hb:Bx (PE X b tb))(hc:Bx (PE X c tc))(hm:lastMarks [op,op'] [b,c]=false:=by with_unfolding_all rfl):Bx (PT X (.Compare a [op,op'] [b,c] pos) (znU (zoe r r' ta tb tc))):=⟨znl ho ho' ha.1 hb.1 hc.1 hm⟩
theorem zlx {j pos'}(ha:Bx (PE X a ta)):Bx (PC X .Is a (.Constant .none j pos') (tIsN ta)):=⟨pc_isN ha.1⟩
theorem zm5 {j pos'}(ha:Bx (PE X a ta)):Bx (PC X .IsNot a (.Constant .none j pos') (tNotN ta)):=⟨zps ha.1⟩
theorem zo7 (hu:X.A.units+1 < cLine)(hi:Bx (PE X i ty))(ho:Bx (PE X o td)):Bx (PC X .In i o (tDIn ty td)):=⟨pc_din hu hi.1 ho.1⟩
theorem zk0 (hu:X.A.units+1 < cLine)(hi:Bx (PE X i ty))(ho:Bx (PE X o td)):Bx (PC X .NotIn i o (zmn ty td)):=⟨zmH hu hi.1 ho.1⟩
theorem zgr (h:Bx (PC X op a b te))(h1:behindInMarks op b=false:=by first | exact zkq _ (by decide) (by decide) | rfl):Bx (PT X (.Compare a [op] [b] pos) (tB te)):=⟨pt_cmp h.1 h1⟩
theorem zmT (h:Bx (PE X e te))(he:∀ zev,isTrue e X.env zev=(do let v ← zev;standAt e.pos;holding [v] (truthy v)):=by intro _;rfl):Bx (PT X e (tB te)):=⟨pt_val h.1 he⟩
theorem zh7 (h:Bx (PW X e tt)):Bx (PT X e tt):=⟨h.1.pt⟩
theorem zj2 (ha:Bx (PT X a tA)):Bx (PW X (.BoolOp .And [a] pos) tA):=⟨zoy ha.1⟩
theorem zjt (ha:Bx (PT X a tA)):Bx (PW X (.BoolOp .Or [a] pos) tA):=⟨pw_or1 ha.1⟩
theorem zlO (ha:Bx (PT X a tA))(hb:Bx (PW X (.BoolOp .And (b::rest) pos) tB')):Bx (PW X (.BoolOp .And (a::b::rest) pos) (tAnd tA tB')):=⟨pw_and ha.1 hb.1⟩
theorem zmr (ha:Bx (PT X a tA))(hb:Bx (PW X (.BoolOp .Or (b::rest) pos) tB')):Bx (PW X (.BoolOp .Or (a::b::rest) pos) (tOr tA tB')):=⟨pw_or ha.1 hb.1⟩
theorem zmR (ha:Bx (PT X a tA)):Bx (PT X (.UnaryOp .Not a pos) (tNot tA)):=⟨pt_not ha.1⟩
theorem zpC {bo}(h:Bx (PE X a te)):Bx (PE X (.BoolOp bo [a] pos) te):=⟨pe_one h.1⟩
theorem zo9 (ha:Bx (PE X a ta))(hb:Bx (PE X (.BoolOp .And (b::rest) pos) tb)):Bx (PE X (.BoolOp .And (a::b::rest) pos) (tAndV ta tb)):=⟨pe_and ha.1 hb.1⟩
theorem zpk (ha:Bx (PE X a ta)):Bx (PE X (.UnaryOp .Not a pos) (tNotV ta)):=⟨pe_not ha.1⟩
theorem zi7 (hc:Bx (PT X c tA))(ha:Bx (PE X a ta))(hb:Bx (PE X b tb)):Bx (PE X (.IfExp c a b pos) (tIf tA ta tb)):=⟨znW hc.1 ha.1 hb.1⟩
theorem zac:Bx (PA X [] tNil):=⟨pa_nil⟩
theorem zaa (ha:Bx (PE X e te))(hr:Bx (PA X es t))(hs:starEach (e::es) X.env=(false,eval e X.env)::starEach es X.env:=by rfl):Bx (PA X (e::es) (tCons te t)):=⟨zpl ha.1 hr.1 hs⟩
theorem zax {x1}(h:Bx (PA X es t)):Bx (PE X (.Tuple es x1 pos) (tTup t)):=⟨pe_tup h.1⟩
theorem zat (h:Bx (PA X es t)):Bx (PE X (.List es pos) (tLst t)):=⟨pe_lst h.1⟩
theorem zan (hr:IxR X r)(ha:Bx (PE X a ta))(hb:Bx (PE X b tb))(hs:zlr b):Bx (PE X (.Subscript a b pos) (tOp r ta tb)):=⟨pe_ix hr ha.1 hb.1 hs⟩
theorem znt (hu:X.A.units+1 < cLine)(ho:Bx (PE X o td))(hi:Bx (PE X i ty))(hs:NoSl i):Bx (PE X (.Subscript o i pos) (tDGet td ty)):=⟨zpE hu ho.1 hi.1 hs⟩
theorem zgu (hu:X.A.units+1 < cLine)(ho:Bx (PE X o td))(he:Bx (PE X e ty))(hf:Bx (PE X f tx))(m:M2 X o "get" apos e f cpos):Bx (PE X (.Call (.Attribute o "get" apos) [e,f] [] cpos) (zoj td ty tx)):=⟨znM hu ho.1 he.1 hf.1 m⟩
theorem zgl:Bx (PE X (.Dict [] [] pos) zob):=⟨znc⟩
theorem zbE:Bx (PO X none zme):=⟨zoM⟩
theorem zaH (h:Bx (PE X e te)):Bx (PO X (some e) (tPart te)):=⟨zoA h.1⟩
theorem zaK {r:V→Option Int→Option Int→Hp→VK→Prop}{p2:Pos}(hr:SlR X r)(he:Bx (PE X e te))(hl:Bx (PO X lo tlo))(hu:Bx (PO X hi thi)):Bx (PE X (.Subscript e (.Slice lo hi none p2) pos) (tSl r te tlo thi)):=⟨znp hr he.1 hl.1 hu.1⟩
theorem zaw {r:List V→Hp→VK→Prop}{x:Str}{id:String}(hc:zcB X (.builtin id) r)(hg:Gl X x)(hm:X.mg x=none)(hv:bootBuiltins x=some (.builtin id))(ha:Bx (PA X (e::es) t))(hn:x≠"__name__" :=by decide)(hdb:(x==("__debug__" :Str))=false:=by decide)
  (he:starEach (e::es) X.env=(false,eval e X.env)::starEach es X.env:=by rfl) (hpl:(backTo pos (starEach es X.env)).any (·.1)=false:=by rfl):Bx (PE X (.Call (.Name x p) (e::es) [] pos) (tCB r t)):=⟨zn1 hc hg hm hv ha.1 hn hdb he hpl⟩
theorem zcx {r:List V→Hp→VK→Prop}{x:Str}{T:String}(hc:zcB X (.type T) r)(hg:Gl X x)(hm:X.mg x=none)(hv:bootBuiltins x=some (.type T))(ha:Bx (PA X (e::es) t))(hn:x≠"__name__" :=by decide)(hdb:(x==("__debug__" :Str))=false:=by decide)
  (he:starEach (e::es) X.env=(false,eval e X.env)::starEach es X.env:=by rfl) (hpl:(backTo pos (starEach es X.env)).any (·.1)=false:=by rfl):Bx (PE X (.Call (.Name x p) (e::es) [] pos) (tCB r t)):=⟨zmy hc hg hm hv ha.1 hn hdb he hpl⟩
theorem zal {CX:CXT}{k:Nat}{fa:Addr}{fd:FuncData}{ps:List Str}{sp:Sp}{dvs:List V}{ds:List Value}{E:XK}{x:Str}(F:FnOk X.prog X.w X.K X.mg X.base CX k fa fd ps sp)(hr:Room k X.A)(hg:Gl X x)(hm:X.mg x=some (.ref fa))(hk:PySem.W.keepIn X.K (.ref fa)=true)
  (hb:zfy X.K fd ps ds) (hd:Vals dvs ds) (hx:zhW CX X E) (ha:Bx (PA X (e::es) t)) (hdb:(x==("__debug__" :Str))=false:=by decide)
  (he:starEach (e::es) X.env=(false,eval e X.env)::starEach es X.env:=by rfl) (hpl:(backTo pos (starEach es X.env)).any (·.1)=false:=by rfl):Bx (PE X (.Call (.Name x p) (e::es) [] pos) (tCall sp dvs E t)):=⟨zoO F hr hg hm hk hb hd hx ha.1 hdb he hpl⟩
theorem zcG {name:Str}{T id:String}{r:V→List V→Hp→VK→Prop}(pa:PlainAttrs T)(slot:Slot T name id)(hty:typeOf (.builtin id)=pure (.type "method_descriptor"))(hm:MtR X id r)(ho:Bx (PE X o to))(ha:Bx (PA X (e::es) t))
  (h1:attributeBase o name X.env (eval o X.env)=eval o X.env:=by rfl)
  (h2:((backTo cpos (starEach (e::es) X.env)).all (fun x=>!x.1) && (backToKw cpos (keywordEach [] X.env)).all (fun x=>x.1.isSome) && decide ((e::es).length+([]:List Keyword).length+(if ([]:List Keyword).isEmpty then 0 else 1) < 30))=true:=by rfl)
  (h3:(apos.endLine==cpos.line)=true:=by rfl) (h4:starEach (e::es) X.env=(false,eval e X.env)::starEach es X.env:=by rfl) (h5:(backTo cpos (starEach es X.env)).any (·.1)=false:=by rfl):
  Bx (PE X (.Call (.Attribute o name apos) (e::es) [] cpos) (tBM X.K T r to t)):=⟨pe_bm pa slot hty hm ho.1 ha.1 h1 h2 h3 h4 h5⟩
theorem zoW {name:Str}{T id:String}{r:V→List V→Hp→VK→Prop}(pa:PlainAttrs T)(slot:Slot T name id)(hty:typeOf (.builtin id)=pure (.type "method_descriptor"))(hm:MtR X id r)(ho:Bx (PE X o to))
  (hbase:attributeBase o name X.env (eval o X.env)=eval o X.env:=by rfl) (hline:(apos.endLine==cpos.line)=true:=by rfl):Bx (PE X (.Call (.Attribute o name apos) [] [] cpos) (tBM0 X.K T r to)):=⟨pe_bm0 pa slot hty hm ho.1 hbase hline⟩
theorem zaB:Bx (PSs X [] tNext):=⟨zpB⟩
theorem zaf (h1:Bx (PS X st s))(h2:Bx (PSs X sts u)):Bx (PSs X (st::sts) (tSeq s u)):=⟨zn0 h1.1 h2.1⟩
theorem zag (h1:Bx (PS X st s)):Bx (PSs X [st] s):=⟨zpr h1.1⟩
theorem zbv (he:Bx (PE X e te))(hs:swapsWith e none pos.line X.env=pure false:=by rfl):Bx (PS X (.Expr e pos) (tDrop te)):=⟨zph he.1 hs⟩
theorem zap (he:Bx (PE X e te)):Bx (PS X (.Return (some e) pos) (tRet te)):=⟨ps_ret he.1⟩
theorem zaT (hc:Bx (PT X c tA))(ha:Bx (PSs X body s))(hb:Bx (PSs X els u)):Bx (PS X (.If c body els pos) (tIfS tA s u)):=⟨ps_if hc.1 ha.1 hb.1⟩
theorem zam {k:Nat}{x:Str}(hN:X.N.Nodup)(hi:X.N[k]? =some x)(hx:Loc X.env.scope x)(hf:X.fn x=true∨X.env.scope.names.lookup x=some .local:=by first | exact .inl rfl | exact .inr rfl | assumption):Bx (PG X (.Name x pos) (zdM k)):=⟨zov hN hi hx hf⟩
theorem zbH:Bx (PGs X [] gNil):=⟨zpb⟩
theorem zaz (h1:Bx (PG X e g))(h2:Bx (PGs X es gs))(hs:(assignEach (e::es) X.env).map (·.2)=assign e X.env::(assignEach es X.env).map (·.2):=by rfl):Bx (PGs X (e::es) (zja g gs)):=⟨znb h1.1 h2.1 hs⟩
theorem zeW {k n:Nat}(hc:X.calm=true)(h:Bx (PGs X es gs))(hn:(assignEach es X.env).length=n:=by rfl)(hst:(assignEach es X.env).findIdx? (·.1)=none:=by rfl):Bx (PG X (.Tuple es k pos) (gTup X.K n gs)):=⟨zn8 hc h.1 hn hst⟩
theorem zd6 {K:PySem.W.Frag}{k n:Nat}(hc:X.calm=true)(h:Bx (PGs X es gs))(hK:X.K=K:=by rfl)(hn:(assignEach es X.env).length=n:=by rfl)(hst:(assignEach es X.env).findIdx? (·.1)=none:=by rfl):Bx (PG X (.Tuple es k pos) (gTup K n gs)):=⟨zpn hc h.1 hK hn hst⟩
theorem zpu (he:Bx (PE X e te))(hg:Bx (PG X tg g))(hs:swapsWithSole [tg] e pos.line X.env=pure false:=by rfl)(hw:swappedStores [tg] e X.env=pure none:=by rfl)
  (h1:(assignEach [tg] X.env).map (·.2)= [assign tg X.env]:=by rfl):Bx (PS X (.Assign [tg] e pos) (tAsg te g)):=⟨ps_asg he.1 hg.1 hs hw h1⟩
theorem zai {k:Nat}{x:Str}(hN:X.N.Nodup)(hi:X.N[k]? =some x)(hx:Loc X.env.scope x)(he:Bx (PE X e te))(hs:swapsWith e (some (.Name x pos')) pos.line X.env=pure false:=by rfl)(hf:X.fn x=true∨X.env.scope.names.lookup x=some .local:=by first | exact .inl rfl | exact .inr rfl | assumption):
  Bx (PS X (.Assign [.Name x pos'] e pos) (tAsg te (zdM k))):=⟨ps_set hN hi hx he.1 hs hf⟩
theorem znd (hu:X.A.units+1 < cLine)(ho:Bx (PE X o td))(hi:Bx (PE X i ty))(hv:Bx (PE X value tv))(hs:swapsWith value (some (.Subscript o i pos')) pos.line X.env=pure false:=by rfl):Bx (PS X (.Assign [.Subscript o i pos'] value pos) (sDPut td ty tv)):=⟨zox hu ho.1 hi.1 hv.1 hs⟩
theorem za4 (hp:PassesOwn (model X.prog X.w) X.A X.env X.xe)(hc:X.calm=true)(hi:Bx (PI X tg iter wi))(hg:Bx (PG X tg g))(hb:Bx (PSs X body tb'))(hs:∀ x,foldedSetIterable iter X.env x=pure x:=by intro _;rfl):Bx (PS X (.For tg iter body [] pos) (tFor wi g tb')):=⟨ps_for hp hc hi.1 hg.1 hb.1 hs⟩
theorem zaJ (hl:Bx (PE X l tl)):Bx (PI X tg l (iList X.K tl)):=⟨zot hl.1⟩
theorem zmb (hl:Bx (PE X l tl)):Bx (PI X tg l (iTup X.K tl)):=⟨pi_tup hl.1⟩
theorem zaU (hg:Gl X "range")(hm:X.mg "range" =none)(ha:Bx (PA X [a] t))(hs:starEach [a] X.env= [(false,eval a X.env)]:=by rfl):Bx (PI X tg (.Call (.Name "range" p) [a] [] pos) (iRng1 t)):=⟨zlS hg hm ha.1 hs⟩
theorem zdi {elts:List Expr}{k:Nat}{tp:Pos}(hg:Gl X "enumerate")(hm:X.mg "enumerate" =none)(ha:Bx (PA X [a] t))(hs:starEach [a] X.env= [(false,eval a X.env)]:=by rfl):Bx (PI X (.Tuple elts k tp) (.Call (.Name "enumerate" p) [a] [] pos) (iEnum X.K t)):=⟨zpq hg hm ha.1 hs⟩
theorem zaI:Bx (PTs X [] tYes):=⟨zpx⟩
theorem znh (h:Bx (PT X c tA)):Bx (PTs X [c] tA):=⟨zpg h.1⟩
theorem zaO {ifs:List Expr}{scope:Scope}{N:List Str}{n:Nat}{cap:List Nat}(hc:X.calm=true)(B:Blk X scope N n cap)(hi:Bx (PI X tg iter wi))(hk:zjk n g)
  (hg:∀ cl fp s H,Bx (PG (zbn X N scope cl fp s H) tg g)) (ht:∀ cl fp s H,Bx (PTs (zbn X N scope cl fp s H) ifs tt)) (he:∀ cl fp s H,Bx (PE (zbn X N scope cl fp s H) elt te))
  (hs:∀ x,foldedSetIterable iter X.env x=pure x:=by intro _;rfl):Bx (PE X (.ListComp elt [⟨tg,iter,ifs,0⟩] scope pos) (znX n cap wi g tt te)):=
 ⟨zo0 hc B hi.1 hk (fun cl fp s H=>(hg cl fp s H).1) (fun cl fp s H=>(ht cl fp s H).1) (fun cl fp s H=>(he cl fp s H).1) hs⟩
theorem zfp {ifs:List Expr}{scope:Scope}{N:List Str}{n:Nat}{cap:List Nat}{k:Nat}{x:Str}(hc:X.calm=true)(B:Blk X scope N n cap)(hN:X.N.Nodup)(hi:X.N[k]? =some x)(hx:X.env.scope.names.lookup x=some .local)(hit:Bx (PI X tg iter wi))(hk:zjk n g)
  (hg:∀ cl fp s H,Bx (PG (zbn X N scope cl fp s H) tg g)) (ht:∀ cl fp s H,Bx (PTs (zbn X N scope cl fp s H) ifs tt)) (he:∀ cl fp s H,Bx (PE (zbn X N scope cl fp s H) elt te))
  (hsw:swapsWith (.ListComp elt [⟨tg,iter,ifs,0⟩] scope pos) (some (.Name x pos')) spos.line X.env=pure true) (hs:∀ x,foldedSetIterable iter X.env x=pure x:=by intro _;rfl):
  Bx (PS X (.Assign [.Name x pos'] (.ListComp elt [⟨tg,iter,ifs,0⟩] scope pos) spos) (tAsg (znX n cap wi g tt te) (zdM k))):=
 ⟨zpf hc B hN hi hx hit.1 hk (fun cl fp s H=>(hg cl fp s H).1) (fun cl fp s H=>(ht cl fp s H).1) (fun cl fp s H=>(he cl fp s H).1) hsw hs⟩
end
section
variable {P:Program} {w:World} {K:PySem.W.Frag} {mg:Str→Option Value} {base:Heap}
theorem Fun.okB {x qual:Str}{st:Stmt}{f:Addr}{fd:FuncData}{N ps:List Str}{k:Nat}{sp:Sp}(F:Fun K x qual st f fd)(S:zav N ps (zaj st))(len:∀ vs H Q E,sp vs H Q E→vs.length=ps.length)
  (hbody:∀ (cdv:Value) (A:Around) (outer:List Env) (s:Shared) (H:Hp) (vs:List V) (Q:VK) (E:XK),Room k (A.deeper (envOfC qual (zaj st) s.heap.objs.size f cdv))→sp vs H Q E→
   ∃ t,Bx (PSs (cxOf CX0 P w K mg base N qual (zaj st) f cdv A outer s H E).nox (zbp st) t)∧t {nx:=fun _ H'=>Q .non H',rt:=Q} (start N vs) H):FnOk P w K mg base CX0 (k+1) f fd ps sp:=
 F.ok S len fun cdv A outer s H vs Q E hr h=>let ⟨t,a,b⟩:=hbody cdv A outer s H vs Q E hr h;⟨t,a.1,b⟩
end
section
variable {X:Cx}
theorem zno {bs:List Bool}:∀ {us:List Value} {j:Nat} {v:Value},Vals (bs.map V.bl) us→us[j]? =some v→∃ b,bs[j]? =some b∧v= .bool b:=by
 intro us j v r h
 have hl:=r.length
 have hj:j < us.length:=(yG.mp h).1
 have hb:j < bs.length:=by rw [yA] at hl;omega
 obtain ⟨u,hu,ru⟩:=r.get (i:=j) (x:=.bl bs[j]) (by simp [hb])
 rw [h] at hu
 cases hu
 exact ⟨bs[j],by simp [hb],ru⟩
theorem zls (bs:List Bool):(qI bs.length).all (fun j=>(bs[j]?).getD true)=bs.all id:=by
 rw [vH,yX,yX]
 constructor
 ·intro h b hb
  obtain ⟨j,hj,e⟩:=List.mem_iff_getElem.mp hb
  have:=h j (qE.mpr hj)
  rw [yC hj] at this
  simpa [e] using this
 ·intro h j hj
  have hj:=qE.mp hj
  rw [yC hj]
  exact h _ (jO hj)
theorem zgk (hc:X.calm=true):zcB X (.builtin "all") (fun xs H Q=>∃ (p:Addr) (bs:List Bool),xs= [.ref p]∧SqL X.K H p (bs.map V.bl)∧Q (.bl (bs.all id)) H):=by
 intro pins s σ H xs us Q I r ⟨p,bs,e,hq,q⟩
 subst e
 obtain ⟨u,rfl,rx⟩:=zjf r
 cases rx
 obtain ⟨its,rv,pl,hz⟩:=I.list hq
 have hl:its.toArray.size=bs.length:=by
  have:=rv.length
  simpa using this.symm
 have hlt:p < s.heap.objs.size:=by
  obtain ⟨o,ho,_⟩:=pl.isList
  exact yU ho
 refine call_all_walk (wpAny_pyIter_list pl.isList ?_)
 refine ⟨_,_,_,_,_,_,fun j=>(bs[j]?).getD true,rfl,yb5 (A:=X.A.in1) (I.ok.hd hc) _ p (qC hlt) its.toArray,⟨⟨_,yW _ rfl,rfl,rfl⟩,pl.isList.at fun o e=>yH _ e⟩,?_,fun h' tk hk=>?_⟩
 ·intro j v s' Q' E' hv hQ
  obtain ⟨b,hb,rfl⟩:=zno rv (show its[j]? =some v by simpa using hv)
  dsimp only at hQ
  rw [hb] at hQ
  exact wpAny_truthy_bool hQ
 ·rw [hl,zls]
  refine ⟨.bl _,H,I.kept (t':=tk) fun b o e=>hk b o ?_ (yH _ e),rfl,q⟩
  intro z
  have:b=s.heap.objs.size:=by simpa using z
  exact qC (yU e) this
end
open PySem.W (Dat kqdP kqdPs kqdOk)
theorem zae {H:Hp}{p:Addr}(h:H p=none)(o:HO):Same H (upd H p o):=fun b u q=>by rw [zak (zao q h)];exact q
theorem Same.upd {H H':Hp}(s:Same H H'){p:Addr}(h:H' p=none)(o:HO):Same H (upd H' p o):=s.trans (zae h o)
theorem Same.write {H H':Hp}(s:Same H H'){p:Addr}(h:H p=none)(o:HO):Same H (L2.upd H' p o):=fun b u q=>by rw [zak (zao q h)];exact s b u q
noncomputable def zdB (p:Addr) (H H':Hp):Prop:=∀ b o,b≠p→H b=some o→H' b=some o
theorem zdB.refl (p:Addr)(H:Hp):zdB p H H:=fun _ _ _ h=>h
theorem Same.b {H H':Hp}(s:Same H H')(p:Addr):zdB p H H':=fun b o _ h=>s b o h
theorem zdB.trans {p:Addr}{H H1 H2:Hp}(a:zdB p H H1)(b:zdB p H1 H2):zdB p H H2:=fun c o n h=>b c o n (a c o n h)
theorem zdB.write {p:Addr}{H H1:Hp}(a:zdB p H H1)(o:HO):zdB p H (L2.upd H1 p o):=fun c u n h=>by rw [zak n];exact a c u n h
theorem zdB.same {p:Addr}{G H H1:Hp}(s:Same G H)(g:G p=none)(a:zdB p H H1):Same G H1:=fun b o q=>a b o (zao q g) (s b o q)
structure Bld (K:PySem.W.Frag) (H0:Hp) (p:Addr) (xs:List V) (ds:List Dat) (H:Hp):Prop where
 ex:∃ G,Same H0 G∧Same G H∧G p=none∧Reps K G xs ds
 at_:H p=some (.lst xs)
section
variable {K:PySem.W.Frag} {H0 H:Hp} {p T:Addr} {xs vs:List V} {ds es:List Dat}
theorem Bld.start (h:H0 p=none):Bld K H0 p [] [] (upd H0 p (.lst [])):=⟨⟨H0,Same.refl _,zae h _,h,.nil⟩,zab⟩
theorem Bld.same (b:Bld K H0 p xs ds H):Same H0 H:=by
 obtain ⟨G,a,c,_⟩:=b.ex
 exact a.trans c
theorem Bld.out (b:Bld K H0 p xs ds H):H0 p=none:=by
 obtain ⟨G,a,_,c,_⟩:=b.ex
 exact a.free c
theorem Bld.reps (b:Bld K H0 p xs ds H):Reps K H xs ds:=by
 obtain ⟨G,_,a,_,r⟩:=b.ex
 exact r.mono a
theorem Bld.len (b:Bld K H0 p xs ds H):xs.length=ds.length:=b.reps.length
theorem Bld.sq (b:Bld K H0 p xs ds H):SqL K H p xs:=.of b.at_
theorem Bld.rep (b:Bld K H0 p xs ds H):Rep K H (.ref p) (.list ds):=.lst b.sq b.reps
theorem Bld.new (b:Bld K H0 p xs ds H)(h:H T=none)(o:HO):Bld K H0 p xs ds (upd H T o):=by
 obtain ⟨G,a,c,n,r⟩:=b.ex
 exact ⟨⟨G,a,c.upd h o,n,r⟩,by rw [zak (zao b.at_ h)];exact b.at_⟩
theorem Bld.grow {H':Hp}(b:Bld K H0 p xs ds H)(s:Same H H'):Bld K H0 p xs ds H':=by
 obtain ⟨G,a,c,n,r⟩:=b.ex
 exact ⟨⟨G,a,c.trans s,n,r⟩,s _ _ b.at_⟩
theorem Bld.other {q:Addr}{o:HO}(b:Bld K H0 p xs ds H)(hq:q≠p)(hG:∀ G,Same H0 G→Same G H→G p=none→Reps K G xs ds→∃ G',Same H0 G'∧Same G' H∧G' p=none∧G' q=none∧Reps K G' xs ds):Bld K H0 p xs ds (upd H q o):=by
 obtain ⟨G,a,c,n,r⟩:=b.ex
 obtain ⟨G',a',c',n',nq,r'⟩:=hG G a c n r
 exact ⟨⟨G',a',c'.write nq o,n',r'⟩,by rw [zak (xU hq)];exact b.at_⟩
theorem Bld.push {v:V}{d:Dat}(b:Bld K H0 p xs ds H)(r:Rep K H0 v d):Bld K H0 p (xs++ [v]) (ds++ [d]) (upd H p (.lst (xs++ [v]))):=by
 obtain ⟨G,a,c,n,rs⟩:=b.ex
 exact ⟨⟨G,a,c.write n _,n,rs.snoc (r.mono a)⟩,zab⟩
theorem Bld.pushT (b:Bld K H0 p xs ds H)(h:H T=none)(r:Reps K H0 vs es):Bld K H0 p (xs++ [.ref T]) (ds++ [.tuple es]) (upd (upd H T (.tup vs)) p (.lst (xs++ [.ref T]))):=by
 obtain ⟨G,a,c,n,rs⟩:=b.ex
 have hT:G T=none:=c.free h
 have pT:p≠T:=zao b.at_ h
 have s1:Same G (upd G T (.tup vs)):=zae hT _
 refine ⟨⟨upd G T (.tup vs),a.trans s1,fun x u q=>?_,by rw [zak pT];exact n,(rs.mono s1).snoc (.tup (.of zab) ((r.mono a).mono s1))⟩,zab⟩
 by_cases e:x=T
 ·subst e
  rw [zab] at q
  rw [zak (xU pT),zab]
  exact q
 ·rw [zak e] at q
  rw [zak (zao q n),zak e]
  exact c x u q
end
theorem big {n:Nat}(h:n≤100000):n < yL:=ybS h (by decide)
theorem bigE {n:Nat}(h:n≤100000):n≤yL:=kU (big h)
end L2
namespace L2
open PySem PySem.Spec PyProof.Rows
open PySem.W (Dat kqdP kqdPs kqdOk)
noncomputable def rInD (K:PySem.W.Frag) (neg:Bool):R2:=fun x y H Q=>∃ d ds,Rep K H x d∧Rep K H y (.list ds)∧kqdOk 8 d=true∧(∀ e∈ds,kqdOk 8 e=true)∧(d∈ds→Q (.bl (!neg)) H)∧(d∉ds→Q (.bl neg) H)
section
variable {X:Cx}
open Classical in
theorem zlh {pins:List (Addr×Obj)}{σ :St}{H:Hp}{s:Shared}{x y:V}{v u:Value}{d:Dat}{ds:List Dat}(I:Inv X pins σ H s)(hu:X.A.units+64 < cLine)(rx:RelV x v)(ry:RelV y u)
  (hx:Rep X.K H x d) (hy:Rep X.K H y (.list ds)) (kd:kqdOk 8 d=true) (ks:∀ e∈ds,kqdOk 8 e=true):
  ∃ (p:Addr) (its:List Value) (e:Value→Bool),u= .ref p∧s.heap.IsList p its.toArray∧(∀ z,z∈its.toArray→jY X.A.in1 s z v (e z))∧(its.toArray.any e=true↔d∈ds):=by
 cases hy with
 | lst hq rq=>
  cases (show _=_ from ry)
  obtain ⟨its,r,pl,hz⟩:=I.list hq
  obtain ⟨as,ra⟩:=Rep.reads I 8 hx rx kd
  have room:∀ di,kqdOk 8 di=true→X.A.in1.units+min (kqdP di).depth (kqdP d).depth < cLine:=fun di k=>by
   have l:=(PySem.W.kqd_lay 8 di k).2
   rw [Around.in1_units]
   omega
  have back:∀ {xs:List V} {us:List Value} {i:Nat} {u:Value},Vals xs us→us[i]? =some u→∃ x,xs[i]? =some x∧RelV x u:=fun {xs us i u} r e=>by
   have hi:i < xs.length:=by rw [r.length];exact (yG.mp e).1
   obtain ⟨u',h1,h2⟩:=r.get (yC hi)
   rw [e] at h1
   cases h1
   exact ⟨_,yC hi,h2⟩
  have each:∀ z∈its,∃ di,di∈ds∧∃ bs,Reads s.heap z (kqdP di) bs:=by
   intro z hz
   obtain ⟨i,hi⟩:=xY hz
   obtain ⟨w,hw,rw'⟩:=back r hi
   obtain ⟨di,hdi,rdi⟩:=rq.get hw
   exact ⟨di,yI hdi,Rep.reads I 8 rdi rw' (ks di (yI hdi))⟩
  have same:∀ di,di∈ds→kqdP di=kqdP d→di=d:=fun di hd e=>by
   have z:=(PySem.W.kqd_eqv 8 d d 8 kd kd).mpr rfl
   exact (PySem.W.kqd_eqv 8 di d 8 (ks di hd) kd).mp (by rw [e];exact z)
  refine ⟨_,its,fun z=>decide (∃ bs,Reads s.heap z (kqdP d) bs),rfl,pl.isList,fun z hz=>?_,?_⟩
  ·obtain ⟨di,hd,bs,rb⟩:=each z (by simpa using hz)
   have q:=SeqAt.eqAt_reads _ _ X.A.in1 s z v bs as rb ra (wH (zcc (ks di hd))) (wH (zcc kd)) (room di (ks di hd))
   have e:wQ (kqdP di) (kqdP d)=decide (∃ bs,Reads s.heap z (kqdP d) bs):=by
    by_cases h:di=d
    ·subst h
     rw [(PySem.W.kqd_eqv 8 di di 8 kd kd).mpr rfl]
     exact (decide_eq_true ⟨bs,rb⟩).symm
    ·have e1:wQ (kqdP di) (kqdP d)=false:=by
      cases c:wQ (kqdP di) (kqdP d) with
      | true=>exact absurd ((PySem.W.kqd_eqv 8 di d 8 (ks di hd) kd).mp c) h
      | false=>rfl
     rw [e1]
     refine (decide_eq_false ?_).symm
     rintro ⟨cs,rc⟩
     exact h (same di hd (ybU _ _ z bs cs (wH (zcc (ks di hd))) rb rc))
   show jY X.A.in1 s z v (decide (∃ bs,Reads s.heap z (kqdP d) bs))
   rw [← e]
   exact q
  ·rw [Array.any_eq_true']
   constructor
   ·rintro ⟨z,hz,c⟩
    obtain ⟨cs,rc⟩:=of_decide_eq_true c
    obtain ⟨di,hd,bs,rb⟩:=each z (by simpa using hz)
    have:=same di hd (ybU _ _ z bs cs (wH (zcc (ks di hd))) rb rc)
    exact this ▸ hd
   ·intro hd
    obtain ⟨i,hi⟩:=xY hd
    obtain ⟨w,hw,rw'⟩:=rq.getD hi
    obtain ⟨z,hz,rz⟩:=r.get hw
    exact ⟨z,by simpa using yI hz,decide_eq_true (Rep.reads I 8 rw' rz kd)⟩
theorem op_inD (hu:X.A.units+64 < cLine):OpR X (compareOp .In) (rInD X.K false):=by
 intro pins s σ H x y v u Q I rx ry ⟨d,ds,hx,hy,kd,ks,q1,q2⟩
 obtain ⟨p,its,e,rfl,hl,he,hm⟩:=zlh I hu rx ry hx hy kd ks
 refine yck e hl he ?_
 by_cases h:d∈ds
 ·rw [hm.mpr h]
  exact ⟨.bl true,H,I,rfl,q1 h⟩
 ·have z:its.toArray.any e=false:=by
   cases c:its.toArray.any e with
   | true=>exact absurd (hm.mp c) h
   | false=>rfl
  rw [z]
  exact ⟨.bl false,H,I,rfl,q2 h⟩
theorem ziA (hu:X.A.units+64 < cLine):OpR X (compareOp .NotIn) (rInD X.K true):=by
 intro pins s σ H x y v u Q I rx ry ⟨d,ds,hx,hy,kd,ks,q1,q2⟩
 obtain ⟨p,its,e,rfl,hl,he,hm⟩:=zlh I hu rx ry hx hy kd ks
 refine SeqAt.notIn_listAt e hl he ?_
 by_cases h:d∈ds
 ·rw [hm.mpr h]
  exact ⟨.bl false,H,I,rfl,q1 h⟩
 ·have z:its.toArray.any e=false:=by
   cases c:its.toArray.any e with
   | true=>exact absurd (hm.mp c) h
   | false=>rfl
  rw [z]
  exact ⟨.bl true,H,I,rfl,q2 h⟩
end
section
variable {X:Cx} {K:PySem.W.Frag}
theorem zo5 (hu:X.A.units+64 < cLine)(h:X.K=K:=by rfl):OpR X (compareOp .In) (rInD K false):=by subst h;exact op_inD hu
end
section
variable {g:TG} {tt:TT} {te:TE} {n0:Nat} {cap:List Nat} {σ :St} {Q:VK} {D:Addr} {H1:Hp} {K:PySem.W.Frag}
theorem zfJ {a:Addr}{xs:List V}(Pv:Nat→Hp→Prop)(h0:Pv 0 (upd H1 D (.lst [])))(hl:∀ i H,i≤xs.length→Pv i H→SqL K H a xs)
  (hs:∀ i x H T,xs[i]? =some x→Pv i H→H T=none→g (.ref T) (zbK n0 cap σ) (upd H T (.tup [.int i,x])) fun σ2 H2=>tt σ2 H2 fun b H3=>if b=true then te σ2 H3 fun y H4=>∃ xs,H4 D=some (.lst xs)∧xs.length < yL∧Pv (i+1) (upd H4 D (.lst (xs++ [y]))) else Pv (i+1) H3)
  (hd:∀ H,Pv xs.length H→Q (.ref D) H):
  zdP (Ite K a) D n0 cap σ g tt te Q H1:=by
 refine ⟨fun i m H=>m=xs.length - i∧i≤xs.length∧Pv i H,⟨xs.length,by simp,qN _,h0⟩,?_⟩
 rintro i m H ⟨rfl,hi,p⟩
 have q:=hl i H hi p
 by_cases hlt:i < xs.length
 ·refine .inr ⟨⟨xs,xs[i],q,by simp [hlt]⟩,Pv (i+1),fun H' p'=>⟨xs.length - (i+1),by omega,rfl,hlt,p'⟩,fun x H' y=>?_⟩
  obtain ⟨T,z,hT,e1,e2,y⟩:=y
  subst e1 e2
  exact hs i z H T (y xs q) p hT
 ·have e:i=xs.length:=by omega
  subst e
  exact .inl ⟨⟨xs,q,yN _⟩,hd H p⟩
end
end L2
namespace L2
open PySem PySem.Spec PyProof.Rows
open PySem.W (Dat kqdP kqdPs kqdOk)
structure Off (M:List Addr) (G H:Hp):Prop where
 same:Same G H
 out:∀ m∈M,G m=none
 there:∀ m∈M,∃ o,H m=some o
section
variable {M:List Addr} {G G1 G2 H H':Hp} {T m:Addr} {o u:HO}
theorem Off.ne (f:Off M G H)(h:H T=none):T∉M:=fun z=>by
 obtain ⟨o,e⟩:=f.there T z
 rw [h] at e
 cases e
theorem Off.ne' (f:Off M G H)(h:H T=none)(hm:m∈M):m≠T:=fun z=>f.ne h (z ▸ hm)
theorem Off.new (f:Off M G H)(h:H T=none)(o:HO):Off M G (upd H T o):=⟨f.same.upd h o,f.out,fun m hm=>by
 obtain ⟨u,e⟩:=f.there m hm
 exact ⟨u,zae h o _ _ e⟩⟩
theorem Off.grow (f:Off M G H)(s:Same H H'):Off M G H':=⟨f.same.trans s,f.out,fun m hm=>by
 obtain ⟨u,e⟩:=f.there m hm
 exact ⟨u,s _ _ e⟩⟩
theorem Off.add (f:Off M G H)(h:H T=none)(o:HO):Same G (upd G T o):=zae (f.same.free h) o
theorem Off.lay (f:Off M G H)(h:H T=none)(o:HO):Off M (upd G T o) (upd H T o):=⟨fun b v q=>by
  by_cases e:b=T
  ·subst e
   rw [zab] at q ⊢
   exact q
  ·rw [zak e] at q ⊢
   exact f.same b v q,
 fun m hm=>by rw [zak (f.ne' h hm)];exact f.out m hm,(f.new h o).there⟩
theorem Off.write (f:Off M G H)(hm:m∈M)(o:HO):Off M G (upd H m o):=⟨f.same.write (f.out m hm) o,f.out,fun k hk=>by
 by_cases e:k=m
 ·subst e
  exact ⟨o,zab⟩
 ·obtain ⟨u,e'⟩:=f.there k hk
  exact ⟨u,by rw [zak e];exact e'⟩⟩
theorem Off.sb (f:Off M G H)(hm:m∈M)(s:zdB m H H')(e:H' m=some o):Off M G H':=⟨s.same f.same (f.out m hm),f.out,fun k hk=>by
 by_cases ek:k=m
 ·subst ek
  exact ⟨o,e⟩
 ·obtain ⟨u,e'⟩:=f.there k hk
  exact ⟨u,s k u ek e'⟩⟩
theorem Off.opn (f:Off M G H)(h:H T=none)(o:HO):Off (T::M) G (upd H T o):=⟨f.same.upd h o,fun m hm=>by
  rcases yO.mp hm with rfl | hm
  ·exact f.same.free h
  ·exact f.out m hm,
 fun m hm=>by
  rcases yO.mp hm with rfl | hm
  ·exact ⟨o,zab⟩
  ·exact (f.new h o).there m hm⟩
theorem Off.drop (f:Off (m::M) G H):Off M G H:=⟨f.same,fun k hk=>f.out k (.tail _ hk),fun k hk=>f.there k (.tail _ hk)⟩
theorem Off.less {N:List Addr}(f:Off M G H)(h:∀ k∈N,k∈M):Off N G H:=⟨f.same,fun k hk=>f.out k (h k hk),fun k hk=>f.there k (h k hk)⟩
theorem Off.close (f:Off (m::M) G H)(e:H m=some o)(hn:m∉M):Off M (upd G m o) H:=⟨fun b v q=>by
  by_cases eb:b=m
  ·subst eb
   rw [zab] at q
   rw [e]
   exact q
  ·rw [zak eb] at q
   exact f.same b v q,
 fun k hk=>by
  have:k≠m:=fun z=>hn (z ▸ hk)
  rw [zak this]
  exact f.out k (.tail _ hk),fun k hk=>f.there k (.tail _ hk)⟩
theorem Off.cadd (f:Off (m::M) G H)(o:HO):Same G (upd G m o):=zae (f.out m (.head _)) o
theorem Off.take {a:Addr}(f:Off M G H)(e:H a=some o)(hn:a∉M):Off M (upd G a o) H∧Same G (upd G a o):=by
 refine ⟨⟨fun b v q=>?_,fun k hk=>?_,f.there⟩,fun b v q=>?_⟩
 ·by_cases eb:b=a
  ·subst eb
   rw [zab] at q
   rw [e]
   exact q
  ·rw [zak eb] at q
   exact f.same b v q
 ·have:k≠a:=fun z=>hn (z ▸ hk)
  rw [zak this]
  exact f.out k hk
 ·by_cases eb:b=a
  ·subst eb
   have:=f.same _ _ q
   rw [e] at this
   rw [zab]
   exact this
  ·rw [zak eb]
   exact q
theorem Off.join (f:Off M G1 H)(g:Off M G2 H):∃ G,Off M G H∧Same G1 G∧Same G2 G:=by
 refine ⟨fun b=>match G1 b with | some o=>some o | none=>G2 b,⟨fun b v q=>?_,fun m hm=>?_,f.there⟩,fun b v q=>?_,fun b v q=>?_⟩
 ·cases e:G1 b with
  | some o=>simp only [e] at q;rw [← q];exact f.same b o e
  | none=>simp only [e] at q;exact g.same b v q
 ·simp only [f.out m hm]
  exact g.out m hm
 ·simp only [q]
 ·cases e:G1 b with
  | some o=>
   have:=f.same b o e
   rw [g.same b v q] at this
   simp only [e]
   exact this.symm
  | none=>simp only [e];exact q
theorem Off.start {p:Addr}(h:H p=none)(o:HO):Off [p] H (upd H p o):=⟨zae h o,fun m hm=>by rw [yF.mp hm];exact h,fun m hm=>by rw [yF.mp hm];exact ⟨o,zab⟩⟩
theorem zdB.new {p:Addr}(a:zdB p H H')(h:H' T=none)(o:HO):zdB p H (L2.upd H' T o):=a.trans ((zae h o).b p)
theorem zdB.free {p:Addr}(a:zdB p H H')(h:H' T=none)(hp:T≠p):H T=none:=by
 cases e:H T with
 | none=>rfl
 | some u=>rw [a T u hp e] at h;cases h
end
theorem Reps.erase {K:PySem.W.Frag}{H:Hp}:∀ {vs:List V} {ds:List Dat} (i:Nat),Reps K H vs ds→Reps K H (vs.eraseIdx i) (ds.eraseIdx i)
 | _,_,_,.nil=>.nil
 | _,_,0,.cons _ r=>r
 | _,_,i+1,.cons h r=>.cons h (Reps.erase i r)
end L2
namespace L2
open PySem PySem.Spec PyProof.Rows
noncomputable def ze6 (kvs more:List (List Key×V)):List (List Key×V):=more.foldl (fun acc kv=>putK acc kv.1 kv.2) kvs
noncomputable def zbT (acc xs:List (List Key×Addr×Value)):List (List Key×Addr×Value):=xs.foldl (fun acc x=>storedH acc x.1 x.2.1 x.2.2) acc
noncomputable abbrev zeS (H:Hp):List V→List (List Key×V)→Prop:=Paired fun x kv=>∃ p kt,x=V.ref p∧H p=some (.tup [.ref kt,kv.2])∧RdT H kt (kv.1.map kV)
theorem zmX:typeLookup (.type "list") "keys" =pure none:=am_miss_of_fast (by kernel_rfl)
theorem zeb:entryFor table "dict.update.loop" =some Builtin.«dict.update.loop» :=entryFor_of_fast (by kernel_rfl)
theorem zb5:plainId "dict.update.loop" =true:=by decide+kernel
theorem zhG (xs:List (List Key×Addr×Value)){i:Nat}{x:List Key×Addr×Value}(h:xs[i]? =some x):zbT [] (xs.take (i+1))=storedH (zbT [] (xs.take i)) x.1 x.2.1 x.2.2:=by
 unfold zbT
 rw [yV,h,wR]
 rfl
theorem zkW (xs:List (List Key×Addr×Value))(k:List Key)(b:Addr)(v:Value):(storedH xs k b v).length≤xs.length+1:=by
 unfold storedH
 split
 ·rw [yA];omega
 ·rw [yJ,qO];omega
theorem zfH:∀ (xs acc:List (List Key×Addr×Value)),(zbT acc xs).length≤acc.length+xs.length
 | [],acc=>by show acc.length≤acc.length+0;omega
 | x::r,acc=>by
  have h1:=zfH r (storedH acc x.1 x.2.1 x.2.2)
  have h2:=zkW acc x.1 x.2.1 x.2.2
  show (zbT (storedH acc x.1 x.2.1 x.2.2) r).length≤_
  rw [qP];omega
section
variable {prog:Program} {w:World} {A:Around} {E:Value→Shared→Prop} {s:Shared}
theorem zel {a:Addr}{o:Obj}{xs:Array Value}{k:Nat}{Q:Option Value→Shared→Prop}
  (hx:s.heap.get? a=some o) (hc:o.cls= .type "list") (hdat:o.data= .seq xs k) (hd:o.dict=none) (hA:A.handled=none)
  (h:∀ h' tk,(∀ b ob,s.heap.get? b=some ob→h'.get? b=some ob)→Q none {s with heap:=h',toks:=tk}):
  wpAny (model prog w) A (getAttr? (.ref a) "keys") Q E s:=by
 obtain ⟨c,dct,dat,sl⟩:=o
 simp only at hc hdat hd
 subst hc hdat hd
 obtain ⟨hp,g,d,tk,os⟩:=s
 have hT:∀ tk',(⟨hp,g,d,tk',os⟩:Shared).TypeIs (.ref a) "list" :=fun _=>⟨_,hx,rfl⟩
 have f1:=sub_AttributeError
 have f3:=F.slot_list_getattribute.lookup
 have f4:=F.slot_list_getattribute.bind (.ref a)
 have f5:=am_list_getattr_none
 unfold getAttr? getAttrBy? getAttrBy
 repeat (any_goals (first | assumption | exact hT _ | ((with_reducible show wpAny _ _ (call (Value.builtin "list.__getattribute__") _ _) _ _ _);refine call_meets F.slot_list_getattribute (hT _) am_entry_list_getattribute (F.args_list_getattribute_2 _ _) (meets_getattribute_miss_list a xs k sl "keys" _ zmX (by decide+kernel) (by decide+kernel)) ⟨hx,hA,fun h' tk' e hx'=>?_⟩) | wp_step))
 obtain ⟨t',u',he⟩:=hx'.there
 show wpAny _ _ (getattributeRaised _ _ _ _ _ _ _) _ _ _
 unfold getattributeRaised
 repeat (any_goals (first | assumption | wp_step))
 exact h _ _ hx'.keeps
end
section
variable {prog:Program} {w:World} {A:Around} {R:Result→Shared→Prop}
theorem zj6 {h h':Heap}{k:List Key}{a:Addr}(hk:(tupleKind (zaq prog w)).is h k a)(keep:∀ o,h.get? a=some o→h'.get? a=some o):(tupleKind (zaq prog w)).is h' k a:=by
 obtain ⟨o,it,n,e,r⟩:=hk
 exact ⟨o,it,n,keep _ e,r⟩
theorem zfq {h:Heap}{I L:Addr}{i:Nat}(hit:h.IsListIter I L i):∃ oi,h.get? I=some oi∧oi.cls= .type "list_iterator" :=by
 obtain ⟨o,e,c,_⟩:=hit
 exact ⟨o,e,c⟩
theorem zgR {h h':Heap}{I d:Addr}{acc:List (List Key×Addr×Value)}(hm:h.DictOfH (tupleKind (zaq prog w)) d acc)(hI:∃ oi,h.get? I=some oi∧oi.cls= .type "list_iterator")
  (hk:∀ b o,b≠I→h.get? b=some o→h'.get? b=some o):h'.DictOfH (tupleKind (zaq prog w)) d acc:=by
 obtain ⟨o,es,ep,h1,h2,h3,h4,his,h5⟩:=hm
 obtain ⟨oi,e1,e2⟩:=hI
 refine ⟨o,es,ep,hk _ _ ?_ h1,h2,h3,h4,fun x hx=>?_,h5⟩
 ·intro z
  subst z
  rw [h1] at e1
  cases e1
  rw [h2.1] at e2
  exact absurd (wE e2) (by decide)
 ·have q:=his x hx
  refine zj6 q fun ob ho=>hk _ _ ?_ ho
  intro z
  obtain ⟨o',it,n,e,c,_⟩:=q
  rw [z,e1] at e
  cases e
  rw [e2] at c
  exact absurd (wE c) (by decide)
theorem zfh {d I L:Addr}{items:Array Value}{h0:Heap}{xs:List (List Key×Addr×Value)}
  (hA:A.in1.handled=none) (hu:(tupleKind (zaq prog w)).room A.in1) (hLI:L≠I) (hdI:d≠I) (hdL:d≠L)
  (hd0:h0.get? d=none) (hI0:h0.get? I=none)
  (good:∀ (i:Nat) (x:List Key×Addr×Value),xs[i]? =some x→∃ (p:Addr) (o:Obj) (n:Nat),items[i]? =some (Value.ref p)∧h0.get? p=some o∧o.cls= .type "tuple"∧o.data= .seq #[.ref x.2.1,x.2.2] n∧(tupleKind (zaq prog w)).is h0 x.1 x.2.1)
  (hn:items.size=xs.length) (hz:xs.length < yL):
  ∀ (k i:Nat) (s:Shared) (t:Tok),xs.length - i=k→i≤xs.length→s.heap.IsListIter I L i→s.heap.IsList L items→s.heap.DictOfH (tupleKind (zaq prog w)) d (zbT [] (xs.take i))→
   (∀ b o,h0.get? b=some o→s.heap.get? b=some o)→
   (∀ h' tk,h'.DictOfH (tupleKind (zaq prog w)) d (zbT [] xs)→(∀ b o,h0.get? b=some o→h'.get? b=some o)→R (.ok (.ret .none)) {s with heap:=h',toks:=tk})→
   codeAny (model prog w) A (.builtin "dict.update.loop" ⟨[.ref d,.ref I,.int i t,.none],[]⟩) R s:=by
 have W:=yb5 (prog:=prog) (w:=w) hA I L hLI items
 intro k
 induction k with
 | zero=>
  intro i s t hk hi hit hl hm hkeep hR
  have hin:i=items.size:=by omega
  refine codeAny_builtin zeb ?_
  rw [xB zb5 _]
  show wpAny _ A.in1 (pyNext (.ref I) >>=_) _ _ s
  refine yB (W.done s _ _ (by rw [← hin];exact ⟨hit,hl⟩) fun h' tk hk'=>?_)
  have hk2:∀ b o,b≠I→s.heap.get? b=some o→h'.get? b=some o:=fun b o hb e=>hk' b o (by simpa using hb) e
  have et:xs.take i=xs:=jR (by omega)
  rw [et] at hm
  show wpAny _ _ (Builtin.Dict.addKeywords d [] >>=_) _ _ _
  exact yB (yD (yD (hR h' tk (zgR hm (zfq hit) hk2) fun b o e=>hk2 b o (fun z=>by rw [z,hI0] at e;cases e) (hkeep b o e))))
 | succ k ih=>
  intro i s t hk hi hit hl hm hkeep hR
  have hlt:i < xs.length:=by omega
  obtain ⟨p,o,n,hp,ho,hc,hdat,hkey⟩:=good i xs[i] (yC hlt)
  refine codeAny_builtin zeb ?_
  rw [xB zb5 _]
  show wpAny _ A.in1 (pyNext (.ref I) >>=_) _ _ s
  refine yB (W.item i s _ _ (by omega) ⟨hit,hl⟩ fun v h' tk hP hst' hk'=>?_)
  rw [hp] at hP
  cases hP
  have hk2:∀ b o,b≠I→s.heap.get? b=some o→h'.get? b=some o:=fun b o hb e=>hk' b o (by simpa using hb) e
  have hkeep':∀ b o,h0.get? b=some o→h'.get? b=some o:=fun b o e=>hk2 b o (fun z=>by rw [z,hI0] at e;cases e) (hkeep b o e)
  have hm':h'.DictOfH (tupleKind (zaq prog w)) d (zbT [] (xs.take i)):=zgR hm (zfq hit) hk2
  refine yB (wpAny_holding (yB (wpAny_tryCatch ?_)))
  unfold Builtin.Dict.pairItems
  refine yB (wpAny_typeOf (T:="tuple") ⟨o,hkeep' _ _ ho,hc⟩ ?_)
  rw [if_pos (by decide)]
  refine yB (wpAny_seqItems (hkeep' _ _ ho) hdat (yD ?_))
  show wpAny _ _ (holding [_,_] (dictSet d _ _)) _ _ _
  have l1:=zfH (xs.take i) []
  rw [yal,yR] at l1
  refine wpAny_holding (wpAny_dictSet_heap (hsz:=by omega) hu (zj6 hkey fun o e=>hkeep' _ _ e) hm' fun h2 hd2 hs2=>?_)
  have hk3:∀ b o,b≠d→h'.get? b=some o→h2.get? b=some o:=fun b o hb e=>(hs2.2 b hb).trans e
  refine yD ⟨plainId_quiet zb5 _,ih (i+1) _ _ (by omega) (by omega) (hst'.1.at fun o e=>hk3 _ _ (xU hdI) e) (hst'.2.at fun o e=>hk3 _ _ (xU hdL) e) ?_ (fun b o e=>hk3 b o (fun z=>by rw [z,hd0] at e;cases e) (hkeep' b o e)) fun h3 tk3 hd3 hk4=>hR h3 tk3 hd3 hk4⟩
  rw [zhG xs (yC hlt)]
  exact hd2
end
section
variable {prog:Program} {w:World} {A:Around} {E:Value→Shared→Prop} {s:Shared}
theorem zf9 {L:Addr}{o:Obj}{items:Array Value}{m:Nat}{xs:List (List Key×Addr×Value)}{Q:Value→Shared→Prop}(hA:A.handled=none)(hu:A.units+64 < cLine)
  (ho:s.heap.get? L=some o) (hc:o.cls= .type "list") (hd:o.dict=none) (hdat:o.data= .seq items m)
  (good:∀ (i:Nat) (x:List Key×Addr×Value),xs[i]? =some x→∃ (p:Addr) (o:Obj) (n:Nat),items[i]? =some (Value.ref p)∧s.heap.get? p=some o∧o.cls= .type "tuple"∧o.data= .seq #[.ref x.2.1,x.2.2] n∧(tupleKind (zaq prog w)).is s.heap x.1 x.2.1)
  (hn:items.size=xs.length) (hz:xs.length < yL)
  (h:∀ h' tk,h'.DictOfH (tupleKind (zaq prog w)) s.heap.objs.size (zbT [] xs)→(∀ b o,s.heap.get? b=some o→h'.get? b=some o)→Q (.ref s.heap.objs.size) {s with heap:=h',toks:=tk}):
  wpAny (model prog w) A (call (.type "dict") [.ref L]) Q E s:=by
 refine callType_codes (Q₁ :=fun obj s₁ =>obj= .ref s.heap.objs.size∧s₁ = {s with heap:=s.heap.push {cls:=.type "dict",data:=.dict #[]}}) PySem.F.kt_called_dict (PySem.F.kt_typeCall_dict_1 _) PySem.F.entry_dict_init (kt_code_dict_new _ ⟨rfl,rfl⟩) ?_
 rintro obj s₁ ⟨rfl,rfl⟩
 have hd1:(s.heap.push {cls:=.type "dict",data:=.dict #[]}).get? s.heap.objs.size=some {cls:=.type "dict",data:=.dict #[]}:=yW _ rfl
 have hL1:(s.heap.push {cls:=.type "dict",data:=.dict #[]}).get? L=some o:=yH _ ho
 have hlt:L < s.heap.objs.size:=yU ho
 refine ⟨⟨_,hd1,rfl⟩,PySem.F.args_dict_init_2 _ _,?_⟩
 unfold Builtin.«dict.__init__»
 refine yB ?_
 unfold Builtin.Dict.selfAndRest
 refine yB (wpAny_notOrdered_dict ⟨_,hd1,rfl⟩ ?_)
 show wpAny _ _ (pure (s.heap.objs.size,[Value.ref L])) _ _ _
 refine yD ?_
 show wpAny _ _ (ybf "dict.__init__" s.heap.objs.size (.ref L) [] .none) _ _ _
 unfold ybf
 refine yB (wpAny_typeOf (T:="list") ⟨_,hL1,hc⟩ ?_)
 rw [if_pos (by decide)]
 refine yB (zel hL1 hc hdat hd hA fun h2 tk2 hk2=>?_)
 rw [if_pos (show (none:Option Value).isNone=true from rfl)]
 refine yB (wpAny_rule ?_)
 have hl2:h2.IsList L items:=⟨o,hk2 _ _ hL1,hc,m,hdat⟩
 refine yB (wpAny_pyIter_list hl2 ?_)
 have hz2:s.heap.objs.size < h2.objs.size:=yU (hk2 _ _ hd1)
 have keep:∀ b ob,s.heap.get? b=some ob→(h2.push {cls:=.type "list_iterator",data:=.fields #[.ref L,.int 0 0]}).get? b=some ob:=fun b ob e=>yH _ (hk2 _ _ (yH _ e))
 refine yD ⟨plainId_quiet zb5 _,zfh (A:=A.in1) (h0:=s.heap) (L:=L) hA (show A.units+1+1 < cLine by omega) (qC (Nat.lt_trans hlt hz2)) (qC hz2) (xU (qC hlt)) (yaE (yN _)) (yaE (kU hz2)) good hn hz
  xs.length 0 _ _ (by omega) (qN _) ⟨_,yW _ rfl,rfl,rfl⟩ (hl2.at fun o e=>yH _ e) ?_ keep fun h' tk hd' hk'=>⟨rfl,h h' tk hd' hk'⟩⟩
 exact ⟨_,#[],0,yH _ (hk2 _ _ hd1),⟨rfl,rfl,rfl⟩,rfl,rfl,(fun x hx=>nomatch hx),xG⟩
end
theorem zeL:∀ (more kvs:List (List Key×V)),(ze6 kvs more).length≤kvs.length+more.length
 | [],kvs=>by show kvs.length≤kvs.length+0;omega
 | p::r,kvs=>by
  have h1:=zeL r (putK kvs p.1 p.2)
  have h2:=zej kvs p.1 p.2
  show (ze6 (putK kvs p.1 p.2) r).length≤_
  rw [qP];omega
theorem KT.merge {H:Hp}:∀ {more:List (List Key×V)} {xs:List (List Key×Addr×Value)} {kvs:List (List Key×V)} {ys:List (List Key×Addr×Value)},KT H more xs→KT H kvs ys→KT H (ze6 kvs more) (zbT ys xs)
 | _,_,_,_,.nil,q=>q
 | _,_,kvs,ys,.cons (a:=p) (b:=x) h t,q=>by
  have e:KT H (putK kvs p.1 p.2) (storedH ys x.1 x.2.1 x.2.2):=by
   have:=q.put p.1 h.2.1 h.2.2
   rw [← h.1];exact this
  have z:=KT.merge (kvs:=putK kvs p.1 p.2) (ys:=storedH ys x.1 x.2.1 x.2.2) t e
  exact z
section
variable {X:Cx}
theorem zle (hc:X.calm=true)(hu:X.A.units+64 < cLine):zcB X (.type "dict") (fun xs H Q=>∃ (L:Addr) (vs:List V) (kvs:List (List Key×V)),xs= [.ref L]∧H L=some (.lst vs)∧zeS H vs kvs∧kvs.length < yL∧∀ d,H d=none→Q (.ref d) (upd H d (.dT (ze6 [] kvs)))):=by
 intro pins s σ H xs us Q I r ⟨L,vs,kvs,e,hL,hp,hz,q⟩
 subst e
 obtain ⟨u,rfl,rx⟩:=zjf r
 cases rx
 obtain ⟨z,its,n,rv,hl,eL⟩:=I.lstM hL
 obtain ⟨ws,kt,gd⟩:∃ ws:List (List Key×Addr×Value),KT H kvs ws∧∀ (i:Nat) (x:List Key×Addr×Value),ws[i]? =some x→∃ p o n,its[i]? =some (.ref p)∧s.heap.get? p=some o∧o.cls= .type "tuple"∧o.data= .seq #[.ref x.2.1,x.2.2] n∧(tupleKind (zaq X.prog X.w)).is s.heap x.1 x.2.1:=by
  clear q hz hL z eL hl
  induction hp generalizing its with
  | nil=>cases rv;exact ⟨[],.nil,fun i x hx=>by simp at hx⟩
  | @cons x kv vs kvs h t ih=>
   cases rv with
   | @cons _ u _ us ru rus=>
    obtain ⟨ws,k1,g1⟩:=ih us rus
    obtain ⟨p,ktt,rfl,h1,h2⟩:=h
    cases ru
    obtain ⟨_,ts,rt,ot,e1,c1,n1,d1⟩:=(show zbB X.prog X.w H s.heap p (.tup [.ref ktt,kv.2]) from I.hok p _ h1)
    cases rt with
    | @cons _ t1 _ _ r1 r2=>
     cases r2 with
     | @cons _ t2 _ _ r2 r3=>
      cases r3
      cases r1
      refine ⟨(kv.1,ktt,t2)::ws,.cons ⟨rfl,h2,r2⟩ k1,fun i x hx=>?_⟩
      cases i with
      | zero=>
       simp at hx
       subst hx
       exact ⟨p,ot,n1,rfl,e1,c1,d1,zfV I.hok h2⟩
      | succ i=>
       obtain ⟨p',o',n',a1,a2⟩:=g1 i x (by simpa using hx)
       exact ⟨p',o',n',by simpa using a1,a2⟩
 have lw:kvs.length=ws.length:=vV kt
 have lv:vs.length=kvs.length:=vV hp
 refine zf9 (xs:=ws) (I.ok.hd hc) hu eL rfl rfl rfl (fun i x hx=>?_) (by rw [yQ];omega) (by omega) fun h' tk hd hk=>?_
 ·obtain ⟨p,o,n,a1,a2⟩:=gd i x hx
  exact ⟨p,o,n,by simpa using a1,a2⟩
 ·have hf:=I.fresh
  obtain ⟨o,es,ep,h1,h2,h3,h4,his,h5⟩:=hd
  have lm:=zeL kvs []
  rw [yal] at lm
  have hb:=I.big
  refine ⟨.ref s.heap.objs.size,_,I.laid (a:=s.heap.objs.size) (o:=.dT (ze6 [] kvs)) (t':=tk) hk (yN _) ⟨by omega,beq_eq_false_iff_ne.mpr (xU (qC hb)),zbT [] ws,(kt.merge .nil).keeps fun b ys eb=>eb.upd hf,o,es,ep,h1,h2,h3,h4,h5⟩,rfl,q _ hf⟩
end
theorem Vals.rev {xs:List V}{us:List Value}(r:Vals xs us):Vals xs.reverse us.reverse:=by
 induction r with
 | nil=>exact .nil
 | @cons x u xs us h t ih=>
  rw [kK,kK]
  exact ih.append (.cons h .nil)
section
variable {X:Cx} {e k:Expr} {te tk:TE} {pos p2:Pos}
end
section
variable {prog:Program} {w:World} {A:Around} {E:Value→Shared→Prop} {s:Shared}
end
section
variable {X:Cx} {pos:Pos}
end
section
variable {X:Cx}
end
noncomputable def TabK (K:PySem.W.Frag) (a:Addr) (D:List (Str×KTD.Dat)):Prop:=KTD.tabLook (KTD.datLooks fun b=>K.lookup b) (fun b=>K.lookup b) a D=true
section
variable {prog:Program} {w:World} {A:Around} {E:Value→Shared→Prop} {s:Shared}
end
section
variable {X:Cx}
theorem TabK.at {pins:List (Addr×Obj)}{σ :St}{H:Hp}{s:Shared}{a:Addr}{D:List (Str×KTD.Dat)}(I:Inv X pins σ H s)(h:TabK X.K a D):KTD.TabOf (fun d v=>KTD.datLooks (fun b=>X.K.lookup b) d v=true) s.heap a D:=
 KTD.tab_of_look (fun _ _ z=>z) (fun b o q=>I.kIn b o q) h
theorem TabK.here {pins:List (Addr×Obj)}{σ :St}{H:Hp}{s:Shared}{a:Addr}{D:List (Str×KTD.Dat)}(I:Inv X pins σ H s)(h:TabK X.K a D):KTD.Here s.heap s.heap a D:=
 ⟨PySem.W.kt_text_in I.kIn h,fun _ _ q=>q⟩
end
end L2
namespace My
open PySem L2
open PySem.W (Dat kqdP kqdPs kqdOk)
structure zaA where
 ins:Int
 gates:List (Str×List Int)
 outs:List Int
noncomputable def zbh (kind:Str) (n:Nat):Prop:=((kind="and"∨kind="or"∨kind="odd")∧2≤n∧n≤4)∨(kind="not"∧n=1)∨(kind="choose"∧n=3)∨((kind="zero"∨kind="one")∧n=0)
structure WF (most:Nat) (w:zaA):Prop where
 i1: 1≤w.ins
 i6:w.ins≤6
 few:w.gates.length≤most
 legs:∀ (k:Nat) g,w.gates[k]? =some g→zbh g.1 g.2.length∧∀ l∈g.2,0≤l∧l < w.ins+k
 o1: 1≤w.outs.length
 o3:w.outs.length≤most+20
 outs:∀ o∈w.outs,0≤o∧o < w.ins+w.gates.length
noncomputable def zi5 (g:Str×List Int):Dat:=.tuple [.str g.1,.tuple (g.2.map .int)]
noncomputable def zbr (w:zaA):Dat:=.tuple [.int w.ins,.list (w.gates.map zi5),.list (w.outs.map .int)]
theorem zbh.le {k:Str}{n:Nat}(h:zbh k n):n≤4:=by
 unfold zbh at h
 omega
noncomputable def znB (i b:Int):Dat:=.tuple [.str "wire",.int i,.int b]
noncomputable def legF (k i b:Int):Dat:=.tuple [.str "leg",.int k,.int i,.int b]
noncomputable def zd8:Nat→List Dat
 | 0=>[]
 | n+1=>zd8 n++ [znB n 0,znB n 1]
noncomputable def zhs (k:Int):Nat→List Dat
 | 0=>[]
 | n+1=>zhs k n++ [legF k n 0,legF k n 1]
noncomputable def zdS (gs:List (Str×List Int)):Nat→List Dat
 | 0=>[]
 | n+1=>zdS gs n++zhs n ((gs[n]?.map fun g=>g.2.length).getD 0)
noncomputable def zbI (w:zaA):List Dat:=zd8 (w.ins.toNat+w.gates.length)++zdS w.gates w.gates.length
noncomputable def zlk (i:Int):List Dat:=[.str "wire",.int i]
noncomputable def legP (k i:Int):List Dat:=[.str "leg",.int k,.int i]
noncomputable def zcI:Nat→List (List Dat)
 | 0=>[]
 | n+1=>zcI n++ [zlk n]
noncomputable def zeV (k:Int):Nat→List (List Dat)
 | 0=>[]
 | n+1=>zeV k n++ [legP k n]
noncomputable def zcM (gs:List (Str×List Int)):Nat→List (List Dat)
 | 0=>[]
 | n+1=>zcM gs n++zeV n ((gs[n]?.map fun g=>g.2.length).getD 0)
noncomputable def zdO (ps:List (List Dat)):List Dat:=ps.flatMap fun p=>[.tuple (p++ [.int 0]),.tuple (p++ [.int 1])]
theorem zbM (a b:List (List Dat)):zdO (a++b)=zdO a++zdO b:=by unfold zdO;rw [ybL]
theorem zeD (p:List Dat):zdO [p]= [.tuple (p++ [.int 0]),.tuple (p++ [.int 1])]:=by unfold zdO;simp
theorem zgd:∀ n,zdO (zcI n)=zd8 n
 | 0=>rfl
 | n+1=>by rw [zcI,zbM,zgd n,zeD,zd8];rfl
theorem zgO (k:Int):∀ n,zdO (zeV k n)=zhs k n
 | 0=>rfl
 | n+1=>by rw [zeV,zbM,zgO k n,zeD,zhs];rfl
theorem zgh (gs:List (Str×List Int)):∀ n,zdO (zcM gs n)=zdS gs n
 | 0=>rfl
 | n+1=>by rw [zcM,zbM,zgh gs n,zgO,zdS]
noncomputable def zbg (w:zaA):List (List Dat):=zcI (w.ins.toNat+w.gates.length)++zcM w.gates w.gates.length
theorem zcd (w:zaA):zdO (zbg w)=zbI w:=by unfold zbg zbI;rw [zbM,zgd,zgh]
theorem zd4:∀ n,(zd8 n).length=2 * n
 | 0=>rfl
 | n+1=>by rw [zd8,yJ,zd4 n];simp;omega
theorem zdX:∀ n,(zcI n).length=n
 | 0=>rfl
 | n+1=>by rw [zcI,yJ,zdX n];simp
theorem zgb (k:Int):∀ n,(zeV k n).length=n
 | 0=>rfl
 | n+1=>by rw [zeV,yJ,zgb k n];simp
theorem zfB (k:Int):∀ n,(zhs k n).length=2 * n
 | 0=>rfl
 | n+1=>by rw [zhs,yJ,zfB k n];simp;omega
theorem zkj {m:Nat}{w:zaA}(h:WF m w)(n:Nat):(w.gates[n]?.map fun g=>g.2.length).getD 0≤4:=by
 cases e:w.gates[n]? with
 | none=>simp
 | some g=>simpa using (h.legs n g e).1.le
theorem zeZ {m:Nat}{w:zaA}(h:WF m w):∀ n,(zcM w.gates n).length≤4 * n
 | 0=>qN _
 | n+1=>by
  have:=zeZ h n
  have:=zkj h n
  rw [zcM,yJ,zgb]
  omega
theorem zgI {m:Nat}{w:zaA}(h:WF m w):∀ n,(zdS w.gates n).length≤8 * n
 | 0=>qN _
 | n+1=>by
  have:=zgI h n
  have:=zkj h n
  rw [zdS,yJ,zfB]
  omega
theorem ziL:∀ ps:List (List Dat),(zdO ps).length=2 * ps.length
 | []=>rfl
 | p::r=>by
  show (zdO ([p]++r)).length=_
  rw [zbM,zeD,yJ,ziL r]
  simp
  omega
theorem zg3:∀ n p,p∈zcI n→∃ i,p=zlk i
 | 0,p,h=>nomatch h
 | n+1,p,h=>by
  rw [zcI] at h
  rcases yP.mp h with h | h
  ·exact zg3 n p h
  ·exact ⟨_,yF.mp h⟩
theorem zim (k:Int):∀ n p,p∈zeV k n→∃ i,p=legP k i
 | 0,p,h=>nomatch h
 | n+1,p,h=>by
  rw [zeV] at h
  rcases yP.mp h with h | h
  ·exact zim k n p h
  ·exact ⟨_,yF.mp h⟩
theorem zgP (gs:List (Str×List Int)):∀ n p,p∈zcM gs n→∃ k i,p=legP k i
 | 0,p,h=>nomatch h
 | n+1,p,h=>by
  rw [zcM] at h
  rcases yP.mp h with h | h
  ·exact zgP gs n p h
  ·obtain ⟨i,e⟩:=zim _ _ p h
   exact ⟨_,i,e⟩
theorem ze0 {w:zaA}{p:List Dat}(h:p∈zbg w):(∃ i,p=zlk i)∨∃ k i,p=legP k i:=by
 unfold zbg at h
 rcases yP.mp h with h | h
 ·exact .inl (zg3 _ p h)
 ·exact .inr (zgP _ _ p h)
theorem zl4 {w:zaA}{i:Nat}(h:(zbg w)[i]? =some []):False:=by
 rcases ze0 (yI h) with ⟨_,e⟩ | ⟨_,_,e⟩ <;> cases e
theorem zmo {w:zaA}{i:Nat}{p:List Dat}(h:(zbg w)[i]? =some p):p.length≤3:=by
 rcases ze0 (yI h) with ⟨_,e⟩ | ⟨_,_,e⟩ <;> (rw [e];simp [zlk,legP])
theorem zkV {w:zaA}{d:Dat}(h:d∈zbI w):(∃ i b,d=znB i b)∨∃ k i b,d=legF k i b:=by
 rw [← zcd] at h
 unfold zdO at h
 obtain ⟨p,hp,hd⟩:=wD.mp h
 rcases ze0 hp with ⟨i,e⟩ | ⟨k,i,e⟩
 ·left
  rw [e] at hd
  rcases yO.mp hd with e1 | hd
  ·exact ⟨i,0,e1⟩
  ·exact ⟨i,1,yF.mp hd⟩
 ·right
  rw [e] at hd
  rcases yO.mp hd with e1 | hd
  ·exact ⟨k,i,0,e1⟩
  ·exact ⟨k,i,1,yF.mp hd⟩
theorem zkf {w:zaA}{d:Dat}(n:Nat)(h:d∈zbI w):kqdOk (n+1) d=true:=by
 rcases zkV h with ⟨i,b,e⟩ | ⟨k,i,b,e⟩
 ·rw [e]
  have:kX "wire" =true:=by decide+kernel
  cases n <;> simp [znB,kqdOk,this]
 ·rw [e]
  have:kX "leg" =true:=by decide+kernel
  cases n <;> simp [legF,kqdOk,this]
theorem zo6 (n:Nat)(ns:List Int):(ns.map Dat.int).all (kqdOk n)=true:=by
 refine yX.mpr fun d h=>?_
 obtain ⟨i,_,rfl⟩:=yS.mp h
 cases n <;> rfl
theorem zbs {K:PySem.W.Frag}{H:Hp}{w:zaA}{x:V}(h:Rep K H x (zbr w)):
  ∃ a ga oa gs os,x= .ref a∧SqT K H a [.int w.ins,.ref ga,.ref oa]∧SqL K H ga gs∧SqL K H oa os∧Reps K H gs (w.gates.map zi5)∧Reps K H os (w.outs.map .int):=by
 unfold zbr at h
 cases h with
 | tup ha r=>
  cases r with
  | cons r1 r=>
   cases r with
   | cons r2 r=>
    cases r with
    | cons r3 r=>
     cases r
     cases r1
     cases r2 with
     | lst hg rg=>
      cases r3 with
      | lst ho ro=>exact ⟨_,_,_,_,_,rfl,ha,hg,ho,rg,ro⟩
theorem zfW {K:PySem.W.Frag}{H:Hp}{g:Str×List Int}{x:V}(h:Rep K H x (zi5 g)):
  ∃ a la,x= .ref a∧SqT K H a [.str g.1,.ref la]∧SqT K H la (g.2.map V.int):=by
 unfold zi5 at h
 cases h with
 | tup ha r=>
  cases r with
  | cons r1 r=>
   cases r with
   | cons r2 r=>
    cases r
    cases r1
    cases r2 with
    | tup hl rl=>
     have e:∀ (xs:List V) (ns:List Int),Reps K H xs (ns.map Dat.int)→xs=ns.map V.int:=by
      intro xs ns
      induction ns generalizing xs with
      | nil=>intro z;cases z;rfl
      | cons m r ih=>
       intro z
       cases z with
       | cons z1 z2=>
        cases z1
        rw [ih _ z2]
        rfl
     rw [e _ _ rl] at hl
     exact ⟨_,_,rfl,ha,hl⟩
end My
namespace My
open PySem L2
noncomputable def Bits (ns:List Int):Prop:=∀ n∈ns,n=0∨n=1
noncomputable def zbq (x:Str) (ns:List Int):Int:=
 if x="and" then (if ns.all (· ==1)=true then 1 else 0)
 else if x="or" then (if ns.any (· ==1)=true then 1 else 0)
 else if x="odd" then ns.sum % 2
 else if x="not" then 1 - ns.getD 0 0
 else if x="choose" then (if ns.getD 0 0=1 then ns.getD 1 0 else ns.getD 2 0)
 else if x="one" then 1 else 0
theorem n_oa:("or" :Str)≠"and" :=by decide+kernel
theorem n_da:("odd" :Str)≠"and" :=by decide+kernel
theorem n_do:("odd" :Str)≠"or" :=by decide+kernel
theorem n_na:("not" :Str)≠"and" :=by decide+kernel
theorem n_no:("not" :Str)≠"or" :=by decide+kernel
theorem n_nd:("not" :Str)≠"odd" :=by decide+kernel
theorem n_ca:("choose" :Str)≠"and" :=by decide+kernel
theorem n_co:("choose" :Str)≠"or" :=by decide+kernel
theorem n_cd:("choose" :Str)≠"odd" :=by decide+kernel
theorem n_cn:("choose" :Str)≠"not" :=by decide+kernel
theorem n_za:("zero" :Str)≠"and" :=by decide+kernel
theorem n_zo:("zero" :Str)≠"or" :=by decide+kernel
theorem n_zd:("zero" :Str)≠"odd" :=by decide+kernel
theorem n_zn:("zero" :Str)≠"not" :=by decide+kernel
theorem n_zc:("zero" :Str)≠"choose" :=by decide+kernel
theorem n_z1:("zero" :Str)≠"one" :=by decide+kernel
theorem n_1a:("one" :Str)≠"and" :=by decide+kernel
theorem n_1o:("one" :Str)≠"or" :=by decide+kernel
theorem n_1d:("one" :Str)≠"odd" :=by decide+kernel
theorem n_1n:("one" :Str)≠"not" :=by decide+kernel
theorem n_1c:("one" :Str)≠"choose" :=by decide+kernel
theorem zgX (ns:List Int):zbq "and" ns=if ns.all (· ==1)=true then 1 else 0:=by unfold zbq;rw [if_pos rfl]
theorem zky (ns:List Int):zbq "or" ns=if ns.any (· ==1)=true then 1 else 0:=by unfold zbq;rw [if_neg n_oa,if_pos rfl]
theorem zfz (ns:List Int):zbq "odd" ns=ns.sum % 2:=by unfold zbq;rw [if_neg n_da,if_neg n_do,if_pos rfl]
theorem zlV (ns:List Int):zbq "not" ns=1 - ns.getD 0 0:=by unfold zbq;rw [if_neg n_na,if_neg n_no,if_neg n_nd,if_pos rfl]
theorem zi3 (ns:List Int):zbq "choose" ns=if ns.getD 0 0=1 then ns.getD 1 0 else ns.getD 2 0:=by unfold zbq;rw [if_neg n_ca,if_neg n_co,if_neg n_cd,if_neg n_cn,if_pos rfl]
theorem zmk (ns:List Int):zbq "zero" ns=0:=by unfold zbq;rw [if_neg n_za,if_neg n_zo,if_neg n_zd,if_neg n_zn,if_neg n_zc,if_neg n_z1]
theorem zoa (ns:List Int):zbq "one" ns=1:=by unfold zbq;rw [if_neg n_1a,if_neg n_1o,if_neg n_1d,if_neg n_1n,if_neg n_1c,if_pos rfl]
theorem zbu {ns:List Int}(b:Bits ns){i:Nat}(h:i < ns.length):ns.getD i 0=0∨ns.getD i 0=1:=by
 rw [yK,yC h]
 exact b _ (jO h)
theorem zcO {x:Str}{ns:List Int}(b:Bits ns)(h:zbh x ns.length):zbq x ns=0∨zbq x ns=1:=by
 rcases h with ⟨h | h | h,l1,l2⟩ | ⟨h,l1⟩ | ⟨h,l1⟩ | ⟨h | h,l1⟩
 ·rw [h,zgX];split <;> simp
 ·rw [h,zky];split <;> simp
 ·rw [h,zfz];omega
 ·rw [h,zlV]
  have:=zbu b (i:=0) (by omega)
  omega
 ·rw [h,zi3]
  split
  ·exact zbu b (i:=1) (by omega)
  ·exact zbu b (i:=2) (by omega)
 ·rw [h,zmk];simp
 ·rw [h,zoa];simp
noncomputable def zbc (gs:List (Str×List Int)) (row:List Int):Nat→List Int
 | 0=>row
 | n+1=>zbc gs row n++ [match gs[n]? with
   | some g=>zbq g.1 (g.2.map fun l=>(zbc gs row n).getD l.toNat 0)
   | none=>0]
theorem zcw (gs:List (Str×List Int))(row:List Int):∀ n,(zbc gs row n).length=row.length+n
 | 0=>rfl
 | n+1=>by rw [zbc,yJ,zcw gs row n];simp;omega
theorem zee {m:Nat}{w:zaA}{row:List Int}(wf:WF m w)(hl:(row.length:Int)=w.ins)(b:Bits row):∀ n,n≤w.gates.length→Bits (zbc w.gates row n)
 | 0,_=>b
 | n+1,h=>by
  have ih:=zee wf hl b n (by omega)
  obtain ⟨g,hg⟩:∃ g,w.gates[n]? =some g:=⟨_,yC (by omega)⟩
  rw [zbc,hg]
  intro z hz
  rcases yP.mp hz with hz | hz
  ·exact ih z hz
  ·rw [yF.mp hz]
   obtain ⟨l1,l2⟩:=wf.legs n g hg
   refine zcO (fun y hy=>?_) (by rw [yA];exact l1)
   obtain ⟨l,hl',rfl⟩:=yS.mp hy
   have:=l2 l hl'
   exact zbu ih (by rw [zcw];omega)
theorem ifY {x y:Str}{A B:Prop}(h:x=y)(a:A):if (decide (V.str x=V.str y))=true then A else B:=by rw [if_pos (decide_eq_true (by rw [h]))];exact a
theorem ifN {x y:Str}{A B:Prop}(h:x≠y)(b:B):if (decide (V.str x=V.str y))=true then A else B:=by rw [if_neg (by rw [decide_eq_true_eq];intro z;exact h (V.str.inj z))];exact b
theorem zce {ns:List Int}{i:Int}(h0: 0≤i)(h1:i < ns.length):atI (ns.map V.int) i=some (.int (ns.getD i.toNat 0)):=by
 have e:i=((i.toNat:Nat):Int):=by omega
 have hk:i.toNat < ns.length:=by omega
 have q:atI (ns.map V.int) ((i.toNat:Nat):Int)=some (.int ns[i.toNat]):=zcf (by rw [yE,yC hk] <;> rfl)
 rw [← e] at q
 rw [q,yK,yC hk]
 rfl
open PySem.W (Dat kqdP kqdPs kqdOk)
theorem WF.mono {m n:Nat}{w:zaA}(h:WF m w)(l:m≤n):WF n w:=⟨h.i1,h.i6,qX h.few l,h.legs,h.o1,qX h.o3 (by omega),h.outs⟩
noncomputable def zb9:Nat→List (List Int)
 | 0=>[[]]
 | n+1=>(zb9 n).map (0:: ·)++(zb9 n).map (1:: ·)
theorem zc0:∀ n,(zb9 n).length=2 ^ n
 | 0=>rfl
 | n+1=>by rw [zb9,yJ,yA,yA,zc0 n,yaX];omega
theorem zeQ:∀ n r,r∈zb9 n→r.length=n∧Bits r
 | 0,r,h=>by
  rw [yF.mp h]
  exact ⟨rfl,fun _ z=>nomatch z⟩
 | n+1,r,h=>by
  rcases yP.mp h with h | h
  ·obtain ⟨u,hu,rfl⟩:=yS.mp h
   obtain ⟨a,b⟩:=zeQ n u hu
   exact ⟨by rw [qP,a],fun z hz=>by
    rcases yO.mp hz with e | e
    ·exact .inl e
    ·exact b z e⟩
  ·obtain ⟨u,hu,rfl⟩:=yS.mp h
   obtain ⟨a,b⟩:=zeQ n u hu
   exact ⟨by rw [qP,a],fun z hz=>by
    rcases yO.mp hz with e | e
    ·exact .inr e
    ·exact b z e⟩
theorem znJ {n:Nat}(h:n≤6):(zb9 n).length≤64:=by
 rw [zc0]
 exact xC (n:=2) (by decide) h
noncomputable def rowD (r:List Int):Dat:=.list (r.map .int)
inductive At (H:Hp):List Addr→List (List Int)→Prop
 | nil:At H [] []
 | cons {q:Addr} {r:List Int} {qs:List Addr} {rs:List (List Int)}:H q=some (.lst (r.map V.int))→At H qs rs→At H (q::qs) (r::rs)
section
variable {K:PySem.W.Frag} {H H':Hp} {qs qs':List Addr} {rs rs':List (List Int)}
theorem At.mono (s:Same H H')(h:At H qs rs):At H' qs rs:=by
 induction h with
 | nil=>exact .nil
 | cons e _ ih=>exact .cons (s _ _ e) ih
theorem At.append (h:At H qs rs)(h':At H qs' rs'):At H (qs++qs') (rs++rs'):=by
 induction h with
 | nil=>exact h'
 | cons e _ ih=>exact .cons e ih
theorem At.len (h:At H qs rs):qs.length=rs.length:=by
 induction h with
 | nil=>rfl
 | cons e _ ih=>rw [qP,qP,ih]
theorem At.get (h:At H qs rs):∀ {i:Nat} {q:Addr},qs[i]? =some q→∃ r,rs[i]? =some r∧H q=some (.lst (r.map V.int)):=by
 induction h with
 | nil=>intro i q e;cases e
 | cons e _ ih=>
  intro i q z
  cases i with
  | zero=>cases z;exact ⟨_,rfl,e⟩
  | succ i=>exact ih z
theorem At.here (h:At H qs rs){q:Addr}(m:q∈qs):∃ r∈rs,H q=some (.lst (r.map V.int)):=by
 obtain ⟨i,hi⟩:=xY m
 obtain ⟨r,a,b⟩:=h.get hi
 exact ⟨r,yI a,b⟩
theorem At.reps (h:At H qs rs):Reps K H (qs.map V.ref) (rs.map rowD):=by
 induction h with
 | nil=>exact .nil
 | cons e _ ih=>exact .cons (.lst (.of e) (Reps.ints _)) ih
theorem At.write {p:Addr}{o:HO}(n:p∉qs)(h:At H qs rs):At (upd H p o) qs rs:=by
 induction h with
 | nil=>exact .nil
 | cons e _ ih=>
  refine .cons ?_ (ih fun z=>n (.tail _ z))
  rename_i q0 _ _ _ _
  have hne:q0≠p:=fun z=>n (by rw [z];exact .head _)
  rw [zak hne]
  exact e
theorem At.set {r:List Int}(h:At H qs rs):∀ {i:Nat} {q:Addr},qs.Nodup→qs[i]? =some q→At (upd H q (.lst (r.map V.int))) qs (rs.set i r):=by
 induction h with
 | nil=>intro i q _ e;cases e
 | @cons q' r' qs' rs' e t ih=>
  intro i q nd z
  have nd':=jV.mp nd
  cases i with
  | zero=>
   cases z
   exact .cons zab (t.write nd'.1)
  | succ i=>
   refine .cons ?_ (ih nd'.2 z)
   have hne:q'≠q:=fun y=>nd'.1 (by rw [y];exact yI z)
   rw [zak hne]
   exact e
end
structure Rows (H0:Hp) (R:Addr) (qs:List Addr) (rs:List (List Int)) (H:Hp):Prop where
 same:Same H0 H
 out:H0 R=none
 at_:H R=some (.lst (qs.map V.ref))
 rows:At H qs rs
 nd:qs.Nodup
 new:∀ q∈qs,H0 q=none∧q≠R
section
variable {K:PySem.W.Frag} {H0 H H1 H2:Hp} {R D D1 D2 T q:Addr} {qs qs1 qs2:List Addr} {rs rs1 rs2:List (List Int)}
theorem Rows.start (s:Same H0 H)(h:H D=none):Rows H0 D [] [] (upd H D (.lst [])):=⟨s.upd h _,s.free h,zab,.nil,.nil,fun _ z=>nomatch z⟩
theorem Rows.sq (b:Rows H0 R qs rs H):SqL K H R (qs.map V.ref):=.of b.at_
theorem Rows.rep (b:Rows H0 R qs rs H):Rep K H (.ref R) (.list (rs.map rowD)):=.lst b.sq b.rows.reps
theorem Rows.grow (b:Rows H0 R qs rs H)(s:Same H H1):Rows H0 R qs rs H1:=⟨b.same.trans s,b.out,s _ _ b.at_,b.rows.mono s,b.nd,b.new⟩
theorem Rows.push {o:HO}{r:List Int}{vs:List V}(b:Rows H0 D qs rs H)(hT:H T=none)(hq:upd H T o q=none)(e:vs=r.map V.int):
  Rows H0 D (qs++ [q]) (rs++ [r]) (upd (upd (upd H T o) q (.lst vs)) D (.lst (qs.map V.ref++ [.ref q]))):=by
 subst e
 have s1:Same H (upd (upd H T o) q (.lst (r.map V.int))):=(zae hT _).upd hq _
 have q0:H q=none:=(zae hT o).free hq
 have qD:q≠D:=xU (zao b.at_ q0)
 have nq:q∉qs:=fun z=>by
  obtain ⟨r,_,e⟩:=b.rows.here z
  rw [q0] at e
  cases e
 refine ⟨(b.same.trans s1).write b.out _,b.out,by rw [zab,yM];rfl,?_,?_,fun z hz=>?_⟩
 ·refine At.write (fun z=>?_) (At.append (b.rows.mono s1) (.cons zab .nil))
  rcases yP.mp z with z | z
  ·exact (b.new D z).2 rfl
  ·exact qD (yF.mp z).symm
 ·refine wS.mpr ⟨b.nd,jV.mpr ⟨(fun z=>nomatch z),xG⟩,fun x hx y hy e=>?_⟩
  rw [yF.mp hy] at e
  exact nq (e ▸ hx)
 ·rcases yP.mp hz with hz | hz
  ·exact b.new z hz
  ·rw [yF.mp hz]
   exact ⟨b.same.free q0,qD⟩
theorem Rows.cat (a:Rows H0 D1 qs1 rs1 H1)(b:Rows H1 D2 qs2 rs2 H2)(h:H2 R=none):Rows H0 R (qs1++qs2) (rs1++rs2) (upd H2 R (.lst (qs1.map V.ref++qs2.map V.ref))):=by
 have s:=a.same.trans b.same
 have t:At H2 (qs1++qs2) (rs1++rs2):=(a.rows.mono b.same).append b.rows
 refine ⟨s.upd h _,s.free h,by rw [zab,yM],t.mono (zae h _),?_,fun q hq=>?_⟩
 ·refine wS.mpr ⟨a.nd,b.nd,fun x hx y hy e=>?_⟩
  subst e
  obtain ⟨r,_,e⟩:=a.rows.here hx
  rw [(b.new x hy).1] at e
  cases e
 ·refine ⟨?_,fun e=>?_⟩
  ·rcases yP.mp hq with hq | hq
   ·exact (a.new q hq).1
   ·exact a.same.free (b.new q hq).1
  ·obtain ⟨r,_,z⟩:=t.here hq
   rw [e,h] at z
   cases z
end
theorem zga {K:PySem.W.Frag}{H:Hp}:∀ {xs:List V} {ns:List Int},Reps K H xs (ns.map Dat.int)→xs=ns.map V.int
 | _,[],h=>by cases h;rfl
 | _,n::ns,h=>by
  cases h with
  | cons h1 h2=>
   cases h1
   rw [zga h2]
   rfl
noncomputable def zc2 (w:zaA) (ws:List Int):List Int:=w.outs.map fun o=>ws.getD o.toNat 0
theorem zhK {r:List Int}{rs:List (List Int)}{j:Nat}(f:List Int→List Int)(h:rs[j]? =some r):(rs.take (j+1)).map f=(rs.take j).map f++ [f r]:=by
 rw [yV,h,yM]
 rfl
end My
namespace My
open PySem L2
open PySem.W (Dat kqdP kqdPs kqdOk)
theorem zm2 (ns:List Int):kqdOk 8 (.list (ns.map Dat.int))=true:=zo6 7 ns
end My
namespace My
open PySem L2
open PySem.W (Dat kqdP kqdPs kqdOk)
structure Flt where
 place:List Key
 worth:Int
noncomputable def kD:Key→Dat
 | .inl n=>.int n
 | .inr s=>.str s
noncomputable def fltD (f:Flt):Dat:=.tuple (f.place.map kD++ [.int f.worth])
noncomputable def zbd (i:Int):List Key:=[Sum.inr "wire",Sum.inl i]
noncomputable def legK (k i:Int):List Key:=[Sum.inr "leg",Sum.inl k,Sum.inl i]
noncomputable def ziY:Nat→List (List Key)
 | 0=>[]
 | n+1=>ziY n++ [zbd n]
noncomputable def zlB (k:Int):Nat→List (List Key)
 | 0=>[]
 | n+1=>zlB k n++ [legK k n]
noncomputable def ziP (gs:List (Str×List Int)):Nat→List (List Key)
 | 0=>[]
 | n+1=>ziP gs n++zlB n ((gs[n]?.map fun g=>g.2.length).getD 0)
noncomputable def zjp (w:zaA):List (List Key):=ziY (w.ins.toNat+w.gates.length)++ziP w.gates w.gates.length
theorem zjX:∀ n,(ziY n).map (·.map kD)=zcI n
 | 0=>rfl
 | n+1=>by rw [ziY,yM,zjX n,zcI];rfl
theorem zlP (k:Int):∀ n,(zlB k n).map (·.map kD)=zeV k n
 | 0=>rfl
 | n+1=>by rw [zlB,yM,zlP k n,zeV];rfl
theorem zj4 (gs:List (Str×List Int)):∀ n,(ziP gs n).map (·.map kD)=zcM gs n
 | 0=>rfl
 | n+1=>by rw [ziP,yM,zj4 gs n,zcM,zlP]
theorem zfY (w:zaA):(zjp w).map (·.map kD)=zbg w:=by unfold zjp zbg;rw [yM,zjX,zj4]
theorem zd1:∀ {n:Nat} {p:List Key},p∈ziY n→∃ i:Nat,i < n∧p=zbd i
 | n+1,p,h=>by
  rcases yP.mp h with h | h
  ·obtain ⟨i,a,b⟩:=zd1 h
   exact ⟨i,by omega,b⟩
  ·exact ⟨n,by omega,yF.mp h⟩
theorem zic {k:Int}:∀ {n:Nat} {p:List Key},p∈zlB k n→∃ i:Nat,i < n∧p=legK k i
 | n+1,p,h=>by
  rcases yP.mp h with h | h
  ·obtain ⟨i,a,b⟩:=zic h
   exact ⟨i,by omega,b⟩
  ·exact ⟨n,by omega,yF.mp h⟩
theorem zdU {gs:List (Str×List Int)}:∀ {n:Nat} {p:List Key},p∈ziP gs n→∃ k i:Nat,k < n∧i < ((gs[k]?.map fun g=>g.2.length).getD 0)∧p=legK k i
 | n+1,p,h=>by
  rcases yP.mp h with h | h
  ·obtain ⟨k,i,a,b,c⟩:=zdU h
   exact ⟨k,i,by omega,b,c⟩
  ·obtain ⟨i,a,b⟩:=zic h
   exact ⟨n,i,by omega,a,b⟩
theorem znk {k l i j:Int}(h:legK k i=legK l j):k=l∧i=j:=by
 unfold legK at h
 injection h with _ h
 injection h with h1 h
 injection h with h
 exact ⟨yci h1,yci h⟩
theorem zm6 {i k j:Int}(h:zbd i=legK k j):False:=by
 have:=congrArg vC h
 exact absurd this (by show ¬(2:Nat)=3;decide)
theorem zkX {α :Type}{xs:List α}{x: α}(h:xs.Nodup)(n:x∉xs):(xs++ [x]).Nodup:=
 wS.mpr ⟨h,jV.mpr ⟨(fun z=>nomatch z),xG⟩,fun a ha b hb e=>n (by rw [← yF.mp hb,← e];exact ha)⟩
noncomputable def zd7 (w:zaA) (f:Flt):Prop:=f.place∈zjp w∧(f.worth=0∨f.worth=1)
theorem zj1 {w:zaA}{f:Flt}(h:zd7 w f):fltD f∈zbI w:=by
 rw [← zcd,← zfY]
 unfold zdO
 refine wD.mpr ⟨f.place.map kD,yS.mpr ⟨_,h.1,rfl⟩,?_⟩
 unfold fltD
 rcases h.2 with e | e
 ·rw [e];exact .head _
 ·rw [e];exact .tail _ (.head _)
theorem znD {w:zaA}{f:Flt}(h:zd7 w f):f.place.length=2∨f.place.length=3:=by
 rcases yP.mp h.1 with h | h
 ·obtain ⟨i,_,e⟩:=zd1 h
  rw [e];exact .inl rfl
 ·obtain ⟨k,i,_,_,e⟩:=zdU h
  rw [e];exact .inr rfl
noncomputable def zcq (fs:List Flt):Prop:=(fs.map (·.place)).Nodup
noncomputable def tabV (fs:List Flt):List (List Key×V):=fs.map fun f=>(f.place,V.int f.worth)
noncomputable def look (fs:List Flt) (p:List Key):Option Int:=(fs.find? fun f=>decide (f.place=p)).map (·.worth)
noncomputable def pick (fs:List Flt) (p:List Key) (v:Int):Int:=(look fs p).getD v
theorem zeg (p:List Key):∀ fs:List Flt,valV (tabV fs) p=(look fs p).map V.int
 | []=>rfl
 | f::fs=>by
  show valV ((f.place,V.int f.worth)::tabV fs) p=_
  unfold look
  by_cases e:f.place=p
  ·rw [zfw e,ybo (by simpa using e)]
   rfl
  ·rw [zfx e,List.find?_cons_of_neg (by simpa using e),zeg p fs]
   rfl
theorem zhC (fs:List Flt)(p:List Key)(v:Int):(valV (tabV fs) p).getD (.int v)= .int (pick fs p v):=by
 rw [zeg]
 unfold pick
 cases look fs p <;> rfl
theorem zi1 {fs:List Flt}{p:List Key}(h:p∉fs.map (·.place)):look fs p=none:=by
 unfold look
 rw [vM.mpr]
 ·rfl
 ·intro f hf z
  exact h (yS.mpr ⟨f,hf,of_decide_eq_true z⟩)
theorem zkh {fs:List Flt}{p:List Key}{b:Int}(h:look fs p=some b):⟨p,b⟩∈fs:=by
 unfold look at h
 obtain ⟨f,hf,rfl⟩:=jQ.mp h
 have e0:=ycn hf
 have e:f.place=p:=by simpa using e0
 rw [← e]
 exact vZ hf
theorem zft {fs:List Flt}{p:List Key}{v:Int}(hb:∀ f∈fs,f.worth=0∨f.worth=1)(hv:v=0∨v=1):pick fs p v=0∨pick fs p v=1:=by
 unfold pick
 cases e:look fs p with
 | none=>exact hv
 | some b=>exact hb _ (zkh e)
noncomputable def zc5 (fs:List Flt) (k:Int) (ns:List Int):List Int:=ns.mapIdx fun i v=>pick fs (legK k i) v
noncomputable def rowS (fs:List Flt) (ns:List Int):List Int:=ns.mapIdx fun i v=>pick fs (zbd i) v
noncomputable def zaE (fs:List Flt) (gs:List (Str×List Int)) (row:List Int):Nat→List Int
 | 0=>rowS fs row
 | n+1=>zaE fs gs row n++ [pick fs (zbd ((row.length+n:Nat):Int)) (match gs[n]? with
   | some g=>zbq g.1 (zc5 fs n (g.2.map fun l=>(zaE fs gs row n).getD l.toNat 0))
   | none=>0)]
theorem zho (fs:List Flt)(ns:List Int):(rowS fs ns).length=ns.length:=by unfold rowS;rw [wJ]
theorem zeN (fs:List Flt)(k:Int)(ns:List Int):(zc5 fs k ns).length=ns.length:=by unfold zc5;rw [wJ]
theorem zl5 (fs:List Flt)(ns:List Int)(v:Int):rowS fs (ns++ [v])=rowS fs ns++ [pick fs (zbd ns.length) v]:=by unfold rowS;rw [yam]
theorem zk6 (fs:List Flt)(k:Int)(ns:List Int)(v:Int):zc5 fs k (ns++ [v])=zc5 fs k ns++ [pick fs (legK k ns.length) v]:=by unfold zc5;rw [yam]
theorem zcu (fs:List Flt)(gs:List (Str×List Int))(row:List Int):∀ n,(zaE fs gs row n).length=row.length+n
 | 0=>zho fs row
 | n+1=>by rw [zaE,yJ,zcu fs gs row n];simp;omega
theorem zlK {fs:List Flt}(hb:∀ f∈fs,f.worth=0∨f.worth=1){ns:List Int}(b:Bits ns):Bits (rowS fs ns):=by
 intro z hz
 unfold rowS at hz
 obtain ⟨i,h,e⟩:=vI.mp hz
 rw [← e]
 exact zft hb (b _ (jO h))
theorem zgK {fs:List Flt}(hb:∀ f∈fs,f.worth=0∨f.worth=1){k:Int}{ns:List Int}(b:Bits ns):Bits (zc5 fs k ns):=by
 intro z hz
 unfold zc5 at hz
 obtain ⟨i,h,e⟩:=vI.mp hz
 rw [← e]
 exact zft hb (b _ (jO h))
theorem zdf {fs:List Flt}(hb:∀ f∈fs,f.worth=0∨f.worth=1){m:Nat}{w:zaA}{row:List Int}(wf:WF m w)(hl:(row.length:Int)=w.ins)(b:Bits row):∀ n,n≤w.gates.length→Bits (zaE fs w.gates row n)
 | 0,_=>zlK hb b
 | n+1,h=>by
  have ih:=zdf hb wf hl b n (by omega)
  obtain ⟨g,hg⟩:∃ g,w.gates[n]? =some g:=⟨_,yC (by omega)⟩
  rw [zaE,hg]
  intro z hz
  rcases yP.mp hz with hz | hz
  ·exact ih z hz
  ·rw [yF.mp hz]
   obtain ⟨l1,l2⟩:=wf.legs n g hg
   refine zft hb (zcO (zgK hb fun y hy=>?_) (by rw [zeN,yA];exact l1))
   obtain ⟨l,hl',rfl⟩:=yS.mp hy
   have:=l2 l hl'
   exact zbu ih (by rw [zcu];omega)
theorem znQ (p:List Key)(v:Int):pick [] p v=v:=rfl
theorem znO (ns:List Int):rowS [] ns=ns:=by
 unfold rowS
 refine xH fun i=>?_
 rw [jF]
 cases ns[i]? <;> rfl
theorem zlF (k:Int)(ns:List Int):zc5 [] k ns=ns:=by
 unfold zc5
 refine xH fun i=>?_
 rw [jF]
 cases ns[i]? <;> rfl
theorem zc3 (gs:List (Str×List Int))(row:List Int):∀ n,zaE [] gs row n=zbc gs row n
 | 0=>znO row
 | n+1=>by
  rw [zaE,zbc,zc3 gs row n,znQ]
  cases gs[n]? with
  | none=>rfl
  | some g=>simp only [zlF]
theorem zf2 {K:PySem.W.Frag}{H:Hp}{b:Int}:∀ {ks:List Key} {vs:List V},Reps K H vs (ks.map kD++ [.int b])→vs=ks.map kV++ [.int b]
 | [],_,h=>by
  cases h with
  | cons h1 h2=>cases h1;cases h2;rfl
 | .inl n::ks,_,h=>by
  cases h with
  | cons h1 h2=>cases h1;rw [zf2 h2];rfl
 | .inr n::ks,_,h=>by
  cases h with
  | cons h1 h2=>cases h1;rw [zf2 h2];rfl
theorem zfS {K:PySem.W.Frag}{H:Hp}{b:Int}:∀ (ks:List Key),Reps K H (ks.map kV++ [.int b]) (ks.map kD++ [.int b])
 | []=>.cons (.int _) .nil
 | .inl n::ks=>.cons (.int _) (zfS ks)
 | .inr n::ks=>.cons (.str _) (zfS ks)
theorem zgm {K:PySem.W.Frag}{H:Hp}{f:Flt}{x:V}(h:Rep K H x (fltD f)):∃ a,x= .ref a∧SqT K H a (f.place.map kV++ [.int f.worth]):=by
 unfold fltD at h
 cases h with
 | tup ha r=>exact ⟨_,rfl,by rw [← zf2 r];exact ha⟩
theorem zbY {K:PySem.W.Frag}{H:Hp}{f:Flt}{a:Addr}(h:SqT K H a (f.place.map kV++ [.int f.worth])):Rep K H (.ref a) (fltD f):=.tup h (zfS _)
theorem zdT (xs:List V)(v:V):cutV (xs++ [v]) none (some (-1))=xs:=by
 have e1:HT.sIx (xs++ [v]).length 0 none=0:=rfl
 have e2:HT.sIx (xs++ [v]).length (xs++ [v]).length (some (-1))=xs.length:=by
  simp only [HT.sIx,yJ,qO]
  rw [if_pos (by decide)]
  omega
 unfold cutV
 rw [e1,e2]
 simp
theorem zeK (xs:List V)(v:V):¬(HT.sIx (xs++ [v]).length 0 none=0∧HT.sIx (xs++ [v]).length (xs++ [v]).length (some (-1))=(xs++ [v]).length):=by
 rintro ⟨_,z⟩
 simp only [HT.sIx,yJ,qO] at z
 rw [if_pos (by decide)] at z
 omega
theorem zmg (xs:List V)(v:V):atI (xs++ [v]) (-1)=some v:=by
 unfold atI ixN
 have e:((-1:Int)+((xs++ [v]).length:Nat)).toNat=xs.length:=by rw [yJ,qO];omega
 rw [if_neg (by decide),if_pos (by rw [yJ,qO];omega),e]
 simp
theorem ok_flt (n:Nat)(f:Flt)(h:f.place.all (fun k=>match k with | .inl _=>true | .inr s=>kX s)=true):kqdOk (n+1) (fltD f)=true:=by
 show ((f.place.map kD++ [Dat.int f.worth]).all (kqdOk n))=true
 rw [yco,qA]
 refine ⟨?_,by cases n <;> rfl⟩
 rw [yb9]
 refine yX.mpr fun k hk=>?_
 have z:=yX.mp h k hk
 cases k with
 | inl _=>cases n <;> rfl
 | inr s=>cases n <;> exact z
end My
namespace My
open PySem L2
open PySem.W (Dat kqdP kqdPs kqdOk)
structure ze7 (K:PySem.W.Frag) (w:zaA) (most:Nat) (G:Hp) (v:V) (fs:List Flt):Prop where
 rep:Rep K G v (.list (fs.map fltD))
 good:∀ f∈fs,zd7 w f
 apart:zcq fs
 few:fs.length≤most
theorem ze7.mono {K:PySem.W.Frag}{w:zaA}{most:Nat}{G G':Hp}{v:V}{fs:List Flt}(h:ze7 K w most G v fs)(s:Same G G'):ze7 K w most G' v fs:=⟨h.rep.mono s,h.good,h.apart,h.few⟩
theorem zk5 {H H':Hp}(s:Same H H'){xs:List V}{kvs:List (List Key×V)}(h:zeS H xs kvs):zeS H' xs kvs:=Paired.mapP h fun _ _ ⟨p,kt,e,h1,h2⟩=>⟨p,kt,e,s _ _ h1,h2.same s⟩
theorem zjx {H:Hp}{D:Addr}{l:List V}{o:HO}(hD:H D=some (.lst l)){xs:List V}{kvs:List (List Key×V)}(h:zeS H xs kvs):zeS (upd H D o) xs kvs:=Paired.mapP h fun _ _ ⟨p,kt,e,h1,h2⟩=>
 ⟨p,kt,e,by rw [zak (znC h1 hD (fun z=>nomatch z))];exact h1,h2.write hD⟩
theorem zid:∀ (fs gs:List Flt),zcq (gs++fs)→ze6 (tabV gs) (tabV fs)=tabV (gs++fs)
 | [],gs,_=>by rw [vQ];rfl
 | f::fs,gs,h=>by
  have nl:look gs f.place=none:=zi1 fun z=>by
   unfold zcq at h
   rw [yM] at h
   exact (wS.mp h).2.2 _ z _ (yS.mpr ⟨f,.head _,rfl⟩) rfl
  have nv:valV (tabV gs) f.place=none:=by rw [zeg,nl];rfl
  show ze6 (putK (tabV gs) f.place (V.int f.worth)) (tabV fs)=_
  rw [zjP _ nv]
  have e:tabV gs++ [(f.place,V.int f.worth)]=tabV (gs++ [f]):=by unfold tabV;rw [yM];rfl
  rw [e,zid fs (gs++ [f]) (by rw [jH];exact h),jH]
  rfl
end My
namespace L2
theorem Reps.rev {K:PySem.W.Frag}{H:Hp}:∀ {vs:List V} {ds:List PySem.W.Dat},Reps K H vs ds→Reps K H vs.reverse ds.reverse
 | _,_,.nil=>.nil
 | _,_,.cons h r=>by
  rw [kK,kK]
  exact (Reps.rev r).snoc h
end L2
namespace My
open PySem L2
open PySem.W (Dat kqdP kqdPs kqdOk)
theorem zcq.rev {fs:List Flt}(a:zcq fs):zcq fs.reverse:=by
 unfold zcq at a ⊢
 rw [List.map_reverse]
 exact (List.reverse_perm _).symm.nodup a
theorem ziE (fs:List Flt)(ws:List (Str×List Int))(row:List Int){i n:Nat}(h:i < row.length+n):∀ m,n≤m→(zaE fs ws row m)[i]? =(zaE fs ws row n)[i]?
 | 0,hm=>by
  have:n=0:=by omega
  subst this
  rfl
 | m+1,hm=>by
  by_cases e:n=m+1
  ·subst e
   rfl
  ·rw [zaE,qY (by rw [zcu];omega),ziE fs ws row h m (by omega)]
theorem zjB {A B:List Flt}{ws:List (Str×List Int)}{row:List Int}{g:Nat}{v:Int}(h:∀ q,(∀ p:Int,q≠legK g p)→look A q=look B q)(ha:look A (zbd ((row.length+g:Nat):Int))=some v):∀ n,zaE A ws row n=zaE B ws row n:=by
 have hw:∀ i:Int,look A (zbd i)=look B (zbd i):=fun i=>h _ fun p z=>zm6 z
 have hpw:∀ (i x:Int),pick A (zbd i) x=pick B (zbd i) x:=fun i x=>by unfold pick;rw [hw]
 intro n
 induction n with
 | zero=>
  show rowS A row=rowS B row
  unfold rowS
  simp only [hpw]
 | succ n ih=>
  rw [zaE,zaE,ih]
  by_cases e:n=g
  ·subst e
   have hb:=(hw ((row.length+n:Nat):Int)).symm.trans ha
   unfold pick
   rw [ha,hb]
   rfl
  ·have hl:∀ ns,zc5 A n ns=zc5 B n ns:=fun ns=>by
    unfold zc5
    have:∀ (i:Nat) (x:Int),pick A (legK n i) x=pick B (legK n i) x:=fun i x=>by
     unfold pick
     rw [h _ fun p z=>e (by have:=(znk z).1;omega)]
    simp only [this]
   rw [hpw]
   cases ws[n]? with
   | none=>rfl
   | some g'=>simp only [hl]
end My
namespace My
open PySem L2
open PySem.W (Dat kqdP kqdPs kqdOk)
theorem zdZ {K:PySem.W.Frag}{H:Hp}:∀ (ks:List Key),Reps K H (ks.map kV) (ks.map kD)
 | []=>.nil
 | .inl n::ks=>.cons (.int _) (zdZ ks)
 | .inr n::ks=>.cons (.str _) (zdZ ks)
theorem kD_inj:∀ {a b:Key},kD a=kD b→a=b
 | .inl _,.inl _,h=>congrArg Sum.inl (Dat.int.inj h)
 | .inr _,.inr _,h=>congrArg Sum.inr (Dat.str.inj h)
theorem zoH (n:Nat){ks:List Key}(h:∀ s,Sum.inr s∈ks→kX s=true):kqdOk (n+1) (.tuple (ks.map kD))=true:=by
 show (ks.map kD).all (kqdOk n)=true
 refine yX.mpr fun d hd=>?_
 obtain ⟨k,hk,rfl⟩:=yS.mp hd
 cases k with
 | inl i=>cases n <;> rfl
 | inr s=>cases n <;> exact h s hk
theorem zlN:kX "wire" =true:=by decide+kernel
theorem zod:kX "leg" =true:=by decide+kernel
theorem zmO {w:zaA}{f:Flt}(h:zd7 w f){s:Str}(hs:Sum.inr s∈f.place):kX s=true:=by
 rcases yP.mp h.1 with h | h
 ·obtain ⟨i,_,e⟩:=zd1 h
  rw [e] at hs
  rcases yO.mp hs with e | hs
  ·rw [ycj e];exact zlN
  ·exact nomatch yF.mp hs
 ·obtain ⟨k,i,_,_,e⟩:=zdU h
  rw [e] at hs
  rcases yO.mp hs with e | hs
  ·rw [ycj e];exact zod
  ·rcases yO.mp hs with e | hs
   ·exact nomatch e
   ·exact nomatch yF.mp hs
theorem zjW {w:zaA}{f:Flt}(h:zd7 w f)(n:Nat):kqdOk (n+1) (.tuple (f.place.map kD))=true:=zoH n fun s hs=>zmO h hs
noncomputable def Meet (w:zaA) (A B:List Flt):Prop:=A=B∨∃ (g:Nat) (v:Int),(∀ q,(∀ p:Int,q≠legK g p)→look A q=look B q)∧look A (zbd ((w.ins.toNat+g:Nat):Int))=some v
theorem Meet.wires {w:zaA}{A B:List Flt}(h:Meet w A B){row:List Int}(hl:(row.length:Int)=w.ins)(n:Nat):zaE A w.gates row n=zaE B w.gates row n:=by
 rcases h with rfl | ⟨g,v,h1,h2⟩
 ·rfl
 ·have e:w.ins.toNat=row.length:=by omega
  rw [e] at h2
  exact zjB h1 h2 n
end My
namespace My
open PySem L2
open PySem.W (Dat kqdP kqdPs kqdOk)
noncomputable abbrev Gts:=List (Str×List Int)
noncomputable def wvAt (gl:Gts) (row:List Int) (i:Int):Int:=(zbc gl row gl.length).getD i.toNat 0
noncomputable def ziI (ins:Int) (gl:Gts):Prop:=∀ (k:Nat) g,gl[k]? =some g→zbh g.1 g.2.length∧∀ l∈g.2,0≤l∧l < ins+k
theorem ziI.snoc {ins:Int}{gl:Gts}{x:Str}{ls:List Int}(h:ziI ins gl)(hk:zbh x ls.length)(hl:∀ l∈ls,0≤l∧l < ins+gl.length):ziI ins (gl++ [(x,ls)]):=fun k g e=>by
 by_cases hk':k < gl.length
 ·rw [qY hk'] at e
  exact h k g e
 ·have:k < (gl++ [(x,ls)]).length:=(yG.mp e).1
  have ek:k=gl.length:=by
   rw [yJ,qO] at this
   omega
  subst ek
  rw [qR (yN _),yaf] at e
  cases e
  exact ⟨hk,hl⟩
theorem zg4 (gl ext:Gts)(row:List Int):∀ n,n≤gl.length→zbc (gl++ext) row n=zbc gl row n
 | 0,_=>rfl
 | n+1,h=>by
  rw [zbc,zbc,zg4 gl ext row n (by omega),qY (by omega)]
theorem zfK (gl:Gts)(row:List Int){i n:Nat}(h:i < row.length+n){m:Nat}(hm:n≤m):(zbc gl row m)[i]? =(zbc gl row n)[i]? :=by
 rw [← zc3,← zc3]
 exact ziE [] gl row h m hm
noncomputable def AtG (ins:Int) (gl:Gts) (w:Int) (x:Str) (ls:List Int):Prop:=∃ k:Nat,w=ins+k∧gl[k]? =some (x,ls)
theorem AtG.last (ins:Int)(gl:Gts)(x:Str)(ls:List Int):AtG ins (gl++ [(x,ls)]) (ins+gl.length) x ls:=⟨gl.length,rfl,by simp⟩
theorem AtG.ext {ins:Int}{gl ext:Gts}{w:Int}{x:Str}{ls:List Int}(h:AtG ins gl w x ls):AtG ins (gl++ext) w x ls:=by
 obtain ⟨k,e,g⟩:=h
 exact ⟨k,e,by rw [qY (yG.mp g).1];exact g⟩
section
variable {ins:Int} {gl:Gts} {row:List Int} {w:Int} {x:Str} {ls:List Int}
theorem AtG.val (good:ziI ins gl)(hl:(row.length:Int)=ins)(h:AtG ins gl w x ls):wvAt gl row w=zbq x (ls.map (wvAt gl row)):=by
 obtain ⟨k,rfl,g⟩:=h
 have hk:=(yG.mp g).1
 have e1:(ins+(k:Int)).toNat=row.length+k:=by omega
 unfold wvAt
 rw [e1,yK,zfK gl row (n:=k+1) (by omega) (by omega),zbc,qR (by rw [zcw];omega)]
 have e2:row.length+k - (zbc gl row k).length=0:=by rw [zcw];omega
 rw [e2,g]
 show zbq x (ls.map fun l=>(zbc gl row k).getD l.toNat 0)=_
 congr 1
 refine xO fun l hm=>?_
 have b:=(good k (x,ls) g).2 l hm
 rw [yK,yK,zfK gl row (n:=k) (m:=gl.length) (by omega) (by omega)]
theorem AtG.lt (h:AtG ins gl w x ls):w < ins+gl.length:=by
 obtain ⟨k,rfl,g⟩:=h
 have:=(yG.mp g).1
 omega
end
theorem zo3 (v:Int):zbq "not" [v]=1 - v:=by rw [zlV];rfl
noncomputable def zlp (n0:Int) (n:Nat):List Int:=(qI n).map fun (t:Nat)=>n0+(t:Int)
theorem zmm (n0:Int)(n:Nat):(zlp n0 n).length=n:=by unfold zlp;simp
theorem zmQ {n0:Int}{n t:Nat}(h:t < n):(zlp n0 n)[t]? =some (n0+(t:Int)):=by
 unfold zlp
 rw [yE,yaL h]
 rfl
noncomputable def zii (ins:Int) (gl:Gts) (n0:Int) (ss:List Int):Prop:=∀ (t:Nat) (s:Int),ss[t]? =some s→AtG ins gl (n0+t) "not" [s]
theorem zii.ext {ins n0:Int}{gl ext:Gts}{ss:List Int}(h:zii ins gl n0 ss):zii ins (gl++ext) n0 ss:=fun t s e=>(h t s e).ext
theorem zii.vals {ins n0:Int}{gl:Gts}{ss row:List Int}(h:zii ins gl n0 ss)(good:ziI ins gl)(hl:(row.length:Int)=ins):(zlp n0 ss.length).map (wvAt gl row)=(ss.map (wvAt gl row)).map fun v=>1 - v:=by
 refine xH fun t=>?_
 by_cases ht:t < ss.length
 ·rw [yE,zmQ ht,yE,yE,yC ht]
  show some (wvAt gl row (n0+t))=some (1 - wvAt gl row ss[t])
  rw [(h t _ (yC ht)).val good hl]
  show some (zbq "not" [wvAt gl row ss[t]])=_
  rw [zo3]
 ·rw [vW (by rw [yA,zmm];omega),vW (by rw [yA,yA];omega)]
section
variable {ins n0:Int} {gl:Gts} {ss:List Int} {one other b l r:Int}
noncomputable def zoZ (ins:Int) (gl:Gts) (ss:List Int) (j:Nat) (st:Int):Prop:=0≤st∧st < ins+gl.length∧∀ row:List Int,(row.length:Int)=ins→Bits row→wvAt gl row st=((ss.take j).map (wvAt gl row)).sum % 2
end
theorem zhd {ins:Int}{gl ext:Gts}{row:List Int}{w:Int}(hl:(row.length:Int)=ins)(h0: 0≤w)(h1:w < ins+gl.length):wvAt (gl++ext) row w=wvAt gl row w:=by
 unfold wvAt
 rw [yK,yK,zfK (gl++ext) row (n:=gl.length) (by omega) (by rw [yJ];omega),zg4 gl ext row gl.length (yN _)]
theorem zoZ.step {ins:Int}{gl:Gts}{ss:List Int}{j:Nat}{st s:Int}(good:ziI ins gl)(i0: 0≤ins)(hs:∀ s∈ss,0≤s∧s < ins+gl.length)(h:zoZ ins gl ss j st)(e:ss[j]? =some s):zoZ ins (gl++ [(("odd" :Str),[st,s])]) ss (j+1) (ins+gl.length):=by
 have bs:=hs s (yI e)
 obtain ⟨h0,h1,h2⟩:=h
 have good':ziI ins (gl++ [(("odd" :Str),[st,s])]):=good.snoc (.inl ⟨.inr (.inr rfl),(by show 2≤2;decide),(by show 2≤4;decide)⟩) fun l hl=>by
  rcases yO.mp hl with rfl | hl
  ·exact ⟨h0,h1⟩
  ·rw [yF.mp hl];exact bs
 refine ⟨by omega,by rw [yJ,qO];omega,fun row hl br=>?_⟩
 rw [(AtG.last ins gl "odd" [st,s]).val good' hl]
 simp only [qW,yb8]
 rw [zfz,zhd hl h0 h1,zhd hl bs.1 bs.2,h2 row hl br,yV,e,yM,ycp]
 have e2:(ss.take j).map (wvAt (gl++ [(("odd" :Str),[st,s])]) row)=(ss.take j).map (wvAt gl row):=xO fun z hz=>by
  have:=hs z (xJ hz)
  exact zhd hl this.1 this.2
 rw [e2]
 show ([((ss.take j).map (wvAt gl row)).sum % 2,wvAt gl row s].sum) % 2=(((ss.take j).map (wvAt gl row)).sum+ [wvAt (gl++ [(("odd" :Str),[st,s])]) row s].sum) % 2
 rw [zhd hl bs.1 bs.2]
 simp only [ybV,List.sum_nil]
 omega
structure GL (K:PySem.W.Frag) (M:List Addr) (m:Addr) (ins:Int) (gl:Gts) (G H:Hp):Prop where
 off:Off (m::M) G H
 at_:∃ gs,H m=some (.lst gs)∧Reps K G gs (gl.map zi5)
 good:ziI ins gl
section
variable {K:PySem.W.Frag} {M:List Addr} {m D T:Addr} {ins:Int} {gl:Gts} {G H:Hp} {o:HO}
theorem GL.new (g:GL K M m ins gl G H)(h:H T=none)(o:HO):GL K M m ins gl G (upd H T o):=by
 obtain ⟨gs,e,r⟩:=g.at_
 exact ⟨g.off.new h o,⟨gs,zae h o _ _ e,r⟩,g.good⟩
theorem GL.opn (g:GL K M m ins gl G H)(h:H D=none)(o:HO):GL K (D::M) m ins gl G (upd H D o):=by
 obtain ⟨gs,e,r⟩:=g.at_
 refine ⟨(g.off.opn h o).less fun k hk=>?_,⟨gs,zae h o _ _ e,r⟩,g.good⟩
 rcases yO.mp hk with rfl | hk
 ·exact .tail _ (.head _)
 ·rcases yO.mp hk with rfl | hk
  ·exact .head _
  ·exact .tail _ (.tail _ hk)
theorem GL.write (g:GL K M m ins gl G H)(h:D∈M)(hm:D≠m)(o:HO):GL K M m ins gl G (upd H D o):=by
 obtain ⟨gs,e,r⟩:=g.at_
 exact ⟨g.off.write (.tail _ h) o,⟨gs,by rw [zak (xU hm)];exact e,r⟩,g.good⟩
theorem GL.close (g:GL K [D] m ins gl G H)(e:H D=some o)(hm:D≠m):GL K [] m ins gl (upd G D o) H∧Same G (upd G D o):=by
 obtain ⟨gs,em,r⟩:=g.at_
 have of1:Off [D,m] G H:=g.off.less fun k hk=>by
  rcases yO.mp hk with rfl | hk
  ·exact .tail _ (.head _)
  ·rw [yF.mp hk];exact .head _
 have k:=of1.cadd o
 exact ⟨⟨of1.close e fun z=>hm (yF.mp z),⟨gs,em,r.mono k⟩,g.good⟩,k⟩
end
end My
namespace My
open PySem L2
open PySem.W (Dat kqdP kqdPs kqdOk)
noncomputable def sh (W l:Int):Int:=l+(if W≤l then 1 else 0)
noncomputable def turned (W:Int) (g p n:Nat) (ls:List Int):List Int:=if n=g then (ls.map (sh W)).set p W else ls.map (sh W)
end My
namespace L2
theorem Reps.take {K:PySem.W.Frag}{H:Hp}:∀ {vs:List V} {ds:List PySem.W.Dat} (n:Nat),Reps K H vs ds→Reps K H (vs.take n) (ds.take n)
 | _,_,0,_=>.nil
 | _,_,_+1,.nil=>.nil
 | _,_,n+1,.cons h r=>.cons h (Reps.take n r)
theorem Reps.drop {K:PySem.W.Frag}{H:Hp}:∀ {vs:List V} {ds:List PySem.W.Dat} (n:Nat),Reps K H vs ds→Reps K H (vs.drop n) (ds.drop n)
 | _,_,0,r=>r
 | _,_,_+1,.nil=>.nil
 | _,_,n+1,.cons _ r=>Reps.drop n r
end L2
namespace L2
open PySem PySem.Spec PyProof.Rows
theorem zcH (h:Heap):∀ fs:List Addr,∃ B:Heap,∀ b,(b∈fs→B.get? b=none)∧(b∉fs→B.get? b=h.get? b)
 | []=>⟨h,fun b=>⟨(fun z=>(nomatch z)),fun _=>rfl⟩⟩
 | a::r=>by
  obtain ⟨B,hB⟩:=zcH h r
  refine ⟨B.update a fun o=>{o with data:=.freed},fun b=>⟨fun z=>?_,fun z=>?_⟩⟩
  ·by_cases e:b=a
   ·subst e
    obtain ⟨objs,l⟩:=B
    unfold Heap.update Heap.get?
    rw [Array.getElem?_modify,if_pos rfl]
    cases objs[b]? <;> rfl
   ·rw [vA _ _ (xU e)]
    exact (hB b).1 ((yO.mp z).resolve_left e)
  ·have e:b≠a:=fun q=>z (q ▸ .head _)
   rw [vA _ _ (xU e)]
   exact (hB b).2 fun q=>z (.tail _ q)
theorem zcQ {h h' base base':Heap}:∀ {l:List Env},h.FunFrames base l→(∀ b∈frs l,∀ o,h.get? b=some o→∃ sl,h'.get? b=some {o with slots:=sl})→(∀ b∈frs l,base'.get? b=none)→h'.FunFrames base' l
 | [],_,_,_=>trivial
 | env::r,hl,k,kb=>by
  obtain ⟨hk,⟨L,o,hf,hn,ho,hd⟩,hr⟩:=hl
  have hm:∀ b,b∈frs r→b∈frs (env::r):=fun b z=>by
   unfold frs at z ⊢
   rw [qK,hf]
   exact .tail _ z
  have hL:L∈frs (env::r):=by
   unfold frs
   rw [qK,hf]
   exact .head _
  obtain ⟨sl,hs⟩:=k L hL o ho
  exact ⟨hk,⟨L,_,hf,kb L hL,hs,hd⟩,zcQ hr (fun b z=>k b (hm b z)) fun b z=>kb b (hm b z)⟩
structure Air (C:Value) (h0:Heap) (x:Addr) (H':Hp) (h:Heap):Prop where
 newx:h0.get? x=none
 hx:H' x=none
 tr:∃ T a0 oe vs oT ts,h.get? x=some oe∧(oe.cls=C∧vs[0]? =some a0)∧oe.data= .fields vs∧vs[1]? =some (.ref T)∧h0.get? T=none∧H' T=none∧T≠x∧h.get? T=some oT∧oT.data= .fields ts∧ts[3]? =some .none
noncomputable def CXC (P:Program) (w:World) (C:Value):CXT:=fun outer H s E e s'=>∃ x H',e= .ref x∧s'.os=s.os∧AllBare s'.gens∧Un (frs outer) [] H H' s.heap s'.heap∧HOk P w H' s'.heap∧Air C s.heap x H' s'.heap∧E e (some x) H'
theorem zbB.there {P:Program}{w:World}{H:Hp}{h:Heap}{a:Addr}{o:HO}(x:zbB P w H h a o):∃ ob,h.get? a=some ob:=by
 cases o with
 | lst xs=>obtain ⟨_,_,_,_,e⟩:=x;exact ⟨_,e⟩
 | tup xs=>obtain ⟨_,_,_,ob,e,_⟩:=x;exact ⟨_,e⟩
 | dK kvs=>obtain ⟨_,_,_,_,o,_,_,e,_⟩:=x;exact ⟨_,e⟩
 | dT kvs=>obtain ⟨_,_,_,_,o,_,_,e,_⟩:=x;exact ⟨_,e⟩
 | set S n=>obtain ⟨o,_,_,_,e,_⟩:=x;exact ⟨_,e⟩
 | ins C dx fs=>obtain ⟨_,_,_,e,_⟩:=x;exact ⟨_,e⟩
 | own y=>obtain ⟨_,e⟩:=x;exact ⟨_,e⟩
 | xd fs=>obtain ⟨_,⟨_,_,_,e,_⟩,_⟩:=x;exact ⟨_,e⟩
 | rng lo hi=>obtain ⟨_,_,_,e⟩:=x;exact ⟨_,e⟩
 | frz ob u=>obtain ⟨e,_⟩:=x;exact ⟨_,e⟩
 | tbl ps=>exact ⟨_,x⟩
 | met f y=>exact ⟨_,x⟩
 | ext φ =>obtain ⟨_,⟨_,e⟩,_⟩:=x;exact ⟨_,e⟩
theorem Un.left {fs:List Addr}{H H':Hp}{h h' h'':Heap}{x T:Addr}(u:Un fs [] H H' h h')(nx:h.get? x=none)(nT:h.get? T=none)(k:∀ b o,b∉fs→b≠x→b≠T→h'.get? b=some o→h''.get? b=some o)
  (ks:∀ b o,b∈fs→h'.get? b=some o→∃ sl,h''.get? b=some {o with slots:=sl}):Un fs [] H H' h h'':=by
 have nn:∀ {b o},h.get? b=some o→b≠x∧b≠T:=fun {b o} e=>⟨(fun z=>by rw [z,nx] at e;cases e),(fun z=>by rw [z,nT] at e;cases e)⟩
 refine ⟨fun b o e n hb hx=>k b o hb (nn e).1 (nn e).2 (u.keep b o e n hb hx),fun b o e n hb hx=>?_,u.free,fun b o e hx=>?_,u.tups,u.frzs,u.tbls⟩
 ·obtain ⟨sl,q⟩:=u.slot b o e n hb hx
  obtain ⟨sl',q'⟩:=ks b _ hb q
  exact ⟨sl',q'⟩
 ·obtain ⟨o',q⟩:=u.there b o e hx
  by_cases hb:b∈fs
  ·obtain ⟨sl,q'⟩:=ks b o' hb q
   exact ⟨_,q'⟩
  ·exact ⟨o',k b o' hb (nn e).1 (nn e).2 q⟩
theorem HOk.left {P:Program}{w:World}{fs:List Addr}{H':Hp}{h' h'':Heap}{x T:Addr}(ok:HOk P w H' h')(nf:∀ b∈fs,H' b=none)(nx:H' x=none)(nT:H' T=none)(k:∀ b o,b∉fs→b≠x→b≠T→h'.get? b=some o→h''.get? b=some o):HOk P w H' h'':=fun a o e=>by
 have key:∀ b u,H' b=some u→∀ q,h'.get? b=some q→h''.get? b=some q:=fun b u e q eq=>k b q (fun z=>by rw [nf b z] at e;cases e) (fun z=>by rw [z,nx] at e;cases e) (fun z=>by rw [z,nT] at e;cases e) eq
 refine (ok a o e).stay (fun b u hb q=>?_) (fun _ q=>q) fun _ _ q=>q
 rcases hb with rfl | hb
 ·exact key _ _ e u q
 ·exact key _ _ hb u q
section
variable {P:Program} {w:World} {C:Value} {M:Model} {A:Around} {env:Env} {outer:List Env} {L:Addr} {H:Hp} {s s':Shared} {E:XK} {e:Value} {base:Heap} {E1:Value→Shared→Prop}
theorem zkD (hfr:A.frames=some (env::outer))(hf:env.frame=some L)(fun0:s.heap.FunFrames base (env::outer))(frf:∀ b∈frs (env::outer),H b=none)(cx:CXC P w C (env::outer) H s E e s'):
  wpAny M A (leaving env e) (fun _ s''=>CXC P w C (env::outer) H s E e s'') E1 s':=by
 obtain ⟨x,H',rfl,hos,hb,un,ok,⟨newx,hx,T,a0,oe,vs,oT,ts,ex,ec,ed,e1,nT,hT,Tx,eT,edT,e3⟩,q⟩:=cx
 obtain ⟨B,hB⟩:=zcH s'.heap (x::T::frs (env::outer))
 have fr0:∀ b∈frs (env::outer),∃ o,s.heap.get? b=some o∧∀ vs,o.data≠.fields vs:=fun b z=>(fun0.mem z).2
 have frs':∀ b∈frs (env::outer),H' b=none:=fun b z=>by
  obtain ⟨o,ho,_⟩:=fr0 b z
  exact un.free b o ho (frf b z) (by simp)
 have fl:s'.heap.FunFrames B (env::outer):=zcQ fun0 (fun b z o ho=>un.slot b o ho (frf b z) z (by simp)) fun b z=>(hB b).1 (.tail _ (.tail _ z))
 have st:B.StaysIn s'.heap:=fun b o hb=>by
  by_cases z:b∈x::T::frs (env::outer)
  ·rw [(hB b).1 z] at hb;cases hb
  ·rw [(hB b).2 z] at hb;exact hb
 refine wpAny_leaving_nextW (base:=B) (cls:=C) (a0:=a0) hfr fl hf ⟨oe,vs,T,oT,ts,ex,ec,ed,e1,(hB T).1 (.tail _ (.head _)),Tx,eT,edT,e3⟩ st ((hB x).1 (.head _)) fun h'' hL=>?_
 obtain ⟨k1,k2,⟨oe',vs',T',oT',ts',ex',ec',ed',e1',nT',Tx',eT',edT',e3'⟩,k4⟩:=hL
 have k:∀ b o,b∉frs (env::outer)→b≠x→b≠T→s'.heap.get? b=some o→h''.get? b=some o:=fun b o n1 n2 n3 eb=>k1 b o (by
  rw [(hB b).2 fun z=>by
   rcases yO.mp z with z | z
   ·exact n2 z
   ·rcases yO.mp z with z | z
    ·exact n3 z
    ·exact n1 z]
  exact eb)
 have ks:∀ b o,b∈frs (env::outer)→s'.heap.get? b=some o→∃ sl,h''.get? b=some {o with slots:=sl}:=fun b o z eb=>k4 b o eb (by
  obtain ⟨_,o2,h2,h3⟩:=fl.mem z
  rw [eb] at h2
  cases h2
  exact h3)
 have Tf:T'∉frs (env::outer):=fun z=>by
  obtain ⟨_,o2,h2,h3⟩:=k2.mem z
  rw [eT'] at h2
  cases h2
  exact h3 _ edT'
 have gT:s'.heap.get? T'=none∨T'=T:=by
  by_cases z:T'=T
  ·exact .inr z
  ·refine .inl ?_
   rw [← (hB T').2 fun y=>?_]
   ·exact nT'
   ·rcases yO.mp y with y | y
    ·exact Tx' y
    ·rcases yO.mp y with y | y
     ·exact z y
     ·exact Tf y
 have n0:s.heap.get? T'=none:=by
  rcases gT with g | rfl
  ·cases z:s.heap.get? T' with
   | none=>rfl
   | some o=>
    obtain ⟨o',y⟩:=un.there T' o z (by simp)
    rw [g] at y
    cases y
  ·exact nT
 have n1:H' T'=none:=by
  rcases gT with g | rfl
  ·cases z:H' T' with
   | none=>rfl
   | some o=>
    obtain ⟨ob,y⟩:=(ok T' o z).there
    rw [g] at y
    cases y
  ·exact hT
 exact ⟨x,H',rfl,hos,hb,un.left newx nT k ks,ok.left frs' hx hT k,⟨newx,hx,T',a0,oe',vs',oT',ts',ex',ec',ed',e1',n0,n1,Tx',eT',edT',e3'⟩,q⟩
end
theorem CXC.up {X:Cx}{pins:List (Addr×Obj)}{σ :St}{H:Hp}{s s':Shared}{C:Value}{E:XK}{e:Value}(I:Inv X pins σ H s)(hx:X.ex= [])(cx:CXC X.prog X.w C X.stack H s E e s'):CXC X.prog X.w C X.outer X.H₀ X.s₀ E e s':=by
 obtain ⟨x,H',rfl,hos,hb,un,ok,⟨newx,hx',T,a0,oe,vs,oT,ts,ex,ec,ed,e1,nT,hT,Tx,eT,edT,e3⟩,q⟩:=cx
 have J:=I.call' hos un ok hb (fun b z=>absurd z (by simp))
 have nn:∀ {b:Addr},s.heap.get? b=none→X.s₀.heap.get? b=none:=fun {b} z=>by
  cases y:X.s₀.heap.get? b with
  | none=>rfl
  | some o=>
   obtain ⟨o',y'⟩:=I.base.there b o y (by rw [hx];simp)
   rw [z] at y'
   cases y'
 have jb:=J.base
 rw [hx] at jb
 exact ⟨x,H',rfl,J.os,J.bare,jb,J.hok,⟨nn newx,hx',T,a0,oe,vs,oT,ts,ex,ec,ed,e1,nn nT,hT,Tx,eT,edT,e3⟩,q⟩
theorem zdk {P:Program}{w:World}{H:Hp}{h:Heap}(ok:HOk P w H h){a:Addr}(e:h.get? a=none):H a=none:=by
 cases z:H a with
 | none=>rfl
 | some o=>
  obtain ⟨ob,y⟩:=(ok a o z).there
  rw [e] at y
  cases y
section
variable {P:Program} {w:World} {M:Model} {A:Around} {env:Env} {outer:List Env} {L C x:Addr} {H:Hp} {s:Shared} {E:XK} {base h':Heap} {E1:Value→Shared→Prop} {us:List Value}
theorem zjd (hfr:A.frames=some (env::outer))(hf:env.frame=some L)(fun0:s.heap.FunFrames base (env::outer))(frf:∀ b∈frs (env::outer),H b=none)(ok:HOk P w H s.heap)(hg:AllBare s.gens)(mx:Heap.MadeExcOf s.heap h' x (.ref C) us)(q:E (.ref x) (some x) H):
  wpAny M A (leaving env (.ref x)) (fun _ s''=>CXC P w (.ref C) (env::outer) H s E (.ref x) s'') E1 {s with heap:=h'}:=by
 obtain ⟨keeps,newx,t,ex,nt,et⟩:=mx
 have hx:H x=none:=zdk ok newx
 obtain ⟨B,hB⟩:=zcH h' (x::frs (env::outer))
 have fl:h'.FunFrames B (env::outer):=zcQ fun0 (fun b z o ho=>⟨o.slots,keeps b o ho⟩) fun b z=>(hB b).1 (.tail _ z)
 have st:B.StaysIn h':=fun b o hb=>by
  by_cases z:b∈x::frs (env::outer)
  ·rw [(hB b).1 z] at hb;cases hb
  ·rw [(hB b).2 z] at hb;exact hb
 refine wpAny_leaving_firstW (base:=B) (s:={s with heap:=h'}) (a0:=.ref t) hfr fl hf ex st ((hB x).1 (.head _)) rfl rfl rfl fun h'' hL=>?_
 obtain ⟨k1,k2,⟨oe',vs',T',oT',ts',ex',ec',ed',e1',nT',Tx',eT',edT',e3'⟩,k4⟩:=hL
 have k:∀ b o,b∉frs (env::outer)→b≠x→b≠x→h'.get? b=some o→h''.get? b=some o:=fun b o n1 n2 _ eb=>k1 b o (by
  rw [(hB b).2 fun z=>by
   rcases yO.mp z with z | z
   ·exact n2 z
   ·exact n1 z]
  exact eb)
 have ks:∀ b o,b∈frs (env::outer)→h'.get? b=some o→∃ sl,h''.get? b=some {o with slots:=sl}:=fun b o z eb=>k4 b o eb (by
  obtain ⟨_,o2,h2,h3⟩:=fl.mem z
  rw [eb] at h2
  cases h2
  exact h3)
 have Tf:T'∉frs (env::outer):=fun z=>by
  obtain ⟨_,o2,h2,h3⟩:=k2.mem z
  rw [eT'] at h2
  cases h2
  exact h3 _ edT'
 have g0:h'.get? T'=none:=by
  rw [← (hB T').2 fun y=>?_]
  ·exact nT'
  ·rcases yO.mp y with y | y
   ·exact Tx' y
   ·exact Tf y
 have n0:s.heap.get? T'=none:=by
  cases z:s.heap.get? T' with
  | none=>rfl
  | some o=>
   have y:=keeps _ _ z
   rw [g0] at y
   cases y
 exact ⟨x,H,rfl,rfl,hg,(Un.kept keeps).left newx newx k ks,(ok.kept keeps).left (fun b z=>frf b z) hx hx k,⟨newx,hx,T',.ref t,oe',vs',oT',ts',ex',ec',ed',e1',n0,zdk ok n0,Tx',eT',edT',e3'⟩,q⟩
end
theorem znF {K:PySem.W.Frag}{h:Heap}{C:Addr}{bB:List Value}{nid:String}(X:K.In h)(q:PySem.W.excIn K C bB nid=true):
  ∃ tl N nm qn bs hd sn sub ab col dd a0 a1 a2 a3 a5 mN,h.get? C=some (excClassObj nm qn C N bs tl hd sn sub ab col dd a0 a1 a2 a3 a5 nid)∧h.Ns N mN∧mN "__init__" =none∧OwnTail h bB tl:=by
 unfold PySem.W.excIn at q
 split at q
 case h_2=>cases q
 case h_1 dd cd sl ho=>
  split at q
  case h_2=>cases q
  case h_1 C2 tl a0 a1 a2 a3 nn a5 hm hs=>
   simp only [qA,beq_iff_eq,jT] at q
   obtain ⟨⟨⟨⟨⟨w1,w2⟩,w3⟩,w4⟩,w5⟩,w6⟩:=q
   subst w1 w2
   cases cd with
   | mk nm bs mro ns qn hd sn sub ab col del=>
    dsimp only at hm w3 w5 w6
    subst hm w3
    have e:sl= #[a0,a1,a2,a3,some (.builtin nn),a5]:=by
     cases sl with
     | mk l=>exact congrArg Array.mk hs
    subst e
    exact ⟨tl,ns,nm,qn,bs,hd,sn,sub,ab,col,dd,a0,a1,a2,a3,a5,_,X _ _ ho,Heap.Ns.of_isNs (PySem.W.isNs_of_in X w5),PySem.W.nsMap_none_of_in X w5 w6,PySem.W.tail_of_in X w4⟩
noncomputable def zhB (C:Addr) (X:Cx) (E:XK):Prop:=∀ (pins:List (Addr×Obj)) (σ :St) (H:Hp) (s:Shared) (h':Heap) (x:Addr) (us:List Value),Inv X pins σ H s→Heap.MadeExcOf s.heap h' x (.ref C) us→E (.ref x) (some x) H→X.xe (.ref x) {s with heap:=h'}
noncomputable def zoc (E:XK) (t:TA):TS:=fun _ σ H=>t σ H fun vs H1=>vs.length≤yL∧∀ x,H1 x=none→E (.ref x) (some x) H1
section
variable {X:Cx} {C:Addr} {E:XK} {B nid iid:String} {bB:List Value} {x:Str} {np cpos pos:Pos} {e:Expr} {es:List Expr} {t:TA}
theorem znT (F:ExcBaseFacts B nid iid bB)(hc:PySem.W.excIn X.K C bB nid=true)(hcalm:X.calm=true)(hg:Gl X x)(hm:X.mg x=some (.ref C))(hx:zhB C X E)(ha:PA X (e::es) t)(hdb:(x==("__debug__" :Str))=false:=by decide)
  (he:starEach (e::es) X.env=(false,eval e X.env)::starEach es X.env:=by rfl) (hpl:(backTo cpos (starEach es X.env)).any (·.1)=false:=by rfl):PS X (.Raise (some (.Call (.Name x np) (e::es) [] cpos)) none pos) (zoc E t):=by
 intro pins s σ H D I h
 obtain ⟨tl,N,nm,qn,bs,hd,sn,sub,ab,col,dd,a0,a1,a2,a3,a5,mN,oC,oN,oi,oT⟩:=znF I.ok.mod.kin hc
 have hplain:(backTo cpos (starEach (e::es) X.env)).any (·.1)=false:=by
  rw [he]
  show (false || (backTo cpos (starEach es X.env)).any (·.1))=false
  rw [hpl]
  rfl
 refine wpAny_Raise_call_subT (C:=C) (nm:=nm) (q:=qn) (N:=N) (bs:=bs) (bm:=tl) (hdct:=hd) (sn:=sn) (sub:=sub) (ab:=ab) (col:=col) (dd:=dd) (k0:=a0) (k1:=a1) (k2:=a2) (k3:=a3) (k5:=a5) F (mN:=mN) (oT.hasType F.hasBase) (I.ok.hd hcalm) hplain oi (zf8 I hg hm ⟨rfl,?_⟩ hdb)
 have z:=ha cpos pins s σ H _ I h
 rw [he] at z ⊢
 refine yaF (thn z fun us s1 ⟨vs,H1,I1,r,q1,q2⟩=>⟨rfl,by rw [← r.length];exact q1,I1.bk _ _ oC,oN.keeps I1.bk,oT.keeps I1.bk,fun h2 x2 mx=>?_⟩)
 exact hx pins σ H1 s1 h2 x2 us I1 mx (q2 x2 (zdk I1.hok mx.new))
end
section
variable {P:Program} {w:World} {K:PySem.W.Frag} {mg:Str→Option Value} {base:Heap} {N:List Str} {qual:Str} {scope:Scope} {f C:Addr} {cd:Value} {A:Around} {outer:List Env} {s:Shared} {H:Hp} {E:XK}
theorem zff:zhW (CXC P w (.ref C)) (cxOf (CXC P w (.ref C)) P w K mg base N qual scope f cd A outer s H E) E:=fun pins σ H1 s1 e s' I cx=>by
 refine wpAny_mono (zkD I.ok.frames rfl I.env0.funs I.stkFree cx) (fun _ s2 cx2=>?_) fun _ _ z=>z
 exact CXC.up (X:=cxOf (CXC P w (.ref C)) P w K mg base N qual scope f cd A outer s H E) I rfl cx2
theorem zoo:zhB C (cxOf (CXC P w (.ref C)) P w K mg base N qual scope f cd A outer s H E) E:=fun pins σ H1 s1 h' x us I mx q=>by
 refine wpAny_mono (zjd I.ok.frames rfl I.env0.funs I.stkFree I.hok I.bare mx q) (fun _ s2 cx2=>?_) fun _ _ z=>z
 exact CXC.up (X:=cxOf (CXC P w (.ref C)) P w K mg base N qual scope f cd A outer s H E) I rfl cx2
end
section
variable {X:Cx}
theorem PS.nox {st:Stmt}{t:TS}(h:PS X.nox st t):PS X st t:=fun pins s σ H D I hw=>
 wpAny_mono (h pins s σ H D (I.wish _) hw) (fun _ _ q=>q.unwish) fun _ _ z=>z.elim
theorem PA.nox {es:List Expr}{t:TA}(h:PA X.nox es t):PA X es t:=fun pos pins s σ H Q I hw=>
 wpAny_mono (h pos pins s σ H Q (I.wish _) hw) (fun _ _ ⟨v,H',I',r,q⟩=>⟨v,H',I'.unwish,r,q⟩) fun _ _ z=>z.elim
theorem zhS {C:Addr}{E:XK}{B nid iid:String}{bB:List Value}{x:Str}{np cpos pos:Pos}{e:Expr}{es:List Expr}{t:TA}(F:ExcBaseFacts B nid iid bB)(hc:PySem.W.excIn X.K C bB nid=true)(hcalm:X.calm=true)(hg:Gl X x)(hm:X.mg x=some (.ref C))(hx:zhB C X E)(ha:Bx (PA X (e::es) t))(hdb:(x==("__debug__" :Str))=false:=by decide)
  (he:starEach (e::es) X.env=(false,eval e X.env)::starEach es X.env:=by rfl) (hpl:(backTo cpos (starEach es X.env)).any (·.1)=false:=by rfl):Bx (PS X (.Raise (some (.Call (.Name x np) (e::es) [] cpos)) none pos) (zoc E t)):=⟨znT F hc hcalm hg hm hx ha.1 hdb he hpl⟩
end
section
variable {P:Program} {w:World} {K:PySem.W.Frag} {mg:Str→Option Value} {base:Heap}
theorem Fun.okC {x qual:Str}{st:Stmt}{f C:Addr}{fd:FuncData}{N ps:List Str}{k:Nat}{sp:Sp}(F:Fun K x qual st f fd)(S:zav N ps (zaj st))(len:∀ vs H Q E,sp vs H Q E→vs.length=ps.length)
  (hbody:∀ (cdv:Value) (A:Around) (outer:List Env) (s:Shared) (H:Hp) (vs:List V) (Q:VK) (E:XK),Room k (A.deeper (envOfC qual (zaj st) s.heap.objs.size f cdv))→sp vs H Q E→
   ∃ t,Bx (PSs (cxOf (CXC P w (.ref C)) P w K mg base N qual (zaj st) f cdv A outer s H E) (zbp st) t)∧t {nx:=fun _ H2=>Q .non H2,rt:=Q} (start N vs) H):FnOk P w K mg base (CXC P w (.ref C)) (k+1) f fd ps sp:=by
 obtain ⟨oc,od,kV,doc,pm,an,cdv,ct,osl,rfl,lk,hcd⟩:=F.ex
 refine zoP lk hcd S len fun A outer s H vs Q E hr hsp=>?_
 obtain ⟨t,h,q⟩:=hbody cdv A outer s H vs Q E hr hsp
 exact ⟨t,h.1,q⟩
variable {N:List Str} {qual:Str} {scope:Scope} {f C:Addr} {cd:Value} {A:Around} {outer:List Env} {s:Shared} {H:Hp} {E:XK}
theorem zkZ:PassesOwn (model P w) (A.deeper (envOfC qual scope s.heap.objs.size f cd)) (envOfC qual scope s.heap.objs.size f cd) (cxOf (CXC P w (.ref C)) P w K mg base N qual scope f cd A outer s H E).xe:=PassesOwn.leaving
end
noncomputable def zjI (K:PySem.W.Frag) (C:Addr):List Value:=match K.lookup C with
 | some ⟨_,_,.cls cd,_⟩=>cd.mro
 | _=>[]
theorem zdF {K:PySem.W.Frag}{h:Heap}{C:Addr}{bB:List Value}{nid:String}(X:K.In h)(q:PySem.W.excIn K C bB nid=true):
  ∃ tl N nm qn bs hd sn sub ab col dd a0 a1 a2 a3 a5,h.get? C=some (excClassObj nm qn C N bs tl hd sn sub ab col dd a0 a1 a2 a3 a5 nid)∧zjI K C= .ref C::tl∧OwnTail h bB tl:=by
 unfold PySem.W.excIn at q
 split at q
 case h_2=>cases q
 case h_1 dd cd sl ho=>
  split at q
  case h_2=>cases q
  case h_1 C2 tl a0 a1 a2 a3 nn a5 hm hs=>
   simp only [qA,beq_iff_eq,jT] at q
   obtain ⟨⟨⟨⟨⟨w1,w2⟩,w3⟩,w4⟩,w5⟩,w6⟩:=q
   subst w1 w2
   have em:zjI K C2= .ref C2::tl:=by
    unfold zjI
    rw [ho]
    exact hm
   cases cd with
   | mk nm bs mro ns qn hd sn sub ab col del=>
    dsimp only at hm w3 w5 w6
    subst hm w3
    have e:sl= #[a0,a1,a2,a3,some (.builtin nn),a5]:=by
     cases sl with
     | mk l=>exact congrArg Array.mk hs
    subst e
    exact ⟨tl,ns,nm,qn,bs,hd,sn,sub,ab,col,dd,a0,a1,a2,a3,a5,X _ _ ho,em,PySem.W.tail_of_in X w4⟩
section
variable {M:Model} {A:Around} {E:Value→Shared→Prop}
variable {nm q nm2 q2:Str} {C N S N2:Addr} {bs bm bs2 bm2:List Value} {hdct hd2:Bool} {sn sn2:List Str} {sub sub2:List Value} {ab ab2:Bool} {col col2:Option Bool} {dd dd2:Option Addr} {k0 k1 k2 k3 k5 l0 l1 l2 l3 l5:Option Value} {newId newId2:String}
end
noncomputable def excO (x C:Addr):HO:=.ext fun h=>∃ ob,h.get? x=some ob∧ob.cls= .ref C
theorem Un.track {P:Program}{w:World}{fs:List Addr}{H H':Hp}{h h':Heap}{x:Addr}{o:HO}(u:Un fs [] H H' h h')(nx:h.get? x=none)(ok:HOk P w H h):Un fs [] H (upd H' x o) h h':=by
 have ne:∀ {b ob},h.get? b=some ob→b≠x:=fun {b ob} e z=>by rw [z,nx] at e;cases e
 have ne2:∀ {b ob},H b=some ob→b≠x:=fun {b ob} e=>by
  obtain ⟨q,hq⟩:=(ok b ob e).there
  exact ne hq
 exact ⟨u.keep,u.slot,fun b ob e n hx=>by rw [zak (ne e)];exact u.free b ob e n hx,u.there,fun b xs e=>by rw [zak (ne2 e)];exact u.tups b xs e,fun b ob v e=>by rw [zak (ne2 e)];exact u.frzs b ob v e,fun b ps e=>by
  obtain ⟨more,z⟩:=u.tbls b ps e
  exact ⟨more,by rw [zak (ne2 e)];exact z⟩⟩
theorem HOk.track {P:Program}{w:World}{H':Hp}{h:Heap}{x:Addr}{o:HO}(ok:HOk P w H' h)(nx:H' x=none)(new:zbB P w (upd H' x o) h x o):HOk P w (upd H' x o) h:=fun a ob e=>by
 have ne:∀ {b u},H' b=some u→b≠x:=fun {b u} q z=>by rw [z,nx] at q;cases q
 by_cases z:a=x
 ·subst z
  rw [zab] at e
  cases e
  exact new
 ·rw [zak z] at e
  exact (ok a ob e).stay (fun _ _ _ q=>q) (fun b q=>by rw [zak (ne q)];exact q) fun b xs q=>q.keep fun u eu _=>by rw [zak (ne eu)];exact eu
section
variable {X:Cx} {pins:List (Addr×Obj)} {σ :St} {H:Hp} {s:Shared}
theorem ziS {M:Model}{A:Around}{E:Value→Shared→Prop}{j:Nat}{n:Str}{pos:Pos}{Q:Unit→Shared→Prop}(I:Inv X pins σ H s)(hN:X.N.Nodup)(hj:X.N[j]? =some n)(hk:X.env.scope.names.lookup n=some .local)
  (h:∀ s',Inv X pins (σ.set j none) H s'→Q () s'):wpAny M A (do bindName X.env n .none;unbindBehindTheSuite X.env n pos) Q E s:=by
 obtain ⟨m,hn,hl⟩:=id I.loc
 have hc:(X.env.scope.kind== .class || (X.env.scope.kind== .module && X.env.locals !=X.env.globals))=false:=by rw [I.ok.kind];rfl
 refine wpAny_nameGoes_keeps hk hn hc fun h' v hn' hs=>h _ ?_
 obtain ⟨oL,_,_,hoL,_⟩:=id hn
 have low:∀ {b o},X.s₀.heap.get? b=some o→b≠X.env.locals:=fun {b o} e=>qC (qL (yU e) I.ok.above)
 refine ⟨I.ok,I.os,I.bare,⟨fun b o e n1 hb hx=>(hs.2 b (low e)).trans (I.base.keep b o e n1 hb hx),fun b o e n1 hb hx=>?_,I.base.free,fun b o e hx=>?_,I.base.tups,I.base.frzs,I.base.tbls⟩,⟨_,hn',fun i y v' e1 e2 e3=>?_⟩,fun y c e=>?_,I.free,I.freeC,fun p hp=>?_,fun b ob e=>?_,by simpa using I.len⟩
 ·obtain ⟨sl,q⟩:=I.base.slot b o e n1 hb hx
  exact ⟨sl,(hs.2 b (low e)).trans q⟩
 ·obtain ⟨o',q⟩:=I.base.there b o e hx
  exact ⟨o',(hs.2 b (low e)).trans q⟩
 ·by_cases z:i=j
  ·subst z
   have li:i < σ.length:=by rw [I.len];exact (yG.mp hj).1
   rw [wF li] at e2
   cases e2
  ·rw [xX (xU z)] at e2
   obtain ⟨u,r,q⟩:=hl i y v' e1 e2 e3
   have yn:y≠n:=fun q=>z (zhh hN e1 (q ▸ hj))
   refine ⟨u,r,?_⟩
   rcases q with ⟨q1,q2⟩ | ⟨q1,c,q2,q3⟩
   ·exact .inl ⟨q1,(if_neg yn).trans q2⟩
   ·exact .inr ⟨q1,c,q2,q3.sameBut hs (I.cne y c q2)⟩
 ·obtain ⟨v2,q⟩:=I.cell y c e
  exact ⟨v2,q.sameBut hs (I.cne y c e)⟩
 ·obtain ⟨q1,q2,q3,q4,q5⟩:=I.pin p hp
  exact ⟨(hs.2 p.1 q3).trans q1,q2,q3,q4,q5⟩
 ·refine (I.hok b ob e).stay (fun c u hc2 q=>(hs.2 c fun z=>?_).trans q) (fun _ q=>q) fun _ _ q=>q
  have fr:=I.free
  rcases hc2 with y | y
  ·rw [← y,z,fr] at e;cases e
  ·rw [z,fr] at y;cases y
noncomputable def Cx.marked (X:Cx) (x:Addr):Cx:={X with A:=X.A.mark (some (.ref x)),calm:=false,xe:=fun _ _=>False}
theorem Inv.marked (I:Inv X pins σ H s)(x:Addr):Inv (X.marked x) pins σ H s:=
 ⟨⟨I.ok.mod,I.ok.kind,I.ok.glob,I.ok.blt,I.ok.above,I.ok.inj,I.ok.has,I.ok.cab,(fun z=>nomatch z),I.ok.frames,I.ok.stk,I.ok.exf,I.ok.bs,I.ok.bsz,I.ok.noex,I.ok.exfs,I.ok.funs,I.ok.frf⟩,I.os,I.bare,I.base,I.loc,I.cell,I.free,I.freeC,I.pin,I.hok,I.len⟩
theorem Inv.unmarked {x:Addr}(hd:X.calm=true→X.A.handled=none)(I:Inv (X.marked x) pins σ H s):Inv X pins σ H s:=
 ⟨⟨I.ok.mod,I.ok.kind,I.ok.glob,I.ok.blt,I.ok.above,I.ok.inj,I.ok.has,I.ok.cab,hd,I.ok.frames,I.ok.stk,I.ok.exf,I.ok.bs,I.ok.bsz,I.ok.noex,I.ok.exfs,I.ok.funs,I.ok.frf⟩,I.os,I.bare,I.base,I.loc,I.cell,I.free,I.freeC,I.pin,I.hok,I.len⟩
end
section
variable {X:Cx} {pins:List (Addr×Obj)} {σ :St} {H1:Hp} {s1 s':Shared} {C S:Addr} {nid nid2:String} {bB bB2:List Value} {sx n:Str} {np hpos:Pos} {b₀ :Stmt} {suite:List Stmt} {j:Nat} {ts:TS} {D:Ends} {E':XK} {e:Value}
noncomputable def D1 (D:Ends) (j:Nat):Ends:={nx:=fun σ' H'=>D.nx (σ'.set j none) H',rt:=fun _ _=>False}
end
section
variable {X:Cx} {C S f:Addr} {k:Nat} {fd:FuncData} {ps:List Str} {sp:Sp} {dvs:List V} {ds:List Value} {nid nid2:String} {bB bB2:List Value} {fx sx n:Str} {p np hpos cpos epos pos:Pos} {b₀ :Stmt} {suite:List Stmt} {j:Nat} {t:TA} {ts:TS} {e:Expr} {es:List Expr}
end
section
variable {prog:Program} {w:World} {A:Around} {E:Value→Shared→Prop} {h:Heap} {g:Array GenState} {d:Drawn} {t:Nat} {os:OsState} {a:Addr} {o:Obj} {K:PySem.W.Frag}
 {nm q:Str} {C N:Addr} {bs bm bmB:List Value} {hdct:Bool} {sn:List Str} {sub:List Value} {ab:Bool} {col:Option Bool} {dd:Option Addr} {k0 k1 k2 k3 k5:Option Value} {B newId:String}
theorem xc_get {R:Result→Shared→Prop}(hC:h.get? C=some (excClassObj nm q C N bs bm hdct sn sub ab col dd k0 k1 k2 k3 k5 newId))(ho:bm.contains (.type "object")=true)
  (hx:h.get? a=some o) (hc:o.cls= .ref C) (hq:R (.ok (.ret (.ref C))) ⟨h,g,d,t,os⟩):
  codeAny (model prog w) A (.call (.builtin "getset_descriptor.__get__") ⟨[.builtin "object.__class__",.ref a,.ref C],[]⟩) R ⟨h,g,d,t,os⟩:=by
 have hT5:(⟨h,g,d,t,os⟩:Shared).TypeIs (.builtin "object.__class__") "getset_descriptor" :=F.typeOf_object_class
 have hcB:(Value.ref C::bm).contains (.type (".".intercalate ("object.__class__".cutAt '.').dropLast))=true:=by
  rw [F.owner_object_class,yaY,ho];rfl
 refine codeAny_call_builtin F.slot_gs_get.plain F.entry_gs_get (F.slot_gs_get.check _ _ _ _ _ _ _ _ hT5 (F.args_gs_get _ _ _) ?_)
 repeat (any_goals (first | assumption | (with_reducible refine wpAny_loadPart_at hx ?_;rw [hc]) | (with_reducible refine wpAny_isSubtype_exc hC ?_;rw [hcB]) | wp_step))
 refine ⟨yaZ _ (by decide+kernel),codeAny_builtin F.entry_object_class ?_⟩
 repeat (any_goals (first | assumption | (with_reducible refine wpAny_loadPart_at hx ?_;rw [hc]) | wp_step))
theorem zny {tk:Tok}{Q:Fin→Shared→Prop}(X:K.In h)(hca:PySem.W.findIn K (.ref C) "__class__" =some (some (.builtin "object.__class__")))(hC:h.get? C=some (excClassObj nm q C N bs bm hdct sn sub ab col dd k0 k1 k2 k3 k5 newId))(ho:bm.contains (.type "object")=true)
  (hx:h.get? a=some o) (hc:o.cls= .ref C) (hq:Q (.done (.ret (.ref C))) ⟨h,g,d,t,os⟩):
  wpAny (model prog w) A (Builtin.«object.__getattribute__» ⟨[.ref a,.str "__class__" tk],[]⟩) Q E ⟨h,g,d,t,os⟩:=by
 have hT5:(⟨h,g,d,t,os⟩:Shared).TypeIs (.builtin "object.__class__") "getset_descriptor" :=F.typeOf_object_class
 have f5:=F.typeOf_object_class
 have f6:=F.slot_gs_get.lookup
 have f7:=F.slot_gs_set.lookup
 have L:=PySem.W.looks_findIn (M:=model prog w) X hca
 repeat (any_goals (first | assumption | (with_reducible refine wpAny_loadPart_at hx ?_;rw [hc]) | with_reducible refine L.at ?_ | wp_step))
 refine xc_get hC ho hx hc ?_
 repeat (any_goals (first | assumption | wp_step))
theorem znV {M:Model}{nameV:Value}{Q:Unit→Shared→Prop}(hC:h.get? C=some (excClassObj nm q C N bs bm hdct sn sub ab col dd k0 k1 k2 k3 k5 newId))(hb:bm.contains (.type "BaseException")=true)
  (hx:h.get? a=some o) (hc:o.cls= .ref C) (hq:Q () ⟨h,g,d,t,os⟩):wpAny M A (checkBuiltinCall "BaseException.__getattribute__" ⟨[.ref a,nameV],[]⟩) Q E ⟨h,g,d,t,os⟩:=by
 have hk:builtinKind "BaseException.__getattribute__" =some .slot:=by decide+kernel
 have hsp:splitId "BaseException.__getattribute__" =some ("BaseException","__getattribute__"):=by decide+kernel
 have hcB:(Value.ref C::bm).contains (.type "BaseException")=true:=by rw [yaY,hb];rfl
 have ha:=F.args_bexc_ga (.ref a) nameV
 simp only [checkBuiltinCall,hk,hsp]
 refine yB ?_
 unfold isInstance
 repeat (first | (with_reducible refine wpAny_loadPart_at hx ?_;rw [hc]) | (with_reducible refine wpAny_isSubtype_exc hC ?_;rw [hcB]) | wp_step)
 exact hq
theorem xc_by {tk:Tok}{Q:Value→Shared→Prop}(FB:ExcAttrFacts B)(X:K.In h)(hga:PySem.W.findIn K (.ref C) "__getattribute__" =some (some (.builtin "BaseException.__getattribute__")))(hgn:PySem.W.findIn K (.ref C) "__getattr__" =some none)
  (hca:PySem.W.findIn K (.ref C) "__class__" =some (some (.builtin "object.__class__"))) (hC:h.get? C=some (excClassObj nm q C N bs bm hdct sn sub ab col dd k0 k1 k2 k3 k5 newId)) (ho:bm.contains (.type "object")=true) (hb:bm.contains (.type "BaseException")=true)
  (hx:h.get? a=some o) (hc:o.cls= .ref C) (hq:Q (.ref C) ⟨h,g,d,t,os⟩):wpAny (model prog w) A (getAttrBy (.ref a) (.str "__class__" tk) false) Q E ⟨h,g,d,t,os⟩:=by
 have f3:=FB.ga.bind (.ref a)
 have hx2:(Value.builtin "BaseException.__getattribute__" ==Value.builtin "object.__getattribute__")=false:=by decide+kernel
 have hx1:(onTheHeap (Value.ref C) && Value.builtin "BaseException.__getattribute__" ==Value.builtin "object.__getattribute__")=false:=by rw [hx2];rfl
 have L1:=PySem.W.looks_findIn (M:=model prog w) X hga
 have L2:=PySem.W.looks_findIn (M:=model prog w) X hgn
 repeat (any_goals (first | assumption | (with_reducible refine wpAny_loadPart_at hx ?_;rw [hc]) | with_reducible refine L1.at ?_ | with_reducible refine L2.at ?_ | wp_step))
 refine codeAny_call_builtin FB.ga.plain F.entry_bexc_ga (znV hC hb hx hc (zny X hca hC ho hx hc ?_))
 repeat (any_goals (first | assumption | wp_step))
theorem zoX {Q:Option Value→Shared→Prop}(FB:ExcAttrFacts B)(X:K.In h)(hga:PySem.W.findIn K (.ref C) "__getattribute__" =some (some (.builtin "BaseException.__getattribute__")))(hgn:PySem.W.findIn K (.ref C) "__getattr__" =some none)
  (hca:PySem.W.findIn K (.ref C) "__class__" =some (some (.builtin "object.__class__"))) (hC:h.get? C=some (excClassObj nm q C N bs bm hdct sn sub ab col dd k0 k1 k2 k3 k5 newId)) (ho:bm.contains (.type "object")=true) (hb:bm.contains (.type "BaseException")=true)
  (hx:h.get? a=some o) (hc:o.cls= .ref C) (hq:Q (some (.ref C)) ⟨h,g,d,t+1,os⟩):wpAny (model prog w) A (getAttr? (.ref a) "__class__") Q E ⟨h,g,d,t,os⟩:=by
 unfold getAttr? getAttrBy?
 repeat (any_goals (first | assumption | with_reducible apply xc_by FB X hga hgn hca hC ho hb hx hc | wp_step))
end
structure XcOk (K:PySem.W.Frag) (C:Addr) (B nid:String) (bB:List Value):Prop where
 ex:PySem.W.excIn K C bB nid=true
 attr:ExcAttrFacts B
 ga:PySem.W.findIn K (.ref C) "__getattribute__" =some (some (.builtin "BaseException.__getattribute__"))
 gn:PySem.W.findIn K (.ref C) "__getattr__" =some none
 ca:PySem.W.findIn K (.ref C) "__class__" =some (some (.builtin "object.__class__"))
 ho:bB.contains (.type "object")=true
 hb:bB.contains (.type "BaseException")=true
theorem zhc {K:PySem.W.Frag}{C x:Addr}{B nid:String}{bB:List Value}(Z:XcOk K C B nid bB):PySem.W.KitX K (.ref x) (.ref C) (fun h=>∃ ob,h.get? x=some ob∧ob.cls= .ref C) where
 ty:=fun M h _ ⟨ob,e,c⟩=>c ▸ (PySem.W.Looks.ld e).andThen .now
 it:=fun M h X _=>by
  obtain ⟨tl,N,nm,qn,bs,hd,sn,sub,ab,col,dd,a0,a1,a2,a3,a5,oC,_,_⟩:=zdF X Z.ex
  intro A2 Q2 E2 s2 k2 q2
  unfold isType loadHead
  exact yB (wpAny_loadPart (k2 _ _ oC) (yD q2))
 ne:=fun h tp dd its n sl X htp=>by
  obtain ⟨tl,N,nm,qn,bs,hd,sn,sub,ab,col,dd2,a0,a1,a2,a3,a5,oC,_,_⟩:=zdF X Z.ex
  refine Bool.eq_false_iff.mpr fun z=>?_
  have e:C=tp:=Value.ref.inj (beq_iff_eq.mp z)
  subst e
  have y:=congrArg (fun o=>o.data) (qF (oC.symm.trans htp))
  exact absurd y (fun w=>nomatch w)
 ca:=fun {prog w A E Q s} X ⟨ob,e,c⟩ k2=>by
  obtain ⟨tl,N,nm,qn,bs,hd,sn,sub,ab,col,dd2,a0,a1,a2,a3,a5,oC,_,oT⟩:=zdF X Z.ex
  obtain ⟨hh,g,d,t,os⟩:=s
  exact zoX Z.attr X Z.ga Z.gn Z.ca oC (oT.hasType Z.ho) (oT.hasType Z.hb) e c k2
noncomputable def rIsX (K:PySem.W.Frag) (C:Addr):List V→Hp→VK→Prop:=fun xs H Q=>∃ x S b,xs= [.ref x,.ref S]∧H x=some (excO x C)∧PySem.W.kitOne K (.ref C) (.ref S)=some b∧Q (.bl b) H
noncomputable def rIsXT (K:PySem.W.Frag) (C:Addr):List V→Hp→VK→Prop:=fun xs H Q=>∃ x T b,xs= [.ref x,.ty T]∧H x=some (excO x C)∧PySem.W.kitOne K (.ref C) (.type T)=some b∧Q (.bl b) H
noncomputable def rIsXs (K:PySem.W.Frag) (C:Addr):List V→Hp→VK→Prop:=fun xs H Q=>∃ (x tp:Addr) (cs:List Addr) (b:Bool),xs= [.ref x,.ref tp]∧H x=some (excO x C)∧SqT K H tp (cs.map V.ref)∧PySem.W.kitAny K (.ref C) (cs.map Value.ref)=some b∧Q (.bl b) H
theorem zhU:∀ {cs:List Addr} {us:List Value},Vals (cs.map V.ref) us→us=cs.map Value.ref
 | [],_,r=>by cases r;rfl
 | c::cs,_,r=>by
  cases r with
  | cons h t=>
   cases (show _=_ from h)
   rw [zhU t]
   rfl
section
variable {X:Cx} {C:Addr} {B nid:String} {bB:List Value}
theorem znf (Z:XcOk X.K C B nid bB):zcB X (.builtin "isinstance") (rIsX X.K C):=by
 intro pins s σ H xs us Q I r ⟨x,S,b,e,hx,ek,q⟩
 subst e
 obtain ⟨u,w',rfl,rx,rt⟩:=zlU r
 cases (show w'=Value.ref S from rt)
 cases (show u=Value.ref x from rx)
 obtain ⟨p,_⟩:=I.hok x _ hx
 exact PySem.W.kia_one (zhc Z) I.kIn p ek (fun z=>nomatch z) fun tk=>⟨.bl b,H,I.tok tk,rfl,q⟩
theorem zlI (Z:XcOk X.K C B nid bB):zcB X (.builtin "isinstance") (rIsXT X.K C):=by
 intro pins s σ H xs us Q I r ⟨x,T,b,e,hx,ek,q⟩
 subst e
 obtain ⟨u,w',rfl,rx,rt⟩:=zlU r
 cases (show w'=Value.type T from rt)
 cases (show u=Value.ref x from rx)
 obtain ⟨p,_⟩:=I.hok x _ hx
 exact PySem.W.kia_one (zhc Z) I.kIn p ek (fun z=>nomatch z) fun tk=>⟨.bl b,H,I.tok tk,rfl,q⟩
theorem zlg (Z:XcOk X.K C B nid bB):zcB X (.builtin "isinstance") (rIsXs X.K C):=by
 intro pins s σ H xs us Q I r ⟨x,tp,cs,b,e,hx,ht,ek,q⟩
 subst e
 obtain ⟨u,w',rfl,rx,rt⟩:=zlU r
 cases (show w'=Value.ref tp from rt)
 cases (show u=Value.ref x from rx)
 obtain ⟨p,_⟩:=I.hok x _ hx
 obtain ⟨its,rv,⟨o,e1,e2,n,e3⟩,_⟩:=I.tuple ht
 have ei:=zhU rv
 subst ei
 obtain ⟨oc,od,odt,osl⟩:=o
 cases (show oc=_ from e2)
 cases (show odt=_ from e3)
 exact PySem.W.kia_tup (zhc Z) I.kIn p e1 ek (fun z=>nomatch z) fun tk=>⟨.bl b,H,I.tok tk,rfl,q⟩
end
section
variable {X:Cx}
end
end L2
namespace My
open PySem L2
open PySem.W (Dat kqdP kqdPs kqdOk)
theorem znw {f g:Flt}(h:fltD f=fltD g):f=g:=by
 unfold fltD at h
 have h1:=Dat.tuple.inj h
 have hl:=congrArg vC h1
 rw [yJ,yJ,qO,qO] at hl
 obtain ⟨h2,h3⟩:=List.append_inj h1 (by omega)
 have h4:=(List.map_inj_right (f:=kD) (fun _ _ z=>kD_inj z)).mp h2
 have h5:f.worth=g.worth:=by
  injection h3 with h3
  exact Dat.int.inj h3
 cases f;cases g
 simp only at h4 h5
 rw [h4,h5]
theorem zjY {w:zaA}{f:Flt}(h:fltD f∈zbI w):zd7 w f:=by
 rw [← zcd,← zfY] at h
 unfold zdO at h
 obtain ⟨p,hp,hm⟩:=wD.mp h
 obtain ⟨q,hq,rfl⟩:=yS.mp hp
 have key:∀ b:Int,fltD f= .tuple (q.map kD++ [.int b])→(b=0∨b=1)→zd7 w f:=fun b e hb=>by
  have:=znw (g:=⟨q,b⟩) e
  rw [this]
  exact ⟨hq,hb⟩
 rcases yO.mp hm with e | hm
 ·exact key 0 e (.inl rfl)
 ·rcases yO.mp hm with e | hm
  ·exact key 1 e (.inr rfl)
  ·exact nomatch hm
noncomputable def zes (f:Flt):Prop:=(∃ i:Int,f.place=zbd i)∨∃ k i:Int,f.place=legK k i
theorem zd5 {w:zaA}{f:Flt}(h:zd7 w f):zes f:=by
 rcases yP.mp h.1 with h | h
 ·obtain ⟨i,_,e⟩:=zd1 h
  exact .inl ⟨i,e⟩
 ·obtain ⟨k,i,_,_,e⟩:=zdU h
  exact .inr ⟨k,i,e⟩
theorem zjj (n:Nat){f:Flt}(h:zes f):kqdOk (n+1) (fltD f)=true:=by
 refine ok_flt n f ?_
 rcases h with ⟨i,e⟩ | ⟨k,i,e⟩
 ·rw [e]
  show (kX "wire" && (true && true))=true
  rw [zlN];rfl
 ·rw [e]
  show (kX "leg" && (true && (true && true)))=true
  rw [zod];rfl
theorem zka {fs:List Flt}(h:∀ f∈fs,zes f)(n:Nat):kqdOk (n+2) (.list (fs.map fltD))=true:=by
 show (fs.map fltD).all (kqdOk (n+1))=true
 refine yX.mpr fun d hd=>?_
 obtain ⟨f,hf,rfl⟩:=yS.mp hd
 exact zjj n (h f hf)
theorem zg7 {fs:List Flt}{f:Flt}(h:zcq fs)(n:look fs f.place=none):zcq (fs++ [f]):=by
 unfold zcq at *
 rw [yM]
 refine zkX h fun z=>?_
 obtain ⟨g,hg,e⟩:=yS.mp z
 unfold look at n
 have n1:=Option.map_eq_none_iff.mp n
 have n2:=vM.mp n1 g hg
 exact n2 (decide_eq_true e)
theorem zjF (xs:List V){k:Nat}(h:k≤xs.length):cutV xs none (some (k:Int))=xs.take k:=by
 have e1:HT.sIx xs.length 0 none=0:=rfl
 have e2:HT.sIx xs.length xs.length (some (k:Int))=k:=by
  simp only [HT.sIx]
  rw [if_neg (by omega)]
  omega
 unfold cutV
 rw [e1,e2,List.drop_zero,Nat.sub_zero]
theorem zpj (xs:List V){k:Nat}(h:k≤xs.length):cutV xs (some (k:Int)) none=xs.drop k:=by
 have e1:HT.sIx xs.length 0 (some (k:Int))=k:=by
  simp only [HT.sIx]
  rw [if_neg (by omega)]
  omega
 have e2:HT.sIx xs.length xs.length none=xs.length:=rfl
 unfold cutV
 rw [e1,e2,jR (by rw [jW];omega)]
end My
namespace My
open PySem L2
open PySem.W (Dat kqdP kqdPs kqdOk)
noncomputable def zey (w:zaA) (fs gs:List Flt):Option (List Int):=(zb9 w.ins.toNat).find? fun r=>decide (zc2 w (zaE fs w.gates r w.gates.length)≠zc2 w (zaE gs w.gates r w.gates.length))
theorem zm4 {α :Type}{p: α→Bool}{xs:List α}{i:Nat}{x: α}(h:xs[i]? =some x)(hp:p x=true)(no:∀ y∈xs.take i,p y=false):xs.find? p=some x:=by
 have e:xs=xs.take i++x::xs.drop (i+1):=by
  have h2:=yG.mp h
  rw [← h2.2]
  simp
 rw [e,List.find?_append,vM.mpr (fun y hy=>by rw [no y hy];decide),ybo hp]
 rfl
theorem zjr {w:zaA}{A B:List Flt}(h:∀ row:List Int,row.length=w.ins.toNat→Bits row→zc2 w (zaE A w.gates row w.gates.length)=zc2 w (zaE B w.gates row w.gates.length)):zey w A B=none:=
 vM.mpr fun r hr=>by
  obtain ⟨l,b⟩:=zeQ _ r hr
  rw [decide_eq_false fun z=>z (h r l b)]
  decide
end My
namespace L2
open PySem PySem.Spec PyProof.Rows
section
open PySem.SeqAt
open PySem.AutoSeq1 (wpAny_loadPart')
open PySem.MeetsSeq PySem.MeetsSeq2 PySem.MeetsSeq3
end
section
variable {X:Cx}
end
end L2
namespace My
open PySem L2
open PySem.W (Dat kqdP kqdPs kqdOk)
end My
namespace L2
open PySem PySem.Spec PyProof.Rows
section
open PySem.Sem (wp)
end
section
variable {X:Cx}
end
theorem dflt1 {tk:Tok}:Vals [V.int 1] [Value.int 1 tk]:=.cons ⟨tk,rfl⟩ .nil
structure FunD (K:PySem.W.Frag) (x qual:Str) (st:Stmt) (f:Addr) (fd:FuncData) (T:Addr):Prop where
 ex:∃ (oc:Value) (od:Option Addr) (kV doc pm:Value) (an:Option Addr) (cdv ct:Value) (osl:Array (Option Value)),
  fd=PySem.W.fnOf x qual (zbS st) (zbp st) (zaj st) (.ref T) kV doc pm an cdv ct∧K.lookup f=some ⟨oc,od,.func fd,osl⟩∧PySem.W.codeIn K cdv qual=true
 kp:PySem.W.keepIn K (.ref f)=true
section
variable {P:Program} {w:World} {K:PySem.W.Frag} {mg:Str→Option Value} {base:Heap}
theorem FunD.okB {x qual:Str}{st:Stmt}{f T:Addr}{fd:FuncData}{N ps:List Str}{k:Nat}{sp:Sp}(F:FunD K x qual st f fd T)(S:zav N ps (zaj st))(len:∀ vs H Q E,sp vs H Q E→vs.length=ps.length)
  (hbody:∀ (cdv:Value) (A:Around) (outer:List Env) (s:Shared) (H:Hp) (vs:List V) (Q:VK) (E:XK),Room k (A.deeper (envOfC qual (zaj st) s.heap.objs.size f cdv))→sp vs H Q E→
   ∃ t,Bx (PSs (cxOf CX0 P w K mg base N qual (zaj st) f cdv A outer s H E).nox (zbp st) t)∧t {nx:=fun _ H2=>Q .non H2,rt:=Q} (start N vs) H):FnOk P w K mg base CX0 (k+1) f fd ps sp:=by
 obtain ⟨oc,od,kV,doc,pm,an,cdv,ct,osl,rfl,lk,hcd⟩:=F.ex
 refine zoP lk hcd S len fun A outer s H vs Q E hr hsp=>?_
 obtain ⟨t,h,q⟩:=hbody cdv A outer s H vs Q E hr hsp
 exact ⟨t,h.1.nox,q⟩
theorem FunD.binds {x qual:Str}{st:Stmt}{f T:Addr}{fd:FuncData}{ps:List Str}{ds:List Value}(F:FunD K x qual st f fd T)
  (h:∀ (kV doc pm:Value) (an:Option Addr) (cdv ct:Value) (s:Shared) (us:List Value),K.In s.heap→(us++ds).length=ps.length→
   BindsTo s (PySem.W.fnOf x qual (zbS st) (zbp st) (zaj st) (.ref T) kV doc pm an cdv ct) ⟨us,[]⟩ (ps.zip (us++ds))):zfy K fd ps ds:=by
 obtain ⟨oc,od,kV,doc,pm,an,cdv,ct,osl,rfl,lk,hcd⟩:=F.ex
 exact h kV doc pm an cdv ct
theorem zjh {x qual:Str}{st:Stmt}{f T:Addr}{oc:Value}{od an:Option Addr}{osl:Array (Option Value)}{kV doc pm cdv ct:Value}(l:K.lookup f=some ⟨oc,od,.func (PySem.W.fnOf x qual (zbS st) (zbp st) (zaj st) (.ref T) kV doc pm an cdv ct),osl⟩)
  (c:PySem.W.codeIn K cdv qual=true) (k:PySem.W.keepIn K (.ref f)=true):FunD K x qual st f (PySem.W.fnOf x qual (zbS st) (zbp st) (zaj st) (.ref T) kV doc pm an cdv ct) T:=⟨⟨oc,od,kV,doc,pm,an,cdv,ct,osl,rfl,l,c⟩,k⟩
end
end L2
namespace My
open PySem L2
noncomputable def zeJ (o:Int) (x:Str) (ns:List Int):Int:=
 if x="not" then qS o (ns.getD 0 0)
 else if x="choose" then jE (qT (ns.getD 0 0) (ns.getD 1 0)) (qT (qS o (ns.getD 0 0)) (ns.getD 2 0))
 else ns.foldl (fun a b=>if x="and" then qT a b else if x="or" then jE a b else qS a b) (if x="and"∨x="one" then o else 0)
theorem znL {a b:Int}(ha:a=0∨a=1)(hb:b=0∨b=1):qT a b=if a=1∧b=1 then 1 else 0:=by
 rcases ha with rfl | rfl <;> rcases hb with rfl | rfl <;> decide
theorem zpy {a b:Int}(ha:a=0∨a=1)(hb:b=0∨b=1):jE a b=if a=1∨b=1 then 1 else 0:=by
 rcases ha with rfl | rfl <;> rcases hb with rfl | rfl <;> decide
theorem zng {a b:Int}(ha:a=0∨a=1)(hb:b=0∨b=1):qS a b=(a+b) % 2:=by
 rcases ha with rfl | rfl <;> rcases hb with rfl | rfl <;> decide
theorem zkg:∀ (ns:List Int) {a:Int},(a=0∨a=1)→Bits ns→ns.foldl qT a=if a=1∧ns.all (· ==1)=true then 1 else 0
 | [],a,ha,_=>by rcases ha with rfl | rfl <;> decide
 | n::ns,a,ha,b=>by
  have hn:=b n (.head _)
  have e:=znL ha hn
  rw [vR,zkg ns (by rw [e];split <;> simp) fun z hz=>b z (.tail _ hz),e]
  rcases ha with rfl | rfl <;> rcases hn with rfl | rfl <;> simp
theorem zlv:∀ (ns:List Int) {a:Int},(a=0∨a=1)→Bits ns→ns.foldl jE a=if a=1∨ns.any (· ==1)=true then 1 else 0
 | [],a,ha,_=>by rcases ha with rfl | rfl <;> decide
 | n::ns,a,ha,b=>by
  have hn:=b n (.head _)
  have e:=zpy ha hn
  rw [vR,zlv ns (by rw [e];split <;> simp) fun z hz=>b z (.tail _ hz),e]
  rcases ha with rfl | rfl <;> rcases hn with rfl | rfl <;> simp
theorem zjU:∀ (ns:List Int) {a:Int},(a=0∨a=1)→Bits ns→ns.foldl qS a=(a+ns.sum) % 2
 | [],a,ha,_=>by rcases ha with rfl | rfl <;> decide
 | n::ns,a,ha,b=>by
  have hn:=b n (.head _)
  have e:=zng ha hn
  rw [vR,zjU ns (by rw [e];omega) fun z hz=>b z (.tail _ hz),e,ybV]
  omega
theorem n_an:("and" :Str)≠"not" :=by decide+kernel
theorem n_ac:("and" :Str)≠"choose" :=by decide+kernel
theorem n_on:("or" :Str)≠"not" :=by decide+kernel
theorem n_oc:("or" :Str)≠"choose" :=by decide+kernel
theorem n_o1:("or" :Str)≠"one" :=by decide+kernel
theorem n_dn:("odd" :Str)≠"not" :=by decide+kernel
theorem n_dc:("odd" :Str)≠"choose" :=by decide+kernel
theorem n_d1:("odd" :Str)≠"one" :=by decide+kernel
theorem zhT {x:Str}{ns:List Int}(b:Bits ns)(h:zbh x ns.length):zeJ 1 x ns=zbq x ns:=by
 rcases h with ⟨h | h | h,l1,l2⟩ | ⟨h,l1⟩ | ⟨h,l1⟩ | ⟨h | h,l1⟩ <;> subst h <;> unfold zeJ
 ·rw [zgX,if_neg n_an,if_neg n_ac,if_pos (.inl rfl)]
  simp only [if_pos]
  rw [zkg ns (.inr rfl) b]
  simp
 ·rw [zky,if_neg n_on,if_neg n_oc,if_neg (fun z=>z.elim n_oa n_o1)]
  simp only [if_neg n_oa,if_pos]
  rw [zlv ns (.inl rfl) b]
  simp
 ·rw [zfz,if_neg n_dn,if_neg n_dc,if_neg (fun z=>z.elim n_da n_d1)]
  simp only [if_neg n_da,if_neg n_do]
  rw [zjU ns (.inl rfl) b,vX]
 ·rw [zlV,if_pos rfl]
  rcases zbu b (i:=0) (by omega) with e | e <;> rw [e] <;> decide
 ·rw [zi3,if_neg n_cn,if_pos rfl]
  rcases zbu b (i:=0) (by omega) with e | e <;> rcases zbu b (i:=1) (by omega) with f | f <;> rcases zbu b (i:=2) (by omega) with g | g <;> rw [e,f,g] <;> decide
 ·obtain rfl:ns= []:=wA.mp l1
  rw [zmk,if_neg n_zn,if_neg n_zc,if_neg (fun z=>z.elim n_za n_z1)]
  rfl
 ·obtain rfl:ns= []:=wA.mp l1
  rw [zoa,if_neg n_1n,if_neg n_1c,if_pos (.inr rfl)]
  rfl
theorem gi_not (o:Int)(ns:List Int):zeJ o "not" ns=qS o (ns.getD 0 0):=by unfold zeJ;rw [if_pos rfl]
theorem zmd (o:Int)(ns:List Int):zeJ o "choose" ns=jE (qT (ns.getD 0 0) (ns.getD 1 0)) (qT (qS o (ns.getD 0 0)) (ns.getD 2 0)):=by unfold zeJ;rw [if_neg n_cn,if_pos rfl]
theorem zpD {x:Str}(hn:x≠"not")(hc:x≠"choose")(o:Int)(ns:List Int):zeJ o x ns=ns.foldl (fun a b=>if x="and" then qT a b else if x="or" then jE a b else qS a b) (if x="and"∨x="one" then o else 0):=by unfold zeJ;rw [if_neg hn,if_neg hc]
theorem znj {n:Nat}(h:zbh "not" n):n=1:=by
 rcases h with ⟨h | h | h,l1,l2⟩ | ⟨h,l1⟩ | ⟨h,l1⟩ | ⟨h | h,l1⟩ <;> first | exact l1 | exact absurd h (by decide+kernel)
theorem zjq {n:Nat}(h:zbh "choose" n):n=3:=by
 rcases h with ⟨h | h | h,l1,l2⟩ | ⟨h,l1⟩ | ⟨h,l1⟩ | ⟨h | h,l1⟩ <;> first | exact l1 | exact absurd h (by decide+kernel)
theorem in_two (x a b:Str):inV (.str x) [.str a,.str b]=decide (x=a∨x=b):=by
 show ((eqV (.str a) (.str x)) || ((eqV (.str b) (.str x)) || false))=_
 have e:∀ y z:Str,eqV (.str y) (.str z)=decide (z=y):=fun y z=>by
  show (y==z)=_
  rw [vH,beq_iff_eq,decide_eq_true_eq]
  exact eq_comm
 rw [e,e,Bool.or_false]
 by_cases q:x=a <;> by_cases q2:x=b <;> simp [q,q2]
noncomputable def zcb (o:Int) (fs:List Flt) (gs:List (Str×List Int)) (row:List Int):Nat→List Int
 | 0=>rowS fs row
 | n+1=>zcb o fs gs row n++ [pick fs (zbd ((row.length+n:Nat):Int)) (match gs[n]? with
   | some g=>zeJ o g.1 (zc5 fs n (g.2.map fun l=>(zcb o fs gs row n).getD l.toNat 0))
   | none=>0)]
theorem zeU (o:Int)(fs:List Flt)(gs:List (Str×List Int))(row:List Int):∀ n,(zcb o fs gs row n).length=row.length+n
 | 0=>zho fs row
 | n+1=>by rw [zcb,yJ,zeU o fs gs row n];simp;omega
end My
namespace L2
open PySem PySem.Spec PyProof.Rows
noncomputable def zcK:List Str→List Value→Bool
 | [],[]=>true
 | x::xs,.str y _::vs=>x==y && zcK xs vs
 | _,_=>false
noncomputable def TupK (K:PySem.W.Frag) (a:Addr) (xs:List Str):Prop:=(match K.lookup a with
 | some o=>(o.cls== .type "tuple" && o.dict.isNone) && (match o.data with
  | .seq vs _=>zcK xs vs.toList
  | _=>false)
 | none=>false)=true
theorem zfI:∀ {xs:List Str} {vs:List Value},zcK xs vs=true→Vals (xs.map V.str) vs
 | [],[],_=>.nil
 | x::xs,v::vs,h=>by
  cases v with
  | str y t=>
   have h':(x==y && zcK xs vs)=true:=h
   rw [qA] at h'
   have e:x=y:=eq_of_beq h'.1
   subst e
   exact .cons ⟨t,rfl⟩ (zfI h'.2)
  | _=>simp [zcK] at h
 | [],_::_,h=>by simp [zcK] at h
 | _::_,[],h=>by simp [zcK] at h
theorem TupK.sq {K:PySem.W.Frag}{H:Hp}{a:Addr}{xs:List Str}(h:TupK K a xs)(hz:xs.length≤1000):SqT K H a (xs.map V.str):=by
 unfold TupK at h
 cases e:K.lookup a with
 | none=>rw [e] at h;cases h
 | some o=>
  rw [e] at h
  simp only [qA] at h
  obtain ⟨⟨h1,_⟩,h2⟩:=h
  cases ed:o.data with
  | seq vs n=>
   rw [ed] at h2
   have rv:=zfI h2
   have lv:=rv.length
   rw [yA] at lv
   have lz:vs.size=xs.length:=by rw [lv,kY]
   have line:(1000:Nat)≤yL:=by decide
   exact .inr ⟨o,vs,n,e,beq_iff_eq.mp h1,ed,by omega,rv⟩
  | _=>rw [ed] at h2;cases h2
theorem TupK.plain {K:PySem.W.Frag}{a:Addr}{xs:List Str}(h:TupK K a xs):∃ o,K.lookup a=some o∧o.cls= .type "tuple"∧o.dict=none:=by
 unfold TupK at h
 cases e:K.lookup a with
 | none=>rw [e] at h;cases h
 | some o=>
  rw [e] at h
  simp only [qA] at h
  exact ⟨o,rfl,beq_iff_eq.mp h.1.1,ya2.mp h.1.2⟩
section
variable {X:Cx} {o e:Expr} {apos cpos:Pos} {td ty:TE}
end
section
variable {X:Cx} {e:Expr} {te:TE} {p p' pos pos':Pos}
end
open PySem.W (Dat kqdP kqdPs kqdOk)
section
variable {X:Cx}
end
section
variable {X:Cx} {K:PySem.W.Frag}
end
end L2
namespace My
open PySem L2
theorem zjb (a b:Nat):qT (a:Int) (b:Int)=((a &&& b:Nat):Int):=by
 unfold qT
 rw [decide_eq_true (yaj a),decide_eq_true (yaj b)]
 rfl
theorem zog (a b:Nat):jE (a:Int) (b:Int)=((a ||| b:Nat):Int):=by
 have h:∀ n:Nat,decide (0≤jZ (n:Int))=false:=fun n=>decide_eq_false (by unfold jZ;omega)
 have t:∀ n:Nat,(jZ (jZ (n:Int))).toNat=n:=fun n=>by unfold jZ;omega
 have e:qT (jZ (a:Int)) (jZ (b:Int))=jZ ((a ||| b:Nat):Int):=by
  unfold qT
  rw [h a,h b]
  show jZ (((jZ (jZ (a:Int))).toNat ||| (jZ (jZ (b:Int))).toNat:Nat):Int)=_
  rw [t a,t b]
 unfold jE
 rw [e]
 unfold jZ
 omega
theorem zkR:∀ a b:Nat,a ||| b=(a ^^^ b)+(a &&& b):=by
 intro a
 induction a using Nat.strongRecOn with
 | ind a ih=>
  intro b
  by_cases ha:a=0
  ·subst ha
   simp
  ·have h:=ih (a / 2) (by omega) (b / 2)
   have e1:=Nat.or_div_two (a:=a) (b:=b)
   have e2:=Nat.xor_div_two (a:=a) (b:=b)
   have e3:=Nat.and_div_two (a:=a) (b:=b)
   have m1:(a ||| b) % 2=(a ^^^ b) % 2+(a &&& b) % 2:=by
    have t:∀ n:Nat,n % 2=if n.testBit 0 then 1 else 0:=fun n=>by
     rw [Nat.testBit_zero]
     by_cases hn:n % 2=1
     ·simp [hn]
     ·have:n % 2=0:=by omega
      simp [this]
    rw [t (a ||| b),t (a ^^^ b),t (a &&& b),Nat.testBit_or,ycq,ycr]
    cases a.testBit 0 <;> cases b.testBit 0 <;> rfl
   omega
theorem zpa (a b:Nat):qS (a:Int) (b:Int)=((a ^^^ b:Nat):Int):=by
 unfold qS
 rw [zog,zjb]
 have:=zkR a b
 omega
noncomputable def bitI (j:Nat) (x:Int):Int:=if x.toNat.testBit j then 1 else 0
noncomputable def za2 (R:Nat) (x:Int):Prop:=0≤x∧x.toNat < 2 ^ R
theorem zfv (j:Nat)(x:Int):bitI j x=0∨bitI j x=1:=by unfold bitI;split <;> simp
theorem zbk {R:Nat}{x:Int}(h:za2 R x):∃ n:Nat,x=(n:Int)∧n < 2 ^ R:=⟨x.toNat,by have:=h.1;omega,h.2⟩
theorem zdh {R n:Nat}(h:n < 2 ^ R):za2 R (n:Int):=⟨by omega,by rw [vO];exact h⟩
theorem za8 (j n:Nat):bitI j (n:Int)=if n.testBit j then 1 else 0:=by unfold bitI;rw [vO]
theorem zfR {R:Nat}{x y:Int}(hx:za2 R x)(hy:za2 R y):za2 R (qT x y)∧∀ j,bitI j (qT x y)=qT (bitI j x) (bitI j y):=by
 obtain ⟨a,rfl,ha⟩:=zbk hx
 obtain ⟨b,rfl,hb⟩:=zbk hy
 rw [zjb]
 refine ⟨zdh (Nat.and_lt_two_pow _ hb),fun j=>?_⟩
 rw [za8,za8,za8,ycr]
 cases a.testBit j <;> cases b.testBit j <;> decide
theorem zhk {R:Nat}{x y:Int}(hx:za2 R x)(hy:za2 R y):za2 R (jE x y)∧∀ j,bitI j (jE x y)=jE (bitI j x) (bitI j y):=by
 obtain ⟨a,rfl,ha⟩:=zbk hx
 obtain ⟨b,rfl,hb⟩:=zbk hy
 rw [zog]
 refine ⟨zdh (Nat.or_lt_two_pow ha hb),fun j=>?_⟩
 rw [za8,za8,za8,Nat.testBit_or]
 cases a.testBit j <;> cases b.testBit j <;> decide
theorem zem {R:Nat}{x y:Int}(hx:za2 R x)(hy:za2 R y):za2 R (qS x y)∧∀ j,bitI j (qS x y)=qS (bitI j x) (bitI j y):=by
 obtain ⟨a,rfl,ha⟩:=zbk hx
 obtain ⟨b,rfl,hb⟩:=zbk hy
 rw [zpa]
 refine ⟨zdh (Nat.xor_lt_two_pow ha hb),fun j=>?_⟩
 rw [za8,za8,za8,ycq]
 cases a.testBit j <;> cases b.testBit j <;> decide
noncomputable def zaN (R:Nat):Int:=((2 ^ R - 1:Nat):Int)
theorem zcv (R:Nat):za2 R (zaN R):=zdh (by have:=yan R;omega)
theorem zfo {R j:Nat}(h:j < R):bitI j (zaN R)=1:=by
 unfold zaN
 rw [za8,yaM]
 simp [h]
theorem zfu (j:Nat):bitI j 0=0:=by
 show bitI j ((0:Nat):Int)=0
 rw [za8,yce]
 rfl
theorem zdb (R:Nat):za2 R 0:=zdh (n:=0) (yan R)
theorem ze2 {R:Nat}{ns:List Int}(h:∀ n∈ns,za2 R n)(i:Nat):za2 R (ns.getD i 0):=by
 rw [yK]
 cases e:ns[i]? with
 | none=>exact zdb R
 | some n=>exact h n (yI e)
theorem zc1 (j:Nat)(ns:List Int)(i:Nat):bitI j (ns.getD i 0)=(ns.map (bitI j)).getD i 0:=by
 rw [yK,yK,yE]
 cases ns[i]? with
 | none=>exact zfu j
 | some n=>rfl
theorem zgL {R:Nat}{f:Int→Int→Int}(hf:∀ x y,za2 R x→za2 R y→za2 R (f x y)∧∀ j,bitI j (f x y)=f (bitI j x) (bitI j y)):∀ (ns:List Int) {a:Int},za2 R a→(∀ n∈ns,za2 R n)→za2 R (ns.foldl f a)∧∀ j,bitI j (ns.foldl f a)=(ns.map (bitI j)).foldl f (bitI j a)
 | [],a,ha,_=>⟨ha,fun _=>rfl⟩
 | n::ns,a,ha,h=>by
  obtain ⟨h1,h2⟩:=hf a n ha (h n (.head _))
  obtain ⟨h3,h4⟩:=zgL hf ns h1 fun z hz=>h z (.tail _ hz)
  refine ⟨h3,fun j=>?_⟩
  rw [vR,h4 j,qW,vR,h2 j]
theorem zlb {R:Nat}(x:Str){ns:List Int}(h:∀ n∈ns,za2 R n):za2 R (zeJ (zaN R) x ns)∧∀ j,j < R→bitI j (zeJ (zaN R) x ns)=zeJ 1 x (ns.map (bitI j)):=by
 have hg:=ze2 h
 unfold zeJ
 by_cases hn:x="not"
 ·rw [if_pos hn]
  obtain ⟨h1,h2⟩:=zem (zcv R) (hg 0)
  refine ⟨h1,fun j hj=>?_⟩
  rw [if_pos hn,h2 j,zfo hj,zc1]
 rw [if_neg hn]
 by_cases hc:x="choose"
 ·rw [if_pos hc]
  obtain ⟨a1,a2⟩:=zfR (hg 0) (hg 1)
  obtain ⟨b1,b2⟩:=zem (zcv R) (hg 0)
  obtain ⟨c1,c2⟩:=zfR b1 (hg 2)
  obtain ⟨d1,d2⟩:=zhk a1 c1
  refine ⟨d1,fun j hj=>?_⟩
  rw [if_neg hn,if_pos hc,d2 j,a2 j,c2 j,b2 j,zfo hj,zc1,zc1,zc1]
 rw [if_neg hc]
 have ha:za2 R (if x="and"∨x="one" then zaN R else 0):=by
  split
  ·exact zcv R
  ·exact zdb R
 have hf:∀ a b,za2 R a→za2 R b→za2 R ((fun a b=>if x="and" then qT a b else if x="or" then jE a b else qS a b) a b)∧∀ j,bitI j ((fun a b=>if x="and" then qT a b else if x="or" then jE a b else qS a b) a b)=(fun a b=>if x="and" then qT a b else if x="or" then jE a b else qS a b) (bitI j a) (bitI j b):=by
  intro a b h1 h2
  by_cases e1:x="and"
  ·simp only [if_pos e1]
   exact zfR h1 h2
  ·by_cases e2:x="or"
   ·simp only [if_neg e1,if_pos e2]
    exact zhk h1 h2
   ·simp only [if_neg e1,if_neg e2]
    exact zem h1 h2
 obtain ⟨h1,h2⟩:=zgL hf ns ha h
 refine ⟨h1,fun j hj=>?_⟩
 rw [if_neg hn,if_neg hc,h2 j]
 congr 1
 split
 ·exact zfo hj
 ·exact zfu j
noncomputable def zcg (R:Nat) (fs:List Flt):List Flt:=fs.map fun f=>⟨f.place,f.worth * zaN R⟩
theorem zlW (R:Nat)(fs:List Flt)(p:List Key):look (zcg R fs) p=(look fs p).map (· * zaN R):=by
 unfold look zcg
 induction fs with
 | nil=>rfl
 | cons f fs ih=>
  rw [qW,vS,vS]
  by_cases h:f.place=p
  ·simp [h]
  ·simpa [h] using ih
theorem znY {R:Nat}{v:Int}(h:v=0∨v=1):za2 R (v * zaN R)∧∀ j,j < R→bitI j (v * zaN R)=v:=by
 rcases h with rfl | rfl
 ·rw [Int.zero_mul]
  exact ⟨zdb R,fun j _=>zfu j⟩
 ·rw [Int.one_mul]
  exact ⟨zcv R,fun j hj=>zfo hj⟩
theorem zfG {R:Nat}{fs:List Flt}(fb:∀ f∈fs,f.worth=0∨f.worth=1)(p:List Key){v:Int}(h:za2 R v):za2 R (pick (zcg R fs) p v)∧∀ j,j < R→bitI j (pick (zcg R fs) p v)=pick fs p (bitI j v):=by
 unfold pick
 rw [zlW]
 cases e:look fs p with
 | none=>exact ⟨h,fun _ _=>rfl⟩
 | some b=>
  have hb:b=0∨b=1:=by
   unfold look at e
   obtain ⟨f,hf,rfl⟩:=jQ.mp e
   exact fb f (vZ hf)
  exact znY hb
theorem zkp {R:Nat}{fs:List Flt}(fb:∀ f∈fs,f.worth=0∨f.worth=1)(key:Nat→List Key){ns:List Int}(h:∀ n∈ns,za2 R n):(∀ n∈ns.mapIdx (fun i v=>pick (zcg R fs) (key i) v),za2 R n)∧∀ j,j < R→(ns.mapIdx (fun i v=>pick (zcg R fs) (key i) v)).map (bitI j)=(ns.map (bitI j)).mapIdx (fun i v=>pick fs (key i) v):=by
 constructor
 ·intro n hn
  obtain ⟨i,hi,e⟩:=vI.mp hn
  rw [← e]
  exact (zfG fb _ (h _ (jO hi))).1
 ·intro j hj
  refine xH fun i=>?_
  rw [yE,jF,jF,yE]
  cases e:ns[i]? with
  | none=>rfl
  | some v=>exact congrArg some ((zfG fb _ (h v (yI e))).2 j hj)
theorem zgY {R:Nat}{fs:List Flt}(fb:∀ f∈fs,f.worth=0∨f.worth=1){m:Nat}{w:zaA}{cols:List Int}(wf:WF m w)(hl:(cols.length:Int)=w.ins)(h:∀ n∈cols,za2 R n):
  ∀ n,n≤w.gates.length→(∀ v∈zcb (zaN R) (zcg R fs) w.gates cols n,za2 R v)∧∀ j,j < R→(zcb (zaN R) (zcg R fs) w.gates cols n).map (bitI j)=zaE fs w.gates (cols.map (bitI j)) n
 | 0,_=>zkp fb (fun i=>zbd i) h
 | n+1,hn=>by
  obtain ⟨h1,h2⟩:=zgY fb wf hl h n (by omega)
  obtain ⟨g,hg⟩:∃ g,w.gates[n]? =some g:=⟨_,yC (by omega)⟩
  obtain ⟨lk,lb⟩:=wf.legs n g hg
  have hr:∀ v∈g.2.map (fun l=>(zcb (zaN R) (zcg R fs) w.gates cols n).getD l.toNat 0),za2 R v:=fun v hv=>by
   obtain ⟨l,_,rfl⟩:=yS.mp hv
   exact ze2 h1 _
  obtain ⟨l1,l2⟩:=zkp fb (fun i=>legK (n:Int) (i:Int)) hr
  obtain ⟨g1,g2⟩:=zlb g.1 l1
  obtain ⟨p1,p2⟩:=zfG fb (zbd ((cols.length+n:Nat):Int)) g1
  rw [zcb,hg]
  refine ⟨fun v hv=>?_,fun j hj=>?_⟩
  ·rcases yP.mp hv with hv | hv
   ·exact h1 v hv
   ·rw [yF.mp hv]
    exact p1
  ·have bw:Bits (cols.map (bitI j)):=fun z hz=>by obtain ⟨v,_,rfl⟩:=yS.mp hz;exact zfv j v
   have hl':((cols.map (bitI j)).length:Int)=w.ins:=by rw [yA];exact hl
   have bS:=zdf fb wf hl' bw n (by omega)
   rw [yM,h2 j hj,zaE,hg]
   congr 1
   refine congrArg (fun z=>[z]) ((p2 j hj).trans ?_)
   rw [g2 j hj,l2 j hj,yA]
   have e1:(g.2.map (fun l=>(zcb (zaN R) (zcg R fs) w.gates cols n).getD l.toNat 0)).map (bitI j)=g.2.map fun l=>(zaE fs w.gates (cols.map (bitI j)) n).getD l.toNat 0:=by
    rw [wM]
    refine xO fun l _=>?_
    show bitI j (List.getD _ _ 0)=_
    rw [zc1,h2 j hj]
   rw [e1]
   refine congrArg (pick fs _) (zhT ?_ ?_)
   ·exact zgK (k:=(n:Int)) fb fun z hz=>by
     obtain ⟨l,hl2,rfl⟩:=yS.mp hz
     exact zbu bS (by rw [zcu,yA];have:=lb l hl2;omega)
   ·show zbh g.1 (zc5 fs n _).length
    rw [zeN,yA]
    exact lk
noncomputable def zdd:Nat→List Int
 | 0=>[]
 | n+1=>zaN (2 ^ n) * (zaN (2 ^ n)+1)::(zdd n).map fun v=>v+v * (zaN (2 ^ n)+1)
theorem zeo (R:Nat):zaN R+1=((2 ^ R:Nat):Int):=by
 unfold zaN
 have:=yan R
 omega
theorem zly (n:Nat):zaN (2 ^ n)+zaN (2 ^ n) * (zaN (2 ^ n)+1)=zaN (2 ^ (n+1)):=by
 have h:=yan (2 ^ n)
 have e: 2 ^ (2 ^ (n+1))=2 ^ 2 ^ n * 2 ^ 2 ^ n:=by rw [← Nat.pow_add];congr 1;rw [yaX];omega
 rw [zeo]
 unfold zaN
 rw [e]
 generalize 2 ^ 2 ^ n=q at h
 obtain ⟨p,rfl⟩:∃ p,q=p+1:=⟨q - 1,by omega⟩
 have e2:(p+1) * (p+1) - 1=p+p * (p+1):=by
  rw [Nat.add_mul,Nat.one_mul]
  omega
 rw [e2,Nat.add_sub_cancel]
 push_cast
 rfl
theorem zf0 {R a b:Nat}(hb:b < 2 ^ R)(j:Nat):(2 ^ R * a+b).testBit j=if j < R then b.testBit j else a.testBit (j - R):=Nat.testBit_two_pow_mul_add a hb j
theorem ziK {R a b:Nat}(ha:a < 2 ^ R)(hb:b < 2 ^ R): 2 ^ R * a+b < 2 ^ (R+R):=by
 rw [Nat.pow_add]
 have: 2 ^ R * a+2 ^ R≤2 ^ R * 2 ^ R:=by
  rw [← Nat.mul_succ]
  exact Nat.mul_le_mul_left _ ha
 omega
theorem zep:∀ n,(∀ v∈zdd n,za2 (2 ^ n) v)∧(zdd n).length=n∧∀ j,j < 2 ^ n→(zb9 n)[j]? =some ((zdd n).map (bitI j))
 | 0=>⟨(fun _ z=>nomatch z),rfl,fun j hj=>by
  have:j=0:=by simpa using hj
  subst this
  rfl⟩
 | n+1=>by
  obtain ⟨h1,h2,h3⟩:=zep n
  have hR: 2 ^ (n+1)=2 ^ n+2 ^ n:=by rw [yaX];omega
  have pos:=yan (2 ^ n)
  have eh:zaN (2 ^ n) * (zaN (2 ^ n)+1)=((2 ^ 2 ^ n * (2 ^ 2 ^ n - 1)+0:Nat):Int):=by
   rw [zeo]
   unfold zaN
   rw [Nat.add_zero,yaW]
   push_cast
   rfl
  have ev:∀ v:Nat,(v:Int)+(v:Int) * (zaN (2 ^ n)+1)=((2 ^ 2 ^ n * v+v:Nat):Int):=fun v=>by
   rw [zeo,yaW]
   push_cast
   omega
  refine ⟨fun v hv=>?_,by show ((zdd n).map _).length+1=n+1;rw [yA,h2],fun j hj=>?_⟩
  ·rw [hR]
   rcases yO.mp (show v∈_::_ from hv) with rfl | hv
   ·rw [eh]
    exact zdh (ziK (by omega) pos)
   ·obtain ⟨u,hu,rfl⟩:=yS.mp hv
    obtain ⟨k,rfl,hk⟩:=zbk (h1 u hu)
    rw [ev k]
    exact zdh (ziK hk hk)
  ·rw [hR] at hj
   have bits:∀ i,bitI j (zaN (2 ^ n) * (zaN (2 ^ n)+1))=(if j < 2 ^ n then 0 else 1)∧∀ u∈zdd n,(i=if j < 2 ^ n then j else j - 2 ^ n)→bitI j (u+u * (zaN (2 ^ n)+1))=bitI i u:=fun i=>by
    constructor
    ·rw [eh,za8,zf0 pos]
     by_cases h:j < 2 ^ n
     ·rw [if_pos h,if_pos h,yce]
      rfl
     ·rw [if_neg h,if_neg h,yaM,decide_eq_true (by omega)]
      rfl
    ·intro u hu hi
     obtain ⟨k,rfl,hk⟩:=zbk (h1 u hu)
     rw [ev k,za8,zf0 hk,za8,hi]
     by_cases h:j < 2 ^ n
     ·rw [if_pos h,if_pos h]
     ·rw [if_neg h,if_neg h]
   show ((zb9 n).map (0:: ·)++(zb9 n).map (1:: ·))[j]? =some ((_::(zdd n).map _).map (bitI j))
   have ln:=zc0 n
   rw [qW,wM]
   by_cases h:j < 2 ^ n
   ·rw [qY (by rw [yA,ln];exact h),yE,h3 j h,(bits j).1,if_pos h]
    refine congrArg some (congrArg (List.cons 0) (xO fun u hu=>?_))
    exact ((bits j).2 u hu (by rw [if_pos h])).symm
   ·rw [qR (by rw [yA,ln];omega),yA,ln,yE,h3 (j - 2 ^ n) (by omega),(bits j).1,if_neg h]
    refine congrArg some (congrArg (List.cons 1) (xO fun u hu=>?_))
    exact ((bits (j - 2 ^ n)).2 u hu (by rw [if_neg h])).symm
noncomputable def zds (xs ys:List Int):Int:=(xs.zip ys).foldl (fun u p=>jE u (qS p.1 p.2)) 0
theorem zei {R:Nat}:∀ (xs ys:List Int) {a:Int},xs.length=ys.length→(∀ v∈xs,za2 R v)→(∀ v∈ys,za2 R v)→za2 R a→
  za2 R ((xs.zip ys).foldl (fun u p=>jE u (qS p.1 p.2)) a)∧∀ j,bitI j ((xs.zip ys).foldl (fun u p=>jE u (qS p.1 p.2)) a)=1↔bitI j a=1∨xs.map (bitI j)≠ys.map (bitI j)
 | [],[],a,_,_,_,ha=>⟨ha,fun j=>by show bitI j a=1↔_;simp⟩
 | x::xs,y::ys,a,hl,hx,hy,ha=>by
  obtain ⟨x1,x2⟩:=zem (hx x (.head _)) (hy y (.head _))
  obtain ⟨o1,o2⟩:=zhk ha x1
  obtain ⟨h1,h2⟩:=zei xs ys (a:=jE a (qS x y)) (ybx hl) (fun v hv=>hx v (.tail _ hv)) (fun v hv=>hy v (.tail _ hv)) o1
  refine ⟨h1,fun j=>?_⟩
  rw [List.zip_cons_cons,vR]
  refine (h2 j).trans ?_
  rw [o2 j,x2 j,qW,qW]
  have ba:=zfv j a
  have bx:=zfv j x
  have by':=zfv j y
  generalize bitI j a=p at *
  generalize bitI j x=q at *
  generalize bitI j y=r at *
  have hc:((q::xs.map (bitI j))≠(r::ys.map (bitI j)))↔(q≠r∨xs.map (bitI j)≠ys.map (bitI j)):=by
   constructor
   ·intro z
    by_cases e:q=r
    ·exact .inr fun z2=>z (by rw [e,z2])
    ·exact .inl e
   ·rintro (z | z) e
    ·injection e with e1 _
     exact z e1
    ·injection e with _ e2
     exact z e2
  rw [hc]
  have key:(jE p (qS q r)=1)↔(p=1∨q≠r):=by
   rcases ba with rfl | rfl <;> rcases bx with rfl | rfl <;> rcases by' with rfl | rfl <;> decide
  rw [key,or_assoc]
end My
namespace L2
open PySem PySem.Spec PyProof.Rows
noncomputable def Itz (a b:Addr):It:=
 ⟨fun i H => ∃ xs ys x y, H a = some (.lst xs) ∧ H b = some (.lst ys) ∧ xs[i]? = some x ∧ ys[i]? = some y,
  fun i H v H'=>∃ T x y,H T=none∧v= .ref T∧H'=upd H T (.tup [x,y])∧∀ xs ys,H a=some (.lst xs)→H b=some (.lst ys)→xs[i]? =some x∧ys[i]? =some y,
  fun i H=>∃ xs ys,H a=some (.lst xs)∧H b=some (.lst ys)∧(xs.length≤i∨ys.length≤i)⟩
theorem far {n:Nat}(i j:Nat)(h:i≠j):(n+i:Nat)≠n+j:=by omega
theorem Inv.turnedC {X:Cx}{pins:List (Addr×Obj)}{σ :St}{H:Hp}{s:Shared}{h':Heap}{t':Nat}{ch:List Addr}(I:Inv X pins σ H s)
  (hch:∀ b∈ch,FpOk X pins H b) (k:∀ b u,b∉ch→s.heap.get? b=some u→h'.get? b=some u):Inv X pins σ H {s with heap:=h',toks:=t'}:=by
 have nch:∀ c u,H c=some u→c∉ch:=fun c u e z=>by rw [(hch c z).1] at e;cases e
 refine I.step (g':=s.gens) (d':=s.drawn) (ch:=ch) (fun b hb=>⟨(hch b hb).2.2.2.1,(hch b hb).2.1,(hch b hb).2.2.2.2.1,(hch b hb).2.2.2.2.2⟩)
  (fun b u _ _ hc e _=>k b u hc e) (fun b u _ _ hc e _=>⟨u.slots,k b u hc e⟩) (fun _ _ _ _ q=>q) (fun b u hc e=>⟨u,k b u hc e⟩)
  (fun _ _ q=>q) (fun _ _ _ q=>q) (fun b ps q=>⟨#[],by rw [q];simp⟩) (fun m hm=>?_) (fun b u e=>?_) I.bare
 ·exact hm.at' fun ob e=>k _ ob (fun z=>(hch _ z).2.1 rfl) e
 ·refine (I.hok b u e).stay (fun c v hc q=>k c v ?_ q) (fun c q=>q) fun c xs q=>q
  rcases hc with rfl | hc
  ·exact nch _ _ e
  ·exact nch _ _ hc
theorem zkl {n:Nat}{l1 l2:Addr}(a1:l1≠n+4)(a2:l1≠n+3)(a3:l1≠n)(a4:l1≠n+1)(b1:l2≠n+4)(b2:l2≠n+3)(b3:l2≠n)(b4:l2≠n+1):ZipApart (n+4) (n+2) (n+3) n (n+1) l1 l2:=
 ⟨far 2 4 (by decide),far 3 4 (by decide),far 0 4 (by decide),far 1 4 (by decide),far 2 3 (by decide),far 2 0 (by decide),far 2 1 (by decide),far 3 0 (by decide),far 3 1 (by decide),far 0 1 (by decide),a1,a2,a3,a4,b1,b2,b3,b4⟩
theorem zm1 {P:Program}{w:World}{K:PySem.W.Frag}{elts:List Expr}{k:Nat}{tp:Pos}(a b:Addr)(n:Nat):
  Turn P w K (.Tuple elts k tp) (Itz a b) [n+4,n+2,n+3,n,n+1] (n+4)
   (fun i h=>IsZip h (n+4) (n+2) (n+3) .none∧IsPair h (n+2) (.ref n) (.ref (n+1))∧(∃ u v,IsPair h (n+3) u v)∧h.IsListIter n a i∧h.IsListIter (n+1) b i) where
 mem:=by simp
 obj:=fun i h st c hc=>by
  obtain ⟨hz,hI,⟨u,v,hO⟩,⟨o1,e1,_,d1⟩,⟨o2,e2,_,d2⟩⟩:=st
  simp only [yO,qJ,or_false] at hc
  rcases hc with rfl | rfl | rfl | rfl | rfl
  ·exact ⟨_,hz,fun v z=>nomatch z⟩
  ·exact ⟨_,hI,fun v z=>nomatch z⟩
  ·exact ⟨_,hO,fun v z=>nomatch z⟩
  ·exact ⟨o1,e1,fun v z=>by rw [d1] at z;cases z⟩
  ·exact ⟨o2,e2,fun v z=>by rw [d2] at z;cases z⟩
 keep:=fun i h h' st kp=>by
  obtain ⟨hz,hI,⟨u,v,hO⟩,h1,h2⟩:=st
  exact ⟨kp _ (by simp) _ hz,kp _ (by simp) _ hI,⟨u,v,kp _ (by simp) _ hO⟩,h1.at fun o q=>kp _ (by simp) o q,h2.at fun o q=>kp _ (by simp) o q⟩
 item:=by
  intro X hP hw hK hc i pins s σ H E I hf st hg
  subst hP hw hK
  obtain ⟨hz,hI,⟨u,v,hO⟩,h1,h2⟩:=st
  obtain ⟨xs,ys,x,y,ha,hb,hx,hy⟩:=hg
  obtain ⟨its,rv,p1,_⟩:=I.list (.of ha)
  obtain ⟨its2,rv2,p2,_⟩:=I.list (.of hb)
  obtain ⟨u1,hu1,ru1⟩:=rv.get hx
  obtain ⟨u2,hu2,ru2⟩:=rv2.get hy
  have no:∀ {l:Addr} {o:HO},H l=some o→∀ c∈[n+4,n+2,n+3,n,n+1],l≠c:=fun e c hc z=>by
   rw [z,(hf c hc).1] at e
   cases e
  have D:ZipApart (n+4) (n+2) (n+3) n (n+1) a b:=zkl (no ha (n+4) (by simp)) (no ha (n+3) (by simp)) (no ha n (by simp)) (no ha (n+1) (by simp)) (no hb (n+4) (by simp)) (no hb (n+3) (by simp)) (no hb n (by simp)) (no hb (n+1) (by simp))
  refine wpAny_pyNext_zip_item D hz hI hO h1 h2 p1.isList p2.isList (x:=u1) (y:=u2) (by simpa using hu1) (by simpa using hu2) fun h' z1 z2 z3 z4 z5 z6 hk=>?_
  have new:∀ {c:Addr} {o:Obj},s.heap.get? c=some o→c≠s.heap.objs.size:=fun e=>qC (yU e)
  have I1:Inv X pins σ (upd H s.heap.objs.size (.tup [x,y])) {s with heap:=h'}:=
   I.laidC (t':=s.toks) (ch:=[n+4,n+2,n+3,n,n+1]) hf (fun c o hc q=>hk c o (fun z=>hc (by simp [z])) (fun z=>hc (by simp [z])) (fun z=>hc (by simp [z])) (fun z=>hc (by simp [z])) q) (yN _)
    ⟨(by show 2≤yL;decide),[u1,u2],.cons ru1 (.cons ru2 .nil),_,z5,rfl,_,rfl⟩
  refine ⟨_,rfl,wpAny_letOwnedTupleGo_zip z1 fun h2' w1 sb=>?_⟩
  have fz:=hf (n+4) (by simp)
  have I2:Inv X pins σ (upd H s.heap.objs.size (.tup [x,y])) {s with heap:=h2'}:=
   I1.turned (t':=s.toks) (fun c o hc q=>(sb.2 c hc).trans q) (by rw [zak (new hz)];exact fz.1) fz.2.1 fz.2.2.2.1 fz.2.2.2.2.1 fz.2.2.2.2.2
  refine ⟨.ref s.heap.objs.size,_,I2,rfl,⟨_,x,y,I.hok.fresh (yN _),rfl,rfl,fun xs' ys' hxs hys=>?_⟩,⟨w1,?_,⟨u1,u2,?_⟩,?_,?_⟩,fun c hc=>?_⟩
  ·rw [ha] at hxs
   rw [hb] at hys
   cases hxs
   cases hys
   exact ⟨hx,hy⟩
  ·exact sb.extBut _ _ (far 2 4 (by decide)) (hk _ _ (far 2 4 (by decide)) (far 2 3 (by decide)) (far 2 0 (by decide)) (far 2 1 (by decide)) hI)
  ·exact sb.extBut _ _ (far 3 4 (by decide)) z2
  ·exact z3.extBut sb.extBut (far 0 4 (by decide))
  ·exact z4.extBut sb.extBut (far 1 4 (by decide))
  ·have hn:c≠s.heap.objs.size:=by
    simp only [yO,qJ,or_false] at hc
    rcases hc with rfl | rfl | rfl | rfl | rfl
    ·exact new hz
    ·exact new hI
    ·exact new hO
    ·obtain ⟨o,e,_⟩:=h1;exact new e
    ·obtain ⟨o,e,_⟩:=h2;exact new e
   rw [zak hn]
   exact (hf c hc).1
 done:=by
  intro X hP hw hK hc i pins s σ H E I hf st hg
  subst hP hw hK
  obtain ⟨hz,hI,⟨u,v,hO⟩,h1,h2⟩:=st
  obtain ⟨xs,ys,ha,hb,hx⟩:=hg
  obtain ⟨its,rv,p1,_⟩:=I.list (.of ha)
  obtain ⟨its2,rv2,p2,_⟩:=I.list (.of hb)
  have no:∀ {l:Addr} {o:HO},H l=some o→∀ c∈[n+4,n+2,n+3,n,n+1],l≠c:=fun e c hc z=>by
   rw [z,(hf c hc).1] at e
   cases e
  have D:ZipApart (n+4) (n+2) (n+3) n (n+1) a b:=zkl (no ha (n+4) (by simp)) (no ha (n+3) (by simp)) (no ha n (by simp)) (no ha (n+1) (by simp)) (no hb (n+4) (by simp)) (no hb (n+3) (by simp)) (no hb n (by simp)) (no hb (n+1) (by simp))
  have l1:=rv.length
  have l2:=rv2.length
  refine wpAny_pyNext_zip_end (I.ok.hd hc) D hz hI hO h1 h2 p1.isList p2.isList (hx.elim (fun q=>.inl (by simp;omega)) fun q=>.inr (by simp;omega)) fun h' hk=>⟨rfl,?_⟩
  exact I.turnedC (t':=s.toks) (ch:=[n+4,n+2,n+3,n,n+1]) hf fun c o hc q=>hk c o (fun z=>hc (by simp [z])) (fun z=>hc (by simp [z])) (fun z=>hc (by simp [z])) (fun z=>hc (by simp [z])) q
 self:=fun _ _ _ _ _ st h=>wpAny_pyIter_zip st.1 h
noncomputable def iZip (ta:TA):TI:=fun σ H R=>ta σ H fun vs H1=>∃ a b xs ys,vs= [.ref a,.ref b]∧H1 a=some (.lst xs)∧H1 b=some (.lst ys)∧R (Itz a b) H1
theorem pi_zip {X:Cx}{e1 e2:Expr}{ta:TA}{p pos tp:Pos}{elts:List Expr}{k:Nat}(hg:Gl X "zip")(hm:X.mg "zip" =none)(ha:PA X [e1,e2] ta)
  (hs:starEach [e1,e2] X.env= [(false,eval e1 X.env),(false,eval e2 X.env)]:=by rfl) (hs2:starEach [e2] X.env= [(false,eval e2 X.env)]:=by rfl):PI X (.Tuple elts k tp) (.Call (.Name "zip" p) [e1,e2] [] pos) (iZip ta):=by
 intro pins s σ H R I h
 refine Call_ (zea I hg hm boot_zip (xD (thn (ha pos pins s σ H _ I h) fun us s1 ⟨vs,H1,I1,r1,q1⟩=>?_) (by rw [hs,hs2]) (by rw [hs2];rfl)))
 obtain ⟨a,b,xs,ys,e,ha',hb',q⟩:=q1
 subst e
 cases r1 with
 | cons r rr=>
  cases rr with
  | cons r' rr=>
   cases rr
   cases r
   cases r'
   obtain ⟨its,rv,p1,_⟩:=I1.list (.of ha')
   obtain ⟨its2,rv2,p2,_⟩:=I1.list (.of hb')
   refine call_zip_2 p1.isList p2.isList fun h' z1 z2 z3 z4 z5 z6 hk=>wpAny_pyIter_zip z1 ?_
   refine ⟨s1.heap.objs.size+4,[s1.heap.objs.size+4,s1.heap.objs.size+2,s1.heap.objs.size+3,s1.heap.objs.size,s1.heap.objs.size+1],_,_,H1,rfl,I1.kept (t':=s1.toks) hk,zm1 a b s1.heap.objs.size,⟨z1,z2,⟨_,_,z3⟩,z4,z5⟩,fun c hc=>?_,q⟩
   have le:s1.heap.objs.size≤c:=by
    simp only [yO,qJ,or_false] at hc
    rcases hc with rfl | rfl | rfl | rfl | rfl
    ·exact xZ _ _
    ·exact xZ _ _
    ·exact xZ _ _
    ·exact yN _
    ·exact xZ _ _
   exact I1.fpOk le (I1.hok.fresh le)
theorem zoB {a b:Addr}{xs ys:List V}{g:TG}{tb:TS}{D:Ends}{σ :St}{H:Hp}(hlen:xs.length=ys.length)(Pv:Nat→St→Hp→Prop)(h0:Pv 0 σ H)
  (hl:∀ i σ H,i≤xs.length→Pv i σ H→H a=some (.lst xs)∧H b=some (.lst ys))
  (hs:∀ i x y σ H T,xs[i]? =some x→ys[i]? =some y→Pv i σ H→H T=none→g (.ref T) σ (upd H T (.tup [x,y])) fun σ2 H2=>tb {D with nx:=Pv (i+1),ct:=Pv (i+1),bk:=D.nx} σ2 H2)
  (hd:∀ σ H,Pv xs.length σ H→D.nx σ H):
  ∃ W:Nat→Nat→St→Hp→Prop,(∃ m,W 0 m σ H)∧∀ i m σ H,W i m σ H→
   ((Itz a b).stop i H ∧ D.nx σ H) ∨ ((Itz a b).go i H ∧ ∃ N : St → Hp → Prop, (∀ σ' H', N σ' H' → ∃ m', m' < m ∧ W (i + 1) m' σ' H') ∧
     ∀ x H',(Itz a b).yld i H x H'→g x σ H' fun σ2 H2=>tb {D with nx:=N,ct:=N,bk:=D.nx} σ2 H2):=by
 refine ⟨fun i m σ H=>m=xs.length - i∧i≤xs.length∧Pv i σ H,⟨xs.length,by simp,qN _,h0⟩,?_⟩
 rintro i m σ H ⟨rfl,hi,p⟩
 obtain ⟨qa,qb⟩:=hl i σ H hi p
 by_cases hlt:i < xs.length
 ·refine .inr ⟨⟨xs,ys,xs[i],ys[i],qa,qb,by simp [hlt],yC _⟩,Pv (i+1),fun σ' H' p'=>⟨xs.length - (i+1),by omega,rfl,hlt,p'⟩,fun x H' y=>?_⟩
  obtain ⟨T,u,v,hT,e1,e2,y⟩:=y
  subst e1 e2
  obtain ⟨y1,y2⟩:=y xs ys qa qb
  exact hs i u v σ H T y1 y2 p hT
 ·have e:i=xs.length:=by omega
  subst e
  exact .inl ⟨⟨xs,ys,qa,qb,.inl (yN _)⟩,hd σ H p⟩
theorem zpA {X:Cx}{e1 e2:Expr}{ta:TA}{p pos tp:Pos}{elts:List Expr}{k:Nat}(hg:Gl X "zip")(hm:X.mg "zip" =none)(ha:Bx (PA X [e1,e2] ta))
  (hs:starEach [e1,e2] X.env= [(false,eval e1 X.env),(false,eval e2 X.env)]:=by rfl) (hs2:starEach [e2] X.env= [(false,eval e2 X.env)]:=by rfl):Bx (PI X (.Tuple elts k tp) (.Call (.Name "zip" p) [e1,e2] [] pos) (iZip ta)):=⟨pi_zip hg hm ha.1 hs hs2⟩
theorem zmG {X:Cx}:MtR X "int.bit_length" (fun x xs H Q=>∃ i:Int,x= .int i∧xs= []∧Q (.int ((qG i:Nat):Int)) H):=by
 intro pins s σ H x xs v us Q I rx rs h
 obtain ⟨i,rfl,rfl,q⟩:=h
 obtain ⟨t,rfl⟩:=rx
 cases rs
 exact call_int_bit_length ⟨.int _,H,I.kept (t':=s.toks+1) fun _ _ e=>e,⟨_,rfl⟩,q⟩
theorem zoV (n:Nat):n < 2 ^ qG (n:Int):=by
 unfold qG
 by_cases h:n=0
 ·subst h
  decide
 ·have:((n:Int)==0)=false:=by simpa using h
  rw [this]
  show n < 2 ^ ((n:Int).natAbs.log2+1)
  rw [Int.natAbs_natCast]
  exact Nat.lt_log2_self
noncomputable def EntD (h:Heap) (d:Addr) (es:Array DictEntry) (ep:Nat):Prop:=∃ ob,h.get? d=some ob∧ob.ExactDict∧ob.data= .dict es ep
section
variable {prog:Program} {w:World} {A:Around} {E:Value→Shared→Prop} {s:Shared}
theorem zkQ {d:Addr}{es:Array DictEntry}{ep:Nat}{Q:Value→Shared→Prop}(nd:(d==sysModules)=false)(hE:EntD s.heap d es ep)
  (q:Q (.ref s.heap.objs.size) {s with heap:=s.heap.push {cls:=.type "dict_items",data:=.fields #[.ref d]}}):wpAny (model prog w) A (call (.builtin "dict.items") [.ref d]) Q E s:=by
 obtain ⟨ob,e1,⟨e2,_,_⟩,e3⟩:=hE
 have ty:s.TypeIs (.ref d) "dict" :=⟨ob,e1,e2⟩
 refine wpAny_call_entry ybg ty PySem.F.entry_dict_items ?_ (PySem.F.args_dict_items_1 _)
 unfold Builtin.«dict.items» Builtin.Dict.noArgs
 refine yB (yB (wpAny_notOrdered_dict ty ?_))
 show wpAny _ _ (pure d) _ _ s
 refine yD (?_:wpAny _ _ (yby d >>=_) _ _ s)
 unfold yby
 rw [nd]
 exact yB (yD (yB (wpAny_newObj_type (yD ⟨_,rfl,q⟩))))
theorem zk2 {v d:Addr}{es:Array DictEntry}{ep:Nat}{Q:Value→Shared→Prop}(hv:s.heap.IsItemsView v d)(hE:EntD s.heap d es ep)
  (q:Q (.ref s.heap.objs.size) {s with heap:=s.heap.push {cls:=.type "dict_itemiterator",data:=.fields #[.none,.bool false,.ref d,.int 0 0,.int es.size 0,.int ep 0,.none,.none]}}):
  wpAny (model prog w) A (pyIter (.ref v)) Q E s:=by
 obtain ⟨vo,v1,v2,v3⟩:=id hv
 obtain ⟨ob,e1,_,e3⟩:=hE
 refine wpAny_pyIter_slot hv.typeIs yaH (wpAny_call_entry yaH hv.typeIs PySem.F.entry_dict_items_iter ?_ (PySem.F.args_dict_items_iter_1 _))
 unfold Builtin.«dict_items.__iter__»
 refine yB (yD (yB ?_))
 unfold Builtin.Dict_items.dictOf
 refine yB (wpAny_field v1 v3 (x:=.ref d) rfl (yD (yB ?_)))
 unfold Builtin.Dict_items.newIterator
 refine yB (wpAny_dictEntries e1 e3 (yB (wpAny_dictEpoch e1 e3 ?_)))
 simp only [show wK "dict_itemiterator" =true by decide,if_true]
 refine wpAny_newObj_type (yD ⟨_,rfl,"dict_itemiterator",_,⟨_,yW _ rfl,rfl⟩,jU.lookup,?_⟩)
  (by simp only [sizeOk,yab,yQ,yJ,qP,yal,sizeLine_eq];omega)
 simpa [rawInt,yab] using q
theorem zkC {it d:Addr}{i ep:Nat}{es:Array DictEntry}{en:DictEntry}{a b:Value}{Q:Option Value→Shared→Prop}(hJ:IsItemIter s.heap it d i es.size ep a b)(hE:EntD s.heap d es ep)(hx:es[i]? =some en)
  (q:∀ h',IsItemIterOut h' it d (i+1) es.size ep en.key en.val s.heap.objs.size→h'.get? s.heap.objs.size=some {cls:=.type "tuple",data:=.seq #[en.key,en.val]}→
   (∀ c o,c≠it→s.heap.get? c=some o→h'.get? c=some o)→Q (some (.ref s.heap.objs.size)) {s with heap:=h'}):wpAny (model prog w) A (pyNext (.ref it)) Q E s:=by
 obtain ⟨hp,gg,dr,tk,os⟩:=s
 obtain ⟨ob,e1,_,e3⟩:=hE
 have ty:yaI ⟨hp,gg,dr,tk,os⟩ (.ref it) "dict_itemiterator" :=⟨_,hJ,rfl⟩
 have li:i < es.size:=(yaR.mp hx).1
 have ei:es[i]=en:=(yaR.mp hx).2
 unfold pyNext
 refine yB (wpAny_attempt (wpAny_callSpecial?_slot (name:=yaV "__next__") ty jU
  (wpAny_call_entry jU ty wX ?_ (wV _))))
 refine yB (yD (yB (yB ?_)))
 first | refine yB (wpAny_typeNameOfWhole_itemiter ty (yD ?_)) | refine yB (wpAny_typeNameOf_itemiter ty (yD ?_))
 refine yB (wpAny_fieldsOf hJ rfl ?_)
 simp only [show wK "dict_itemiterator" =true by decide,if_true]
 show wpAny _ _ (if (Value.ref d==Value.none)=true then _ else _) _ _ _
 rw [show (Value.ref d==Value.none)=false from rfl,if_neg yY]
 refine yB (yD (yB (wpAny_dictEntries e1 e3 ?_)))
 rw [if_neg (by simp)]
 refine yB (yD (yB (wpAny_dictEpoch e1 e3 ?_)))
 rw [if_neg (by simp)]
 refine yD ?_
 simp only [show ¬(i:Int) < 0 from by omega,if_false,vO,hx]
 refine yB ?_
 first | refine yB (wpAny_typeNameOfWhole_itemiter ty (yD ?_)) | refine yB (wpAny_typeNameOf_itemiter ty (yD ?_))
 refine yB (wpAny_isOneOf_itemiter ty ?_)
 show wpAny _ _ (setField (.ref it) 3 (rawInt ((i:Int)+1)) >>=_) _ _ ⟨hp,gg,dr,tk,os⟩
 refine yB (wpAny_setField_rec hJ (by simp) fun k1 j1 t1=>?_)
 have t1':jB it hp k1:=t1
 have j1':IsItemIter k1 it d (i+1) es.size ep a b:=by
  unfold IsItemIter
  rw [show ((i+1:Nat):Int)=(i:Int)+1 by omega]
  simpa [rawInt] using j1
 have ty1:yaI ⟨k1,gg,dr,tk,os⟩ (.ref it) "dict_itemiterator" :=⟨_,j1',rfl⟩
 refine yB (wpAny_holding (yB (wpAny_isOneOf_itemiter ty1 (yB (wpAny_isOneOf_itemiter ty1 ?_)))))
 show wpAny _ _ (yar (.ref it) 6 en.key en.val) _ _ ⟨k1,gg,dr,tk,os⟩
 unfold yar
 refine yB (wpAny_newTuple ?_)
 have size1:k1.objs.size=hp.objs.size:=t1'.1
 have lit:it < hp.objs.size:=yU hJ
 obtain ⟨k2,ek2⟩:∃ k2,k1.push {cls:=.type "tuple",data:=.seq #[en.key,en.val]}=k2:=⟨_,rfl⟩
 have j2:IsItemIter k2 it d (i+1) es.size ep a b:=by rw [← ek2];exact yH _ j1'
 have p2:k2.get? hp.objs.size=some {cls:=.type "tuple",data:=.seq #[en.key,en.val]}:=by rw [← ek2,← size1];exact yW _ rfl
 have m2:∀ c o,c≠it→hp.get? c=some o→k2.get? c=some o:=fun c o hc e=>by rw [← ek2];exact yH _ (t1'.extBut c o hc e)
 show wpAny _ _ (yac (.ref it) >>=_) _ _ ⟨k1.push {cls:=.type "tuple",data:=.seq #[en.key,en.val]},gg,dr,tk,os⟩
 rw [ek2,size1]
 refine yB ?_
 unfold yac
 refine yB (wpAny_field j2 rfl (x:=.none) rfl (yD ?_))
 simp only [if_true]
 refine yB (wpAny_field j2 rfl (x:=a) rfl (yB (wpAny_field j2 rfl (x:=b) rfl ?_)))
 refine yB (wpAny_setField_rec j2 (by simp) fun k3 j3 t3=>?_)
 have j3':IsItemIter k3 it d (i+1) es.size ep en.key b:=j3
 refine yB (wpAny_setField_rec j3' (by simp) fun k4 j4 t4=>?_)
 have j4':IsItemIter k4 it d (i+1) es.size ep en.key en.val:=j4
 refine yB (wpAny_setField_rec j4' (by simp) fun k5 j5 t5=>?_)
 have j5':IsItemIterOut k5 it d (i+1) es.size ep en.key en.val hp.objs.size:=j5
 refine yB (wpAny_setField_rec j5' (by simp) fun k6 j6 t6=>?_)
 have j6':IsItemIterOut k6 it d (i+1) es.size ep en.key en.val hp.objs.size:=j6
 have all:∀ c o,c≠it→k2.get? c=some o→k6.get? c=some o:=fun c o hc e=>
  yad (show jB it k5 k6 from t6) c o hc (yad (show jB it k4 k5 from t5) c o hc (yad (show jB it k3 k4 from t4) c o hc (yad (show jB it k2 k3 from t3) c o hc e)))
 exact yB (wpAny_letGo (yD (yD ⟨_,rfl,yD (q k6 j6' (all _ _ (yae lit) p2) fun c o hc e=>all c o hc (m2 c o hc e))⟩)))
theorem zmj {it d:Addr}{i ep:Nat}{es:Array DictEntry}{a b:Value}{Q:Option Value→Shared→Prop}(hh:A.handled=none)(hJ:IsItemIter s.heap it d i es.size ep a b)(hE:EntD s.heap d es ep)(hx:es.size≤i)
  (q:∀ h',Heap.ExtBut it s.heap h'→Q none {s with heap:=h'}):wpAny (model prog w) A (pyNext (.ref it)) Q E s:=by
 obtain ⟨ob,e1,_,e3⟩:=hE
 have ty:s.TypeIs (.ref it) "dict_itemiterator" :=⟨_,hJ,rfl⟩
 unfold pyNext
 refine yB (wpAny_attempt (wpAny_callSpecial?_slot (name:=yaV "__next__") ty jU
  (wpAny_call_entry jU ty wX ?_ (wV _))))
 refine yB (yD (yB (yB ?_)))
 first | refine yB (wpAny_typeNameOfWhole_itemiter ty (yD ?_)) | refine yB (wpAny_typeNameOf_itemiter ty (yD ?_))
 refine yB (wpAny_fieldsOf hJ rfl ?_)
 simp only [show wK "dict_itemiterator" =true by decide,if_true]
 show wpAny _ _ (if (Value.ref d==Value.none)=true then _ else _) _ _ s
 rw [show (Value.ref d==Value.none)=false from rfl,if_neg yY]
 refine yB (yD (yB (wpAny_dictEntries e1 e3 ?_)))
 rw [if_neg (by simp)]
 refine yB (yD (yB (wpAny_dictEpoch e1 e3 ?_)))
 rw [if_neg (by simp)]
 refine yD ?_
 simp only [show ¬(i:Int) < 0 from by omega,if_false,vO,Array.getElem?_eq_none hx]
 refine yB ?_
 first | refine yB (wpAny_typeNameOfWhole_itemiter ty (yD ?_)) | refine yB (wpAny_typeNameOf_itemiter ty (yD ?_))
 show wpAny _ _ (setField (.ref it) 2 .none >>=_) _ _ s
 refine yB (wpAny_setField hJ rfl (by simp) ?_)
 show wpAny _ _ (newExc (.type "StopIteration") [] >>=_) _ _ _
 refine yB ?_
 simp only [newExc,newTuple]
 refine yB (wpAny_newObj_type ?_ (by size_fits))
 refine yB (m:=firstArgMember _ _) (wpAny_of_eq (a:=Value.none) (by first | rfl | (simp only [firstArgMember];rfl)) (wpAny_newObj_type ?_ (by size_fits)))
 simp only [raiseNew]
 refine yB (wpAny_handled ?_)
 rw [show A.in1.handled=none from hh]
 refine yB (yD (wpAny_throw (?_:wpAny _ _ _ _ _ _)))
 refine yB (wpAny_isInstance (b:=true) (T:="StopIteration") ⟨_,yW _ rfl,rfl⟩ isSubtype_stop ?_)
 exact yD (q _ (((xP ..).extBut.push _).push _))
end
theorem Inv.freeze {X:Cx}{pins:List (Addr×Obj)}{σ :St}{H:Hp}{s:Shared}{d:Addr}{kvs:List (List Key×V)}{ob:Obj}(I:Inv X pins σ H s)(hd:H d=some (.dT kvs))(ho:s.heap.get? d=some ob):
  Inv X pins σ (upd H d (.frz ob (.dT kvs))) s:=by
 have nT:∀ {b:Addr} {u:HO},H b=some u→u≠.dT kvs→b≠d:=fun e n z=>by
  rw [z,hd] at e
  exact n (qF e).symm
 refine I.step (h':=s.heap) (g':=s.gens) (d':=s.drawn) (t':=s.toks) (ch:=[]) (fun b hb=>(qJ hb).elim) (fun b u _ _ _ e _=>e) (fun b u _ _ _ e _=>⟨u.slots,e⟩)
  (fun b u _ _ n=>by rw [zak (fun z=>by rw [z,hd] at n;cases n)];exact n) (fun b u _ e=>⟨u,e⟩)
  (fun b xs q=>by rw [zak (nT q (fun z=>by cases z))];exact q) (fun b u xs q=>by rw [zak (nT q (fun z=>by cases z))];exact q)
  (fun b ps q=>⟨#[],by rw [zak (nT q (fun z=>by cases z)),q];simp⟩) (fun m hm=>hm) (fun b u e=>?_) I.bare
 have go:∀ u',zbB X.prog X.w H s.heap b u'→zbB X.prog X.w (upd H d (.frz ob (.dT kvs))) s.heap b u':=fun u' h=>
  h.stay (fun c v _ q=>q) (fun c q=>by rw [zak (nT q (fun z=>by cases z))];exact q) fun c xs q=>q.keep fun u eu hu=>by rw [zak (nT eu (fun z=>by obtain ⟨ys,hu | ⟨_,hu⟩⟩:=hu <;> (rw [hu] at z;cases z)))];exact eu
 by_cases hb:b=d
 ·subst hb
  rw [zab] at e
  cases e
  exact ⟨ho,go _ (I.hok b _ hd)⟩
 ·rw [zak hb] at e
  exact go u (I.hok b u e)
noncomputable def Iti (d:Addr) (ob:Obj):It:=
 ⟨fun i H => ∃ kvs p, H d = some (.frz ob (.dT kvs)) ∧ kvs[i]? = some p,
  fun i H v H'=>∃ T b k x,H T=none∧v= .ref T∧H'=upd H T (.tup [.ref b,x])∧RdT H b (k.map kV)∧∀ kvs,H d=some (.frz ob (.dT kvs))→kvs[i]? =some (k,x),
  fun i H=>∃ kvs,H d=some (.frz ob (.dT kvs))∧kvs.length≤i⟩
theorem zg5 {α β :Type}{r: α→β→Prop}:∀ {xs:List α} {ys:List β} {i:Nat} {x: α},Paired r xs ys→xs[i]? =some x→∃ y,ys[i]? =some y∧r x y
 | _,_,0,_,.cons h _,e=>by cases e;exact ⟨_,rfl,h⟩
 | _,_,i+1,_,.cons _ t,e=>zg5 (i:=i) t e
theorem zmJ {X:Cx}{pins:List (Addr×Obj)}{σ :St}{H:Hp}{s:Shared}{d:Addr}{ob:Obj}{kvs:List (List Key×V)}{es:Array DictEntry}{ep:Nat}(I:Inv X pins σ H s)(hd:H d=some (.frz ob (.dT kvs)))(hx:ob.ExactDict)(he:ob.data= .dict es ep):
  EntD s.heap d es ep∧es.size=kvs.length∧∀ (i:Nat) p,kvs[i]? =some p→∃ (en:DictEntry) (b:Addr),es[i]? =some en∧en.key= .ref b∧RdT H b (p.1.map kV)∧RelV p.2 en.val:=by
 obtain ⟨h1,_,_,xs,pr,o,es',ep',e1,_,e3,e4,_⟩:=(show zbB X.prog X.w H s.heap d (.frz ob (.dT kvs)) from I.hok d _ hd)
 rw [h1] at e1
 cases e1
 rw [he] at e3
 cases e3
 have ls:es.size=xs.length:=by
  have:=congrArg vC e4
  simpa using this
 refine ⟨⟨ob,h1,hx,he⟩,by rw [ls];exact (vV pr).symm,fun i p hp=>?_⟩
 obtain ⟨y,hy,r1,r2,r3⟩:=zg5 pr hp
 have hz:es.toList[i]? =some (entryOfKey (tupleKind (zaq X.prog X.w)) y):=by rw [e4,yE,hy];rfl
 exact ⟨_,y.2.1,by simpa using hz,rfl,r2,r3⟩
theorem zkP {P:Program}{w:World}{K:PySem.W.Frag}{elts:List Expr}{k:Nat}{tp:Pos}{ob:Obj}{es:Array DictEntry}{ep:Nat}(d it:Addr)(hx:ob.ExactDict)(he:ob.data= .dict es ep):
  Turn P w K (.Tuple elts k tp) (Iti d ob) [it] it (fun i h=>∃ u v,IsItemIter h it d i es.size ep u v) where
 mem:=by simp
 obj:=fun i h st c hc=>by
  obtain ⟨u,v,hJ⟩:=st
  rw [yF.mp hc]
  exact ⟨_,hJ,fun v z=>nomatch z⟩
 keep:=fun i h h' st kp=>by
  obtain ⟨u,v,hJ⟩:=st
  exact ⟨u,v,kp it (by simp) _ hJ⟩
 item:=by
  intro X hP hw hK hc i pins s σ H E I hf st hg
  subst hP hw hK
  obtain ⟨u,v,hJ⟩:=st
  obtain ⟨kvs,p,hd,hp⟩:=hg
  obtain ⟨hE,hz,each⟩:=zmJ I hd hx he
  obtain ⟨en,b,h1,h2,h3,h4⟩:=each i p hp
  have fi:=hf it (by simp)
  have iT:it≠s.heap.objs.size:=qC (yU hJ)
  refine zkC hJ hE h1 fun h' z1 z2 hk=>?_
  have I1:Inv X pins σ (upd H s.heap.objs.size (.tup [.ref b,p.2])) {s with heap:=h'}:=
   I.laidC (t':=s.toks) (ch:=[it]) hf (fun c o hc q=>hk c o (fun z=>hc (by simp [z])) q) (yN _)
    ⟨(by show 2≤yL;decide),[en.key,en.val],.cons h2 (.cons h4 .nil),_,z2,rfl,_,rfl⟩
  refine ⟨_,rfl,wpAny_letOwnedTupleGo_items z1 fun h2' w1 sb=>?_⟩
  have I2:Inv X pins σ (upd H s.heap.objs.size (.tup [.ref b,p.2])) {s with heap:=h2'}:=
   I1.turned (t':=s.toks) (fun c o hc q=>(sb.2 c hc).trans q) (by rw [zak iT];exact fi.1) fi.2.1 fi.2.2.2.1 fi.2.2.2.2.1 fi.2.2.2.2.2
  refine ⟨.ref s.heap.objs.size,_,I2,rfl,⟨_,b,p.1,p.2,I.hok.fresh (yN _),rfl,rfl,h3,fun kvs' hd'=>?_⟩,⟨_,_,w1⟩,fun c hc=>?_⟩
  ·rw [hd] at hd'
   cases hd'
   exact hp
  ·rw [yF.mp hc,zak iT]
   exact fi.1
 done:=by
  intro X hP hw hK hc i pins s σ H E I hf st hg
  subst hP hw hK
  obtain ⟨u,v,hJ⟩:=st
  obtain ⟨kvs,hd,hp⟩:=hg
  obtain ⟨hE,hz,_⟩:=zmJ I hd hx he
  have fi:=hf it (by simp)
  exact zmj (I.ok.hd hc) hJ hE (by omega) fun h' eb=>⟨rfl,I.turned (t':=s.toks) (fun c o hc q=>eb c o hc q) fi.1 fi.2.1 fi.2.2.2.1 fi.2.2.2.2.1 fi.2.2.2.2.2⟩
 self:=fun A i s Q E st h=>by
  obtain ⟨u,v,hJ⟩:=st
  exact PySem.W.kcp_self hJ h
noncomputable def zom (td:TE):TI:=fun σ H R=>td σ H fun x H1=>∃ d kvs,x= .ref d∧H1 d=some (.dT kvs)∧∀ ob,R (Iti d ob) (upd H1 d (.frz ob (.dT kvs)))
theorem znn {X:Cx}{o:Expr}{td:TE}{apos cpos tp:Pos}{elts:List Expr}{k:Nat}(ho:PE X o td)
  (hbase:attributeBase o "items" X.env (eval o X.env)=eval o X.env:=by rfl) (hline:(apos.endLine==cpos.line)=true:=by rfl):PI X (.Tuple elts k tp) (.Call (.Attribute o "items" apos) [] [] cpos) (zom td):=by
 intro pins s σ H R I h
 refine wpAny_Call_method0_late hbase hline (thn (ho pins s σ H _ I h) fun v s1 ⟨x,H1,I1,r1,d,kvs,ex,hd,q⟩=>?_)
 subst ex
 cases r1
 obtain ⟨_,nsys,xs,pr,ob,es,ep,e1,e2,e3,e4,e5⟩:=(show zbB X.prog X.w H1 s1.heap d (.dT kvs) from I1.hok d _ hd)
 have I2:=I1.freeze hd e1
 refine ⟨"dict","dict.items",ybe,ybg,PySem.F.type_dict_items,⟨ob,e1,e2.1⟩,fun a z=>by cases z;exact ⟨ob,e1,e2.2.1⟩,wG rfl (ybK ?_)⟩
 refine zkQ (es:=es) (ep:=ep) nsys ⟨ob,e1,e2,e3⟩ ?_
 have hE:EntD (s1.heap.push {cls:=.type "dict_items",data:=.fields #[.ref d]}) d es ep:=⟨ob,yH _ e1,e2,e3⟩
 refine zk2 (es:=es) (ep:=ep) ⟨_,yW _ rfl,rfl,rfl⟩ hE ?_
 have I3:Inv X pins σ (upd H1 d (.frz ob (.dT kvs))) {s1 with heap:=(s1.heap.push {cls:=.type "dict_items",data:=.fields #[.ref d]})}:=I2.kept (t':=s1.toks) fun b u e=>yH _ e
 refine ⟨(s1.heap.push {cls:=.type "dict_items",data:=.fields #[.ref d]}).objs.size,[(s1.heap.push {cls:=.type "dict_items",data:=.fields #[.ref d]}).objs.size],_,_,_,rfl,I3.kept (t':=s1.toks) fun b u e=>yH _ e,
  zkP d _ e2 e3,⟨_,_,yW _ rfl⟩,fun b hb=>?_,q ob⟩
 rw [yF.mp hb]
 exact I3.fpOk (yN _) (I3.hok.fresh (yN _))
theorem zlT {X:Cx}{o:Expr}{td:TE}{apos cpos tp:Pos}{elts:List Expr}{k:Nat}(ho:Bx (PE X o td))
  (hbase:attributeBase o "items" X.env (eval o X.env)=eval o X.env:=by rfl) (hline:(apos.endLine==cpos.line)=true:=by rfl):Bx (PI X (.Tuple elts k tp) (.Call (.Attribute o "items" apos) [] [] cpos) (zom td)):=⟨znn ho.1 hbase hline⟩
section
variable {g:TG} {tt:TT} {te:TE} {n0:Nat} {cap:List Nat} {σ :St} {Q:VK} {D:Addr} {H1:Hp}
theorem zk3 {d:Addr}{ob:Obj}{kvs:List (List Key×V)}(Pv:Nat→Hp→Prop)(h0:Pv 0 (upd H1 D (.lst [])))(hl:∀ i H,i≤kvs.length→Pv i H→H d=some (.frz ob (.dT kvs)))
  (hs:∀ i b p H T,kvs[i]? =some p→Pv i H→H T=none→RdT H b (p.1.map kV)→g (.ref T) (zbK n0 cap σ) (upd H T (.tup [.ref b,p.2])) fun σ2 H2=>tt σ2 H2 fun c H3=>if c=true then te σ2 H3 fun y H4=>∃ xs,H4 D=some (.lst xs)∧xs.length < yL∧Pv (i+1) (upd H4 D (.lst (xs++ [y]))) else Pv (i+1) H3)
  (hd:∀ H,Pv kvs.length H→Q (.ref D) H):zdP (Iti d ob) D n0 cap σ g tt te Q H1:=by
 refine ⟨fun i m H=>m=kvs.length - i∧i≤kvs.length∧Pv i H,⟨kvs.length,by simp,qN _,h0⟩,?_⟩
 rintro i m H ⟨rfl,hi,p⟩
 have q:=hl i H hi p
 by_cases hlt:i < kvs.length
 ·refine .inr ⟨⟨kvs,kvs[i],q,by simp [hlt]⟩,Pv (i+1),fun H' p'=>⟨kvs.length - (i+1),by omega,rfl,hlt,p'⟩,fun x H' y=>?_⟩
  obtain ⟨T,b,k,z,hT,e1,e2,hb,y⟩:=y
  subst e1 e2
  exact hs i b (k,z) H T (y kvs q) p hT hb
 ·have e:i=kvs.length:=by omega
  subst e
  exact .inl ⟨⟨kvs,q,yN _⟩,hd H p⟩
end
theorem HOk.thaw {P:Program}{w:World}{H:Hp}{h:Heap}{d:Addr}{ob:Obj}{kvs:List (List Key×V)}(k:HOk P w H h)(hd:H d=some (.frz ob (.dT kvs))):HOk P w (upd H d (.dT kvs)) h:=by
 have nT:∀ {b:Addr} {u:HO},H b=some u→u≠.frz ob (.dT kvs)→b≠d:=fun e n z=>by
  rw [z,hd] at e
  exact n (qF e).symm
 have go:∀ (b:Addr) u',zbB P w H h b u'→zbB P w (upd H d (.dT kvs)) h b u':=fun b u' x=>
  x.stay (fun c v _ q=>q) (fun c q=>by rw [zak (nT q (fun z=>by cases z))];exact q) fun c xs q=>q.keep fun u eu hu=>by rw [zak (nT eu (fun z=>by obtain ⟨ys,hu | ⟨_,hu⟩⟩:=hu <;> (rw [hu] at z;cases z)))];exact eu
 intro b u e
 by_cases hb:b=d
 ·subst hb
  rw [zab] at e
  cases e
  exact go b _ (k b _ hd).2
 ·rw [zak hb] at e
  exact go b u (k b u e)
theorem Un.thaw {fs ex:List Addr}{H H':Hp}{h h':Heap}{d:Addr}{o u:HO}(x:Un fs ex H H' h h')(hd:H d=some o)(n1:∀ xs,o≠.tup xs)(n2:∀ a b,o≠.frz a b)(n3:∀ ps,o≠.tbl ps):Un fs ex H (upd H' d u) h h' where
 keep:=x.keep
 slot:=x.slot
 free:=fun b ob q n hx=>by
  rw [zak (fun z=>by rw [z,hd] at n;cases n)]
  exact x.free b ob q n hx
 there:=x.there
 tups:=fun b xs q=>by
  rw [zak (fun z=>by rw [z,hd] at q;exact n1 _ (qF q))]
  exact x.tups b xs q
 frzs:=fun b a c q=>by
  rw [zak (fun z=>by rw [z,hd] at q;exact n2 _ _ (qF q))]
  exact x.frzs b a c q
 tbls:=fun b ps q=>by
  rw [zak (fun z=>by rw [z,hd] at q;exact n3 _ (qF q))]
  exact x.tbls b ps q
theorem FnOk.thaw {P:Program}{w:World}{K:PySem.W.Frag}{mg:Str→Option Value}{base:Heap}{CX:CXT}{k:Nat}{f:Addr}{fd:FuncData}{ps:List Str}{sp:Sp}(F:FnOk P w K mg base CX k f fd ps sp):
  FnOk P w K mg base CX k f fd ps (fun vs H Q E=>sp vs H (fun v H'=>∃ d ob k0 kvs,H d=some (.dT k0)∧H' d=some (.frz ob (.dT kvs))∧Q v (upd H' d (.dT kvs))) E):=by
 refine ⟨fun vs H Q E h=>F.len vs H _ E h,fun A outer s H args us vs Q E hr he hb hv hs=>?_⟩
 refine codeAny_mono (F.run A outer s H args us vs _ E hr he hb hv hs) fun r s' hq=>?_
 unfold CR at hq ⊢
 cases r with
 | error e=>exact hq
 | ok r=>
  cases r with
  | ret u=>
   obtain ⟨v,H',h1,h2,h3,h4,h5,d,ob,k0,kvs,hd,hd',q⟩:=hq
   exact ⟨v,_,h1,h2,h3.thaw hd (fun _ z=>by cases z) (fun _ _ z=>by cases z) (fun _ z=>by cases z),h4.thaw hd',h5,q⟩
  | _=>exact hq
theorem RdT.tup {K:PySem.W.Frag}{H:Hp}{c:Addr}{xs:List V}(q:RdT H c xs):SqT K H c xs:=.inl q
section
variable {prog:Program} {w:World} {A:Around} {E:Value→Shared→Prop} {s:Shared} {Ky:Type} [DecidableEq Ky] {knd:HeapKind prog w Ky}
end
section
variable {prog:Program} {w:World} {A:Around} {E:Value→Shared→Prop} {s:Shared}
theorem EntD.at {h h':Heap}{d:Addr}{es:Array DictEntry}{ep:Nat}(x:EntD h d es ep)(k:∀ o,h.get? d=some o→h'.get? d=some o):EntD h' d es ep:=let ⟨o,e,r⟩:=x;⟨o,k o e,r⟩
end
section
variable {prog:Program} {w:World} {A:Around} {E:Value→Shared→Prop} {s:Shared}
end
section
variable {X:Cx} {o:Expr} {td:TE} {p ap cp pos:Pos}
end
section
variable {g:TG} {tt:TT} {te:TE} {n0:Nat} {cap:List Nat} {σ :St} {Q:VK} {D:Addr} {H1:Hp}
end
open PySem.W (Dat kqdP kqdPs kqdOk)
section
variable {X:Cx}
end
end L2
namespace L2
open PySem PySem.Spec PyProof.Rows
section
variable {prog:Program} {w:World} {A:Around} {E:Value→Shared→Prop} {s:Shared}
end
section
variable {X:Cx}
end
end L2
namespace L2
open PySem
end L2
namespace L2
open PySem PySem.Spec PyProof.Rows
noncomputable def rNe0 (K:PySem.W.Frag):R2:=fun x y H Q=>∃ a b xs,x= .ref a∧y= .ref b∧SqL K H a xs∧SqL K H b []∧Q (.bl (decide (xs≠[]))) H
section
variable {X:Cx}
theorem zof (hu:X.A.units+64 < cLine):OpR X (compareOp .NotEq) (rNe0 X.K):=by
 intro pins s σ H x y v u Q I rx ry h
 obtain ⟨a,b,xs,rfl,rfl,ha,hb,q⟩:=h
 cases rx
 cases ry
 obtain ⟨its,r1,⟨⟨c1,dd,data,sl⟩,n1,ho,hc,hd0,hd⟩,_⟩:=I.list ha
 obtain ⟨its2,r2,⟨⟨c2,dd2,data2,sl2⟩,n2,ho2,hc2,hd02,hd2⟩,_⟩:=I.list hb
 simp only at hc hd hc2 hd2
 subst hc hd hc2 hd2
 have l1:=r1.length
 have l2:=r2.length
 cases its2 with
 | cons z zs=>cases l2
 | nil=>
 by_cases e:xs= []
 ·subst e
  cases its with
  | cons z zs=>cases l1
  | nil=>
  refine richCompare_meets_room (op:=.NotEq) ⟨_,ho,rfl⟩ ⟨_,ho2,rfl⟩ ybH ybz (ybp _ _) (PySem.SeqAt.list_neAt a b #[] #[] n1 n2 dd dd2 sl sl2 rfl (fun _=>true))
   ⟨ho,ho2,fun j h1=>absurd h1 (xV _),show Value.bool _≠Value.notImplemented∧_ from ⟨(fun z=>nomatch z),⟨.bl _,H,I,rfl,q⟩⟩⟩ (by omega)
 ·have ne:(its.toArray.size !=([]:List Value).toArray.size)=true:=by
   cases its with
   | nil=>exact absurd (wA.mp l1) e
   | cons z zs=>simp
  rw [decide_eq_true e] at q
  exact richCompare_meets_room (op:=.NotEq) ⟨_,ho,rfl⟩ ⟨_,ho2,rfl⟩ ybH ybz (ybp _ _) (PySem.SeqAt.list_ne_lengthsAt a b its.toArray #[] n1 n2 dd dd2 sl sl2 ne)
   ⟨ho,ho2,show Value.bool true≠Value.notImplemented∧_ from ⟨(fun z=>nomatch z),⟨.bl true,H,I,rfl,q⟩⟩⟩ (by omega)
end
section
variable {prog:Program} {w:World} {A:Around} {E:Value→Shared→Prop} {s:Shared}
end
section
variable {prog:Program} {w:World} {A:Around} {E:Value→Shared→Prop} {s:Shared}
end
section
variable {prog:Program} {w:World} {A:Around} {E:Value→Shared→Prop} {s:Shared}
noncomputable def TAt (h:Heap) (it t:Addr) (i:Nat) (xs:Array Value):Prop:=IsTupIter h it t i∧IsTup h t xs
theorem TAt.keep {h h':Heap}{it t:Addr}{i:Nat}{xs:Array Value}(x:TAt h it t i xs)(k1:∀ o,h.get? it=some o→h'.get? it=some o)(k2:∀ o,h.get? t=some o→h'.get? t=some o):TAt h' it t i xs:=by
 obtain ⟨⟨o,a,b⟩,o2,c,d⟩:=x
 exact ⟨⟨o,k1 _ a,b⟩,o2,k2 _ c,d⟩
end
section
variable {prog:Program} {w:World} {A:Around} {E:Value→Shared→Prop} {s:Shared}
end
end L2
namespace L2
open PySem
end L2
namespace L2
open PySem PySem.Spec PyProof.Rows
section
variable {X:Cx}
end
section
variable {X:Cx} {tg:Expr}
end
section
end
section
variable {prog:Program} {w:World} {A:Around} {E:Value→Shared→Prop} {s:Shared}
end
section
variable {X:Cx} {pins:List (Addr×Obj)} {σ :St} {H1:Hp} {s1 s':Shared} {C S:Addr} {nid nid2:String} {bB bB2:List Value} {sx n:Str} {np hpos:Pos} {b₀ :Stmt} {suite:List Stmt} {j:Nat} {ts:TS} {D:Ends} {E':XK} {e:Value}
noncomputable def D1R (D:Ends) (j:Nat):Ends:={nx:=fun σ' H'=>D.nx (σ'.set j none) H',rt:=D.rt}
end
section
variable {X:Cx} {C S f:Addr} {k:Nat} {fd:FuncData} {ps:List Str} {sp:Sp} {dvs:List V} {ds:List Value} {nid nid2:String} {bB bB2:List Value} {fx sx n:Str} {p np hpos cpos epos pos:Pos} {b₀ :Stmt} {suite:List Stmt} {j:Nat} {t:TA} {ts:TS} {e:Expr} {es:List Expr}
end
theorem unB {p:Prop}(h:Bx p):p:=h.1
section
variable {X:Cx}
theorem zoR {K:PySem.W.Frag}{o e:Expr}{es:List Expr}{to:TE}{t:TA}{apos cpos:Pos}{name:Str}{T id:String}{r:V→List V→Hp→VK→Prop}(pa:PlainAttrs T)(slot:Slot T name id)(hty:typeOf (.builtin id)=pure (.type "method_descriptor"))(hm:MtR X id r)(ho:Bx (PE X o to))(ha:Bx (PA X (e::es) t))(hK:X.K=K:=by rfl)
  (h1:attributeBase o name X.env (eval o X.env)=eval o X.env:=by rfl)
  (h2:((backTo cpos (starEach (e::es) X.env)).all (fun x=>!x.1) && (backToKw cpos (keywordEach [] X.env)).all (fun x=>x.1.isSome) && decide ((e::es).length+([]:List Keyword).length+(if ([]:List Keyword).isEmpty then 0 else 1) < 30))=true:=by rfl)
  (h3:(apos.endLine==cpos.line)=true:=by rfl) (h4:starEach (e::es) X.env=(false,eval e X.env)::starEach es X.env:=by rfl) (h5:(backTo cpos (starEach es X.env)).any (·.1)=false:=by rfl):
  Bx (PE X (.Call (.Attribute o name apos) (e::es) [] cpos) (tBM K T r to t)):=by subst hK;exact zcG pa slot hty hm ho ha h1 h2 h3 h4 h5
end
theorem TupK.at {K:PySem.W.Frag}{c:Addr}{xs:List Str}(h:TupK K c xs):∃ o vs n,K.lookup c=some o∧o.cls= .type "tuple"∧o.data= .seq vs n∧Vals (xs.map V.str) vs.toList:=by
 unfold TupK at h
 cases e:K.lookup c with
 | none=>rw [e] at h;cases h
 | some o=>
  rw [e] at h
  have h':((o.cls== .type "tuple" && o.dict.isNone) && (match o.data with | .seq vs _=>zcK xs vs.toList | _=>false))=true:=h
  rw [qA,qA] at h'
  obtain ⟨⟨h1,_⟩,h2⟩:=h'
  cases d:o.data with
  | seq vs n=>
   rw [d] at h2
   exact ⟨o,vs,n,rfl,eq_of_beq h1,d,zfI h2⟩
  | _=>rw [d] at h2;cases h2
section
variable {K:PySem.W.Frag} {c:Addr} {xs:List Str}
end
end L2
namespace My
open PySem L2
open PySem.Builtin.Str (occurrences partsBetween strSub subAt)
end My
namespace L2
open PySem PySem.Spec PyProof.Rows
section
variable {X:Cx} {elt tg iter:Expr} {ifs:List Expr} {scope:Scope} {pos:Pos} {N:List Str} {n:Nat} {cap:List Nat} {wi:TI} {g:TG} {tt:TT} {te:TE}
end
section
variable {P:Program} {w:World} {K:PySem.W.Frag} {mg:Str→Option Value} {base:Heap} {N:List Str} {qual:Str} {scope:Scope} {f C:Addr} {cd:Value} {A:Around} {outer:List Env} {s:Shared} {H:Hp} {E:XK}
end
section
variable {X:Cx}
end
section
variable {X:Cx}
variable {D:Addr} {n0:Nat} {cap:List Nat} {σ :St} {g:TG} {tt:TT} {te:TE} {Q:VK} {H1:Hp}
end
section
variable {X:Cx} {pins:List (Addr×Obj)} {σ :St} {H:Hp} {s:Shared}
end
section
variable {X:Cx}
end
section
variable {X:Cx} {C S f:Addr} {k:Nat} {fd:FuncData} {ps:List Str} {sp:Sp} {dvs:List V} {ds:List Value} {nid nid2:String} {bB bB2:List Value} {fx sx n y:Str} {p np hpos cpos epos pos pos':Pos} {b₀ :Stmt} {suite:List Stmt} {i j:Nat} {t:TA} {ts:TS} {e:Expr} {es:List Expr}
end
noncomputable def zcU (c:Nat):List Int:=[((c / 2:Nat):Int),((c % 2:Nat):Int)]
noncomputable def zdC (c:Nat):Int:=reduceHash (Builtin.Tuple.tupleHashOf [hashInt ((c / 2:Nat):Int),hashInt ((c % 2:Nat):Int)])
noncomputable def zgQ (te:SetTable×List Nat) (c:Nat):Option yca:=te.1.probe (fun i=>((te.2[i]?).map zdC).getD 0) (zdC c) (te.1.probeStart (zdC c))
noncomputable def zkb (te:SetTable×List Nat) (c j:Nat):SetTable×List Nat:=((te.1.put j).1,te.2.take (te.1.put j).2++c::te.2.drop (te.1.put j).2)
noncomputable def zoI (te:SetTable×List Nat) (c:Nat):SetTable×List Nat:=
 match zgQ te c with
 | some (.empty j none)=>zkb te c j
 | _=>te
noncomputable def zdL (led:Bool):List (SetTable×List Nat):=
 let s0:=[((SetTable.fresh 0 0 led,[]):SetTable×List Nat)]
 let nx:=fun (l:List (SetTable×List Nat))=>l.flatMap fun te=>([0,1,2,3].filter fun c=>!te.2.contains c).map fun c=>zoI te c
 s0++nx s0++nx (nx s0)++nx (nx (nx s0))++nx (nx (nx (nx s0)))
noncomputable def zcX (led:Bool) (te:SetTable×List Nat) (c:Nat):Bool:=
 te.1.fits te.2.length && !te.1.gaveWay && te.1.plain && (te.1.led==led) && decide (te.2.length≤4) &&
 (if te.2.contains c then
   (match zgQ te c with
    | some (.candidate _ i _)=>te.2[i]? ==some c
    | _=>false)
  else
   (match zgQ te c with
    | some (.empty j none)=>(zdL led).contains (zkb te c j) && !(te.1.put j).1.tooFull && (te.1.put j).1.plain
    | _=>false))
theorem zni:([true,false].all fun led=>(zdL led).all fun te=>[0,1,2,3].all fun c=>zcX led te c)=true:=by decide+kernel
theorem zfa {led:Bool}{te:SetTable×List Nat}{c:Nat}(h:te∈zdL led)(hc:c < 4):zcX led te c=true:=by
 have h1:=yX.mp zni led (by cases led <;> simp)
 have h2:=yX.mp h1 te h
 refine yX.mp h2 c ?_
 have:c=0∨c=1∨c=2∨c=3:=by omega
 rcases this with rfl | rfl | rfl | rfl <;> simp
noncomputable def entP (p:Nat×Addr):Int×Value:=(zdC p.1,.ref p.2)
noncomputable def esP (L:List (Nat×Addr)):Array (Int×Value):=(L.map entP).toArray
noncomputable def zeA (prog:Program) (w:World) (h:Heap) (S:Addr) (led:Bool) (t:SetTable) (L:List (Nat×Addr)):Prop:=
 ∃ o ep,h.get? S=some o∧o.ExactSet∧o.data= .set (esP L) ep t∧(t,L.map yZ)∈zdL led∧∀ p∈L,p.1 < 4∧IsTupleKey (intKind prog w) h (zcU p.1) p.2
theorem znA (L:List (Nat×Addr))(i:Nat):((esP L)[i]?.map (·.1)).getD 0=(((L.map yZ)[i]?).map zdC).getD 0:=by
 simp only [esP,jN,yE]
 cases L[i]? <;> rfl
theorem zb1 (L:List (Nat×Addr)):(esP L).size=L.length:=by simp [esP]
theorem zk1 (L:List (Nat×Addr))(p:Nat)(x:Nat×Addr):kP (esP L) p (entP x)=esP (L.take p++x::L.drop p):=by
 refine yaC.mp ?_
 rw [yag]
 simp [esP,wB,wT]
section
variable {prog:Program} {w:World} {A:Around} {E:Value→Shared→Prop} {s:Shared}
theorem zfe {ks:List Int}{a:Addr}{Q:Bool→Shared→Prop}(hk:IsTupleKey (intKind prog w) s.heap ks a)(h:Q false s):wpAny (model prog w) A (ofAClassStatement 8 (.ref a)) Q E s:=by
 have hT:=hk.typeIs
 obtain ⟨o,items,n,ho,_,hd,hi⟩:=hk
 unfold ofAClassStatement
 refine yB (wpAny_typeOf hT ?_)
 show wpAny _ _ (do
   let underTuple ← if ("tuple" :String)=="tuple" then pure true else isSubtype (.type "tuple") (.type "tuple")
   _) _ _ _
 refine yB ?_
 refine yD ?_
 simp only [wC,yT,if_false]
 refine yB (wpAny_seqItems ho hd ?_)
 refine yB ?_
 show wpAny _ _ (forIn items _ _) _ _ s
 rw [← yao]
 refine wpAny_forIn_list _ (fun rest r s'=>r.1=none∧s'=s∧∀ v∈rest,carriedByValue v=true) _ ?_ ?_ _ _ ⟨rfl,rfl,hi.byValue⟩
 ·rintro v rest r s' ⟨hr,rfl,hall⟩
  have hv:=hall v jP
  have e:ofAClassStatement 7 v=pure false:=by
   cases v with
   | ref a=>simp [carriedByValue] at hv
   | _=>first | rfl | (unfold ofAClassStatement;rfl)
  rw [e]
  refine yB (yD ?_)
  simp only [yT,if_false]
  exact yD ⟨rfl,rfl,fun u hu'=>hall u (jK _ hu')⟩
 ·rintro ⟨r1,r2⟩ s' ⟨hr,rfl,_⟩
  simp only at hr
  subst hr
  exact yD h
theorem zld {c:Nat}{a:Addr}{Q:Bool→Shared→Prop}(hu:A.units < cLine)(hk:IsTupleKey (intKind prog w) s.heap (zcU c) a)(ys:List Value)
  (hy:∀ y∈ys,∃ b d,y=Value.ref b∧IsTupleKey (intKind prog w) s.heap (zcU d) b) (h:Q false s):wpAny (model prog w) A (searchCouldBeSeen (.ref a) ys) Q E s:=by
 unfold searchCouldBeSeen
 refine yB ?_
 refine wpAny_forIn_list _ (fun rest r s'=>r.1=none∧s'=s∧∀ y∈rest,∃ b d,y=Value.ref b∧IsTupleKey (intKind prog w) s.heap (zcU d) b) _ ?_ ?_ _ _ ⟨rfl,rfl,hy⟩
 ·rintro v rest r s' ⟨hr,rfl,hall⟩
  obtain ⟨b,d,rfl,hb⟩:=hall v jP
  have hrest:∀ y∈rest,∃ b d,y=Value.ref b∧IsTupleKey (intKind prog w) s'.heap (zcU d) b:=fun u hu'=>hall u (jK _ hu')
  dsimp only
  split
  ·exact yD ⟨rfl,rfl,hrest⟩
  ·refine yB ((tupleKind (intKind prog w)).quiet hk ?_)
   simp only [wC,yT,if_false]
   refine yB ((tupleKind (intKind prog w)).quiet hb ?_)
   simp only [wC,yT,if_false]
   refine yB (zfe hk ?_)
   simp only [yT,if_false]
   refine yB (zfe hb ?_)
   simp only [yT,if_false]
   exact yD ⟨rfl,rfl,hrest⟩
 ·rintro ⟨r1,r2⟩ s' ⟨hr,rfl,_⟩
  simp only at hr
  subst hr
  exact yD h
theorem ziv {ks:List Int}{a:Addr}{Q:Bool→Shared→Prop}(hk:IsTupleKey (intKind prog w) s.heap ks a)(h:Q true s):wpAny (model prog w) A (hashByValue 8 (.ref a)) Q E s:=by
 have hT:=hk.typeIs
 obtain ⟨o,items,n,ho,_,hd,hi⟩:=hk
 unfold hashByValue
 refine yB (wpAny_specialOf hT ybh.lookup ?_)
 dsimp only
 refine yB (wpAny_seqItems ho hd ?_)
 refine yB ?_
 show wpAny _ _ (forIn items _ _) _ _ s
 rw [← yao]
 refine wpAny_forIn_list _ (fun rest r s'=>r.1=none∧s'=s∧∃ kl,ya3 (intKind prog w) kl rest) _ ?_ ?_ _ _ ⟨rfl,rfl,ks,hi⟩
 ·rintro v rest r s' ⟨hr,rfl,kl,hall⟩
  cases hall with
  | @cons k _ kl' _ h1 h2=>
   obtain ⟨t,rfl⟩:=yas h1
   have e:hashByValue 7 (Value.int k t)=pure true:=by unfold hashByValue;rfl
   rw [e]
   refine yB (yD ?_)
   simp only [wC,yT,if_false]
   exact yD ⟨rfl,rfl,kl',h2⟩
 ·rintro ⟨r1,r2⟩ s' ⟨hr,rfl,_⟩
  simp only at hr
  subst hr
  exact yD h
theorem zgc {S a:Addr}{led:Bool}{t:SetTable}{L:List (Nat×Addr)}{c n:Nat}{Q:SetFound→Shared→Prop}(hu:A.units < cLine)(hS:zeA prog w s.heap S led t L)(hc:c < 4)
  (hk:IsTupleKey (intKind prog w) s.heap (zcU c) a) (h1:c∈L.map yZ→Q (.there none) s)
  (h2:∀ j,c∉L.map yZ→zgQ (t,L.map yZ) c=some (.empty j none)→Q (.free j false) s):wpAny (model prog w) A (setSearchFrom S (.ref a) (zdC c) true (n+1) none) Q E s:=by
 obtain ⟨o,ep,ho,hex,hd,htab,hall⟩:=hS
 have good:=zfa htab hc
 simp only [zcX,qA,jT,beq_iff_eq,yA,decide_eq_true_eq] at good
 obtain ⟨⟨⟨⟨⟨hfit,hgw⟩,hpl⟩,hled⟩,hlen⟩,hask⟩:=good
 have hf:t.fits (esP L).size=true:=by rw [zb1];exact hfit
 unfold setSearchFrom
 refine yB (wpAny_setState_of ho hd hf ?_)
 dsimp only
 rw [hgw]
 simp only [yT,if_false]
 have hfun:(fun i=>((esP L)[i]?.map (fun x:Int×Value=>x.1)).getD 0)=fun i:Nat=>(((L.map yZ)[i]?).map zdC).getD 0:=funext (znA L)
 split
 rotate_left
 ·rename_i hno
  exfalso
  have e:zgQ (t,L.map yZ) c=none:=by
   show t.probe (fun i=>(((L.map yZ)[i]?).map zdC).getD 0) (zdC c) (t.probeStart (zdC c))=none
   rw [← hfun]
   generalize hz:t.probe (fun i=>((esP L)[i]?.map (fun x:Int×Value=>x.1)).getD 0) (zdC c) (t.probeStart (zdC c))=z
   cases z with
   | none=>rfl
   | some m=>exact absurd hz (hno m)
  rw [e] at hask
  split at hask <;> exact vU hask
 rename_i met heq
 have e:zgQ (t,L.map yZ) c=some met:=by
  show t.probe (fun i=>(((L.map yZ)[i]?).map zdC).getD 0) (zdC c) (t.probeStart (zdC c))=some met
  rw [← hfun]
  exact heq
 rw [e] at hask
 by_cases hm:c∈L.map yZ
 ·rw [if_pos (qU.mpr hm)] at hask
  cases met with
  | empty j d=>exact vU hask
  | candidate j i nx=>
   simp only [beq_iff_eq] at hask
   rw [yE] at hask
   obtain ⟨p,hp,hpc⟩:=jQ.mp hask
   have hes:(esP L)[i]? =some (zdC p.1,Value.ref p.2):=by
    show ((L.map entP).toArray)[i]? =_
    rw [jN,yE,hp]
    rfl
   have hpm:p∈L:=yI hp
   have hpk:=(hall p hpm).2
   have rest:wpAny (model prog w) A (holding [Value.ref p.2] (eqBool (.ref p.2) (.ref a))) (fun equal s'=>equal=true∧s'=s) E s:=by
    refine wpAny_holding ((tupleKind (intKind prog w)).eqBool hu hpk hk ?_)
    exact ⟨by rw [hpc];exact decide_eq_true rfl,rfl⟩
   dsimp only
   rw [hes]
   dsimp only
   split
   ·refine yB (zld hu hk _ (fun y hy=>?_) ?_)
    ·obtain ⟨q,hq,rfl⟩:=yS.mp hy
     rw [ybM] at hq
     have hq2:=(kC.mp hq).1
     obtain ⟨p',hp',rfl⟩:=yS.mp (show q∈L.map entP from hq2)
     exact ⟨p'.2,p'.1,rfl,(hall p' hp').2⟩
    ·simp only [yT,if_false]
     refine yB (wpAny_mono rest ?_ fun _ _ z=>z)
     rintro eq s' ⟨rfl,rfl⟩
     refine yB (wpAny_setState_of ho hd hf ?_)
     exact yD (h1 hm)
   ·refine yB (wpAny_mono rest ?_ fun _ _ z=>z)
    rintro eq s' ⟨rfl,rfl⟩
    refine yB (wpAny_setState_of ho hd hf ?_)
    exact yD (h1 hm)
 ·rw [if_neg (fun z=>hm (qU.mp z))] at hask
  cases met with
  | candidate j i nx=>exact vU hask
  | empty j d=>
   cases d with
   | some d=>exact vU hask
   | none=>
    exact yD (h2 j hm e)
theorem ziV {h h':Heap}{ks:List Int}{a d:Addr}{o:Obj}(x:IsTupleKey (intKind prog w) h ks a)(ho:h.get? d=some o)(hd:o.ExactSet)(hs:jB d h h'):IsTupleKey (intKind prog w) h' ks a:=by
 obtain ⟨o',items,n,ho',hc,hd',hi⟩:=x
 have hne:a≠d:=by
  rintro rfl
  obtain rfl:o'=o:=qF (ho'.symm.trans ho)
  rw [hd.1] at hc
  exact absurd (wE hc) (by decide)
 exact ⟨o',items,n,(hs.2 a hne).trans ho',hc,hd',hi⟩
theorem ziM {S a:Addr}{led:Bool}{t:SetTable}{L:List (Nat×Addr)}{c:Nat}{Q:Bool→Shared→Prop}(hu:A.units < cLine)(hS:zeA prog w s.heap S led t L)(hc:c < 4)
  (hk:IsTupleKey (intKind prog w) s.heap (zcU c) a)
  (h1:∀ tk,c∈L.map yZ→Q false {s with toks:=tk})
  (h2:∀ h' tk t' L',c∉L.map yZ→jB S s.heap h'→zeA prog w h' S led t' L'→vB L' ((c,a)::L)→Q true {s with heap:=h',toks:=tk}):
  wpAny (model prog w) A (setAdd S (.ref a)) Q E s:=by
 unfold setAdd
 refine wpAny_holding ?_
 refine yB ((tupleKind (intKind prog w)).pyHash (k:=zcU c) hu hk ?_)
 generalize htk:s.toks+(tupleKind (intKind prog w)).draws (zcU c)=tk
 show wpAny _ _ (setAddHashed S (.ref a) (zdC c)) _ _ _
 have hS0:=hS
 obtain ⟨o,ep,ho,hex,hd,htab,hall⟩:=hS0
 have good:=zfa htab hc
 simp only [zcX,qA,jT,beq_iff_eq,yA,decide_eq_true_eq] at good
 obtain ⟨⟨⟨⟨⟨hfit,hgw⟩,hpl⟩,hled⟩,hlen⟩,hask⟩:=good
 have hf:t.fits (esP L).size=true:=by rw [zb1];exact hfit
 unfold setAddHashed setAddHashedIn
 refine wpAny_holding (yB (wpAny_setState_of (s:={s with toks:=tk}) ho hd hf ?_))
 dsimp only
 rw [show byScan (Value.ref a) (esP L)=false from rfl]
 simp only [yT,if_false]
 unfold setSearch
 refine yB (zgc (s:={s with toks:=tk}) hu hS hc hk (fun hm=>?_) fun j hm e=>?_)
 ·exact yD (h1 tk hm)
 ·rw [if_neg (fun z=>hm (qU.mp z)),e] at hask
  simp only [qA,jT] at hask
  obtain ⟨⟨hin,hnf⟩,hpl2⟩:=hask
  dsimp only
  refine yB (wpAny_setState_of (s:={s with toks:=tk}) ho hd hf ?_)
  dsimp only
  rw [hpl2]
  simp only [if_true]
  refine yB (ziv (s:={s with toks:=tk}) hk ?_)
  simp only [if_true]
  have hins:=zk1 L (t.put j).2 (c,a)
  have hL5:(esP (L.take (t.put j).2++(c,a)::L.drop (t.put j).2)).size≤5:=by
   rw [zb1,yJ,qP,yR,jW]
   omega
  show wpAny _ _ (storeSet S (kP (esP L) (t.put j).2 (entP (c,a))) _ >>=_) _ _ _
  rw [hins]
  refine yB (wpAny_storeSet_of (s:={s with toks:=tk}) ho hd ?_ (qX hL5 (by rw [sizeLine_eq];omega)))
  rw [hnf]
  simp only [ya1,yT,if_false]
  refine yD ?_
  have hsb:=xP s.heap S (vN (esP (L.take (t.put j).2++(c,a)::L.drop (t.put j).2)) (t.put j).1)
  have hperm:vB (L.take (t.put j).2++(c,a)::L.drop (t.put j).2) ((c,a)::L):=by
   refine yaD.trans (vB.cons _ ?_)
   rw [wN]
  refine h2 _ tk (t.put j).1 (L.take (t.put j).2++(c,a)::L.drop (t.put j).2) hm hsb ⟨{o with data:=.set (esP (L.take (t.put j).2++(c,a)::L.drop (t.put j).2)) (ep+1) (t.put j).1},ep+1,?_,hex,rfl,?_,?_⟩ hperm
  ·have:=vJ (vN (esP (L.take (t.put j).2++(c,a)::L.drop (t.put j).2)) (t.put j).1) ho (by rw [putSet_of _ _ hd];rfl)
   rw [putSet_of _ _ hd] at this
   exact this
  ·have e2:zkb (t,L.map yZ) c j=((t.put j).1,(L.take (t.put j).2++(c,a)::L.drop (t.put j).2).map yZ):=by
    simp [zkb,wB,wT]
   rw [← e2]
   exact qU.mp hin
  ·intro p hp
   rcases yO.mp (hperm.mem_iff.mp hp) with rfl | hp'
   ·exact ⟨hc,ziV hk ho hex hsb⟩
   ·exact ⟨(hall p hp').1,ziV (hall p hp').2 ho hex hsb⟩
end
noncomputable def GotP (L xs:List (Nat×Addr)):Prop:=(∀ p∈L,p∈xs)∧(∀ x∈xs,x.1∈L.map yZ)∧(L.map yZ).Nodup
theorem GotP.nil:GotP [] []:=⟨fun _ h=>h,fun _ h=>(qJ h).elim,xG⟩
theorem GotP.old {L xs:List (Nat×Addr)}{x:Nat×Addr}(h:GotP L xs)(hm:x.1∈L.map yZ):GotP L (xs++ [x]):=by
 refine ⟨fun p hp=>jS _ (h.1 p hp),fun y hy=>?_,h.2.2⟩
 rcases yP.mp hy with hy | hy
 ·exact h.2.1 y hy
 ·rw [yF.mp hy];exact hm
theorem GotP.new {L L' xs:List (Nat×Addr)}{x:Nat×Addr}(h:GotP L xs)(hm:x.1∉L.map yZ)(p:vB L' (x::L)):GotP L' (xs++ [x]):=by
 refine ⟨fun q hq=>?_,fun y hy=>?_,?_⟩
 ·rcases yO.mp (p.mem_iff.mp hq) with rfl | hq
  ·exact jG _ (yF.mpr rfl)
  ·exact jS _ (h.1 q hq)
 ·refine (p.map yZ).mem_iff.mpr ?_
  rcases yP.mp hy with hy | hy
  ·exact jK _ (h.2.1 y hy)
  ·rw [yF.mp hy];exact jP
 ·exact (p.map yZ).nodup_iff.mpr (jV.mpr ⟨hm,h.2.2⟩)
section
variable {prog:Program} {w:World}
theorem zeA.keep {h h':Heap}{I S:Addr}{led:Bool}{t:SetTable}{L:List (Nat×Addr)}(hm:zeA prog w h S led t L)(hS:S≠I)(hI:∃ oi,h.get? I=some oi∧oi.cls≠.type "tuple")
  (hk:∀ b o,b≠I→h.get? b=some o→h'.get? b=some o):zeA prog w h' S led t L:=by
 obtain ⟨o,ep,ho,hex,hd,htab,hall⟩:=hm
 obtain ⟨oi,e1,e2⟩:=hI
 refine ⟨o,ep,hk _ _ hS ho,hex,hd,htab,fun p hp=>⟨(hall p hp).1,?_⟩⟩
 obtain ⟨o',it,n,e,c,r⟩:=(hall p hp).2
 refine ⟨o',it,n,hk _ _ (fun z=>?_) e,c,r⟩
 rw [z,e1] at e
 cases e
 exact e2 c
end
section
variable {prog:Program} {w:World} {A:Around} {R:Result→Shared→Prop}
theorem zfk {S I l:Addr}{items:Array Value}{h0:Heap}{xs:List (Nat×Addr)}{led:Bool}(hA:A.in1.handled=none)(hu:A.in1.units < cLine)(hlI:l≠I)(hSI:S≠I)(hSl:S≠l)
  (hS0:h0.get? S=none) (hI0:h0.get? I=none)
  (good:∀ (i:Nat) (x:Nat×Addr),xs[i]? =some x→items[i]? =some (Value.ref x.2)∧x.1 < 4∧IsTupleKey (intKind prog w) h0 (zcU x.1) x.2) (hn:items.size=xs.length):
  ∀ (k i:Nat) (s:Shared) (t:SetTable) (L:List (Nat×Addr)),xs.length - i=k→i≤xs.length→s.heap.IsListIter I l i→s.heap.IsList l items→zeA prog w s.heap S led t L→GotP L (xs.take i)→
   (∀ b o,h0.get? b=some o→s.heap.get? b=some o)→
   (∀ h' tk t' L',zeA prog w h' S led t' L'→GotP L' xs→(∀ b o,h0.get? b=some o→h'.get? b=some o)→R (.ok (.ret .none)) {s with heap:=h',toks:=tk})→
   codeAny (model prog w) A (.builtin "set.update.loop" ⟨[.ref S,.ref I],[]⟩) R s:=by
 have W:=yb5 (prog:=prog) (w:=w) hA I l hlI items
 intro k
 induction k with
 | zero=>
  intro i s t L hk hi hit hl hm hg hkeep hR
  have hin:i=items.size:=by omega
  refine codeAny_builtin wY ?_
  rw [xB xL _]
  show wpAny _ A.in1 (pyNext (.ref I) >>=_) _ _ s
  refine yB (W.done s _ _ (by rw [← hin];exact ⟨hit,hl⟩) fun h' tk hk'=>?_)
  have hk2:∀ b o,b≠I→s.heap.get? b=some o→h'.get? b=some o:=fun b o hb e=>hk' b o (by simpa using hb) e
  have et:xs.take i=xs:=jR (by omega)
  rw [et] at hg
  obtain ⟨oi,ei,ec⟩:=zfq hit
  show wpAny _ A.in1 (ret Value.none) _ _ _
  exact yD (hR h' tk t L (hm.keep hSI ⟨oi,ei,by rw [ec];intro z;exact absurd (wE z) (by decide)⟩ hk2) hg fun b o e=>hk2 b o (fun z=>by rw [z,hI0] at e;cases e) (hkeep b o e))
 | succ k ih=>
  intro i s t L hk hi hit hl hm hg hkeep hR
  have hlt:i < xs.length:=by omega
  obtain ⟨hp,hc4,hkey⟩:=good i xs[i] (yC hlt)
  have htk:xs.take (i+1)=xs.take i++ [xs[i]]:=by rw [yV,yC hlt];rfl
  refine codeAny_builtin wY ?_
  rw [xB xL _]
  show wpAny _ A.in1 (pyNext (.ref I) >>=_) _ _ s
  refine yB (W.item i s _ _ (by omega) ⟨hit,hl⟩ fun v h' tk hP hst' hk'=>?_)
  rw [hp] at hP
  cases hP
  have hk2:∀ b o,b≠I→s.heap.get? b=some o→h'.get? b=some o:=fun b o hb e=>hk' b o (by simpa using hb) e
  have hkeep':∀ b o,h0.get? b=some o→h'.get? b=some o:=fun b o e=>hk2 b o (fun z=>by rw [z,hI0] at e;cases e) (hkeep b o e)
  obtain ⟨oi,ei,ec⟩:=zfq hit
  have hm':=hm.keep hSI ⟨oi,ei,by rw [ec];intro z;exact absurd (wE z) (by decide)⟩ hk2
  have hkey':IsTupleKey (intKind prog w) h' (zcU xs[i].1) xs[i].2:=by
   obtain ⟨o,it,n,e,r⟩:=hkey
   exact ⟨o,it,n,hkeep' _ _ e,r⟩
  show wpAny _ A.in1 (holding [Value.ref xs[i].2] (setAdd S (.ref xs[i].2)) >>=_) _ _ _
  refine yB (wpAny_holding (ziM (s:={s with heap:=h',toks:=tk}) hu hm' hc4 hkey' (fun tk' hmem=>?_) fun h2 tk' t' L' hmem hsb hm2 hperm=>?_))
  ·refine yD ⟨plainId_quiet xL _,ih (i+1) _ t L (by omega) (by omega) hst'.1 hst'.2 hm' ?_ hkeep' fun h3 tk3 t3 L3 a b c=>hR h3 tk3 t3 L3 a b c⟩
   rw [htk]
   exact hg.old hmem
  ·have hk3:∀ b o,b≠S→h'.get? b=some o→h2.get? b=some o:=fun b o hb e=>(hsb.2 b hb).trans e
   refine yD ⟨plainId_quiet xL _,ih (i+1) _ t' L' (by omega) (by omega) (hst'.1.at fun o e=>hk3 _ _ (xU hSI) e) (hst'.2.at fun o e=>hk3 _ _ (xU hSl) e) hm2 ?_ (fun b o e=>hk3 b o (fun z=>by rw [z,hS0] at e;cases e) (hkeep' b o e)) fun h3 tk3 t3 L3 a b c=>hR h3 tk3 t3 L3 a b c⟩
   rw [htk]
   exact hg.new hmem hperm
end
section
variable {prog:Program} {w:World} {A:Around} {E:Value→Shared→Prop} {s:Shared}
noncomputable def ze1 (w:World):Bool:=!w.params.followText "set-order"
theorem zhb (a:Value){Q₁ :Value→Shared→Prop}
  (h:Q₁ (.ref s.heap.objs.size) {s with heap:=s.heap.push {cls:=.type "set",dict:=none,data:=.set #[] 0 (.fresh 0 0 (ze1 w))}}):
  codeAny (model prog w) A (.call (.builtin "set.__new__") ⟨[.type "set",a],[]⟩) (wants Q₁ E) s:=by
 refine codeAny_of_tree ?_
 show wpAny _ A.in1 (do checkBuiltinCall "set.__new__" ⟨[.type "set",a],[]⟩;again (.builtin "set.__new__" ⟨[.type "set",a],[]⟩)) _ _ s
 refine yB (wpAny_of_eq (PySem.F.newCall_set_1 a) (yD ⟨plainId_quiet ybA _,codeAny_builtin PySem.F.entry_set_new ?_⟩))
 rw [xB ybA _]
 unfold Builtin.«set.__new__» Builtin.Frozenset.newClass
 have hsub:=sub_set_self
 obtain ⟨hp,g,d,tk,os⟩:=s
 dsimp only
 wp_walk
 refine wpAny_askSetting (yD ?_)
 dsimp only
 simp only [newObj]
 refine yB (wpAny_alloc (yD ?_))
 exact yD h
set_option maxRecDepth 100000 in
set_option maxHeartbeats 3200000 in
theorem zgB {l:Addr}{items:Array Value}{xs:List (Nat×Addr)}{Q:Value→Shared→Prop}
  (hh:A.handled=none) (hu:A.units+64 < cLine) (hl:s.heap.IsList l items)
  (good:∀ (i:Nat) (x:Nat×Addr),xs[i]? =some x→items[i]? =some (Value.ref x.2)∧x.1 < 4∧IsTupleKey (intKind prog w) s.heap (zcU x.1) x.2) (hn:items.size=xs.length)
  (h:∀ h' tk t' L',zeA prog w h' s.heap.objs.size (ze1 w) t' L'→GotP L' xs→(∀ b o,s.heap.get? b=some o→h'.get? b=some o)→Q (.ref s.heap.objs.size) {s with heap:=h',toks:=tk}):
  wpAny (model prog w) A (call (.type "set") [.ref l]) Q E s:=by
 obtain ⟨c,tl,hmro⟩:=qZ.mro
 have hmade:=qZ.made
 have hsub:=qZ.sub
 refine wpAny_call (codeAny_of_tree ?_)
 show wpAny _ _ (callAny (.type "set") _) _ _ _
 refine yD ⟨yaZ _ (by decide+kernel),codeAny_builtin ybi ?_⟩
 rw [ybW (weight_type_call_type "set" [.ref l] []) rfl]
 have h1:=qZ.notType
 have h2:=qZ.canCreate
 have hct:=ybq (.ref l)
 repeat (any_goals (first | assumption | wp_step))
 refine codeAny_mono (zhb (.ref l) (E:=E) (Q₁ :=fun obj s₁ =>obj= .ref s.heap.objs.size∧s₁ = {s with heap:=s.heap.push {cls:=.type "set",dict:=none,data:=.set #[] 0 (.fresh 0 0 (ze1 w))}}) ⟨rfl,rfl⟩) fun r s₁ hr=>?_
 cases r with
 | error e=>exact hr
 | ok fl=>
  cases fl with
  | ret obj=>
   obtain ⟨rfl,rfl⟩:=hr
   generalize hled:ze1 w=led at h ⊢
   have hS:(s.heap.push {cls:=.type "set",dict:=none,data:=.set #[] 0 (.fresh 0 0 led)}).get? s.heap.objs.size=some {cls:=.type "set",dict:=none,data:=.set #[] 0 (.fresh 0 0 led)}:=yW _ rfl
   have hT:yaI {s with heap:=s.heap.push {cls:=.type "set",dict:=none,data:=.set #[] 0 (.fresh 0 0 led)}} (.ref s.heap.objs.size) "set" :=⟨_,hS,rfl⟩
   have hli:=qZ.init.lookup
   have hbi:=qZ.init.bind (.ref s.heap.objs.size)
   repeat (any_goals (first | assumption | wp_step))
   refine codeAny_mono (codeAny_call_builtin (R:=wants (fun r s₂ =>r= .none∧∃ h' tk t' L',s₂ = {s with heap:=h',toks:=tk}∧
     zeA prog w h' s.heap.objs.size led t' L'∧GotP L' xs∧
     (∀ b o,s.heap.get? b=some o→h'.get? b=some o)) E) qZ.init.plain ybr (check_set_init_1 hT ?_)) fun r₂ s₂ hr₂ =>?_
   ·obtain ⟨ol,hol,hcl,nl,hdl⟩:=hl
    obtain ⟨ocls,odict,odata,oslots⟩:=ol
    simp only at hcl hdl
    subst hcl;subst hdl
    have hol':(s.heap.push {cls:=.type "set",dict:=none,data:=.set #[] 0 (.fresh 0 0 led)}).get? l=some {cls:=.type "list",dict:=odict,data:=.seq items nl,slots:=oslots}:=yH _ hol
    have hsls:=ybI
    have hslf:=yaS
    have hne:(Value.type "list" ==Value.type "dict")=false:=by decide
    have hl1:(s.heap.push {cls:=.type "set",dict:=none,data:=.set #[] 0 (.fresh 0 0 led)}).IsList l items:=⟨_,hol',rfl,nl,rfl⟩
    unfold Builtin.«set.__init__» noKeywords yaJ
    generalize hPI:pyIter=PI
    wp_walk
    subst hPI
    refine wpAny_pyIter_list hl1 ?_
    refine yB (wpAny_runValue ?_)
    have hlS:l < s.heap.objs.size:=yU hol
    have hh3:A.in1.in1.in1.handled=none:=by simp [hh]
    have hneI:l≠(s.heap.push {cls:=.type "set",dict:=none,data:=.set #[] 0 (.fresh 0 0 led)}).objs.size:=by
     rw [xR];exact qC (yat hlS)
    refine zfk (h0:=s.heap) (xs:=xs) (led:=led) hh3 ?hu3 hneI ?hSI (yae hlS) ?hS0 ?hI0 good hn (xs.length - 0) 0 _ (.fresh 0 0 led) [] (by omega) (qN _)
     ⟨_,yW _ rfl,rfl,rfl⟩ (hl1.push _) ?hP ?hG ?hK ?hR
    case hu3=>exact (show A.units+1+1+1 < cLine by omega)
    case hSI=>rw [xR];exact qC (yaa _)
    case hS0=>
     cases hq:s.heap.get? s.heap.objs.size with
     | none=>rfl
     | some o'=>exact absurd (yU hq) (vE _)
    case hI0=>
     cases hq:s.heap.get? (s.heap.push {cls:=.type "set",dict:=none,data:=.set #[] 0 (.fresh 0 0 led)}).objs.size with
     | none=>rfl
     | some o'=>
      have:=yU hq
      rw [xR] at this
      exact absurd (Nat.lt_of_succ_lt this) (vE _)
    case hP=>
     refine ⟨_,0,yH _ hS,⟨rfl,rfl,rfl⟩,rfl,?_,fun p hp=>(qJ hp).elim⟩
     show _∈zdL led
     exact jS _ (jS _ (jS _ (jS _ (yF.mpr rfl))))
    case hG=>exact GotP.nil
    case hK=>exact fun b o e=>yH _ (yH _ e)
    case hR=>
     intro h' tk' t' L' hP hG hK
     show wpAny _ _ _ _ _ _
     refine yD ?_
     show wpAny _ _ (ret Value.none) _ _ _
     exact yD ⟨rfl,h',tk',t',L',rfl,hP,hG,hK⟩
   ·cases r₂ with
    | error e=>exact hr₂
    | ok fl₂ =>
     cases fl₂ with
     | ret r=>
      obtain ⟨rfl,h',tk,t',L',rfl,hP,hG,hK⟩:=hr₂
      repeat (any_goals (first | assumption | wp_step))
      exact h _ _ _ _ hP hG hK
     | _=>exact hr₂.elim
  | _=>exact hr.elim
end
theorem zaV:Slot "set_iterator" "__next__" "set_iterator.__next__" :=
 .of (owner:="set_iterator") (n:="__next__") (by rw [typeLookup_type,builtinLookup_eq_fast];kernel_rfl) (by decide+kernel) (by decide+kernel) (by decide+kernel)
  (by first | exact .inl (by decide+kernel) | exact .inr (by decide+kernel)) (by rw [isSubtype_type];kernel_rfl)
theorem zc4:Slot "set_iterator" "__iter__" "set_iterator.__iter__" :=
 .of (owner:="set_iterator") (n:="__iter__") (by rw [typeLookup_type,builtinLookup_eq_fast];kernel_rfl) (by decide+kernel) (by decide+kernel) (by decide+kernel)
  (by first | exact .inl (by decide+kernel) | exact .inr (by decide+kernel)) (by rw [isSubtype_type];kernel_rfl)
theorem zcS:entryFor table "set_iterator.__next__" =some Builtin.«set_iterator.__next__» :=entryFor_of_fast (by kernel_rfl)
theorem zeB:entryFor table "set_iterator.__iter__" =some Builtin.«dict_keyiterator.__iter__» :=
 entryFor_alias (id':="dict_keyiterator.__iter__") (by kernel_rfl) rfl (by decide+kernel) (by kernel_rfl)
theorem zcY (a:Value):argsOk "set_iterator.__next__" ⟨[a],[]⟩:=by unfold argsOk;kernel_rfl
theorem ze4 (a:Value):argsOk "set_iterator.__iter__" ⟨[a],[]⟩:=by unfold argsOk;kernel_rfl
theorem zgC:entryFor table "set.__iter__" =some Builtin.«frozenset.__iter__» :=
 entryFor_alias (id':="frozenset.__iter__") (by kernel_rfl) rfl (by decide+kernel) (by kernel_rfl)
noncomputable def zhv (te:SetTable×List Nat):Bool:=
 (xM te.1.place 0==0) && (qI te.2.length).all fun i=>match te.1.place[i]? with
  | some j=>xM te.1.place (j+1)==i+1
  | none=>false
theorem zlR:([true,false].all fun led=>(zdL led).all zhv)=true:=by decide+kernel
theorem zkn {led:Bool}{te:SetTable×List Nat}(h:te∈zdL led):zhv te=true:=
 yX.mp (yX.mp zlR led (by cases led <;> simp)) te h
theorem zlz {α :Type}(next:Nat→Nat):∀ (n k:Nat) (left:List α) (out:Array α),left.length=n→vB (pickOrder.go next n k left out).toList (out.toList++left)
 | 0,k,left,out,h=>by
  have:left= []:=wA.mp h
  subst this
  show vB out.toList _
  rw [vQ]
 | n+1,k,left,out,h=>by
  have hlt:next k % left.length < left.length:=yau _ (by omega)
  show vB (match left[next k % left.length]? with
   | some x=>pickOrder.go next n (k+1) (left.eraseIdx (next k % left.length)) (out.push x)
   | none=>out).toList _
  rw [yC hlt]
  refine (zlz next n (k+1) _ _ (by rw [List.length_eraseIdx_of_lt hlt];omega)).trans ?_
  rw [Array.toList_push,jH]
  refine vB.append_left _ ?_
  rw [List.eraseIdx_eq_take_drop_succ]
  have e:left=left.take (next k % left.length)++left[next k % left.length]::left.drop (next k % left.length+1):=by
   rw [← ya4 hlt,wN]
  exact (yaD (l₁ :=left.take (next k % left.length))).symm.trans (vB.of_eq e.symm)
theorem zmh {α :Type}(next:Nat→Nat)(xs:Array α):vB (pickOrder next xs).toList xs.toList:=by
 have:=zlz next xs.size 0 xs.toList #[] (by simp)
 simpa [pickOrder] using this
noncomputable def zdD (w:World) (S:Addr) (ep:Nat) (L:List (Nat×Addr)):List Value:=
 if w.params.followText "set-order" =true then (pickOrder (w.params.setOrder S ep) (esP L)).toList.map (·.2) else L.map fun p=>Value.ref p.2
theorem zgS (w:World)(S:Addr)(ep:Nat)(L:List (Nat×Addr)):vB (zdD w S ep L) (L.map fun p=>Value.ref p.2):=by
 unfold zdD
 split
 ·refine ((zmh _ (esP L)).map _).trans ?_
  simp [esP,entP,Function.comp_def]
 ·exact .rfl
noncomputable def zfD (w:World) (h:Heap) (I S:Addr) (ep:Nat) (t:SetTable) (L:List (Nat×Addr)) (i:Nat):Prop:=
 ∃ (o oS:Obj) (slot:Nat),h.get? I=some o∧o.cls= .type "set_iterator"∧o.data= .fields #[.int slot 0,.int i 0,.ref S,.int (L.length:Nat) 0,.int ep 0]∧(w.params.followText "set-order" =false→xM t.place slot=i)∧
  h.get? S=some oS∧oS.data= .set (esP L) ep t
section
variable {prog:Program} {w:World} {A:Around} {E:Value→Shared→Prop} {s:Shared}
theorem zhm {Q:Bool→Shared→Prop}(h:Q (w.params.followText "set-order") s):wpAny (model prog w) A setsByText Q E s:=by
 unfold setsByText
 exact yB (wpAny_askSetting (yD h))
theorem zol {S:Addr}{ep slot i:Nat}{t:SetTable}{L:List (Nat×Addr)}{led:Bool}{o:Obj}{Q:Option (Value×Nat)→Shared→Prop}(ho:s.heap.get? S=some o)(hd:o.data= .set (esP L) ep t)(htab:(t,L.map yZ)∈zdL led)
  (hled:led=ze1 w) (hb:w.params.followText "set-order" =false→xM t.place slot=i)
  (h1:∀ v nx,(zdD w S ep L)[i]? =some v→xM t.place nx=i+1→w.params.followText "set-order" =false→Q (some (v,nx)) s)
  (h2:∀ v,(zdD w S ep L)[i]? =some v→w.params.followText "set-order" =true→Q (some (v,slot)) s)
  (h3:(zdD w S ep L)[i]? =none→Q none s):
  wpAny (model prog w) A (setNext S slot i ep) Q E s:=by
 have good:=zfa htab (c:=0) (by omega)
 simp only [zcX,qA,jT,beq_iff_eq,yA,decide_eq_true_eq] at good
 obtain ⟨⟨⟨⟨⟨hfit,hgw⟩,hpl⟩,hl⟩,hlen⟩,_⟩:=good
 have hf:t.fits (esP L).size=true:=by rw [zb1];exact hfit
 have hwk:=zkn htab
 simp only [zhv,qA,yA] at hwk
 unfold setNext
 refine yB (wpAny_setState_of ho hd hf ?_)
 dsimp only
 refine yB (zhm ?_)
 by_cases hx:w.params.followText "set-order" =true
 ·rw [hx]
  simp only [if_true]
  rw [if_neg (by simp)]
  refine yB ?_
  unfold setWalk
  refine yB (wpAny_setState_of ho hd hf ?_)
  dsimp only
  refine yB (zhm ?_)
  rw [hx]
  simp only [if_true]
  refine yB (wpAny_askSetting (yD ?_))
  have hv:(zdD w S ep L)[i]? =((pickOrder (w.params.setOrder S ep) (esP L))[i]?).map (·.2):=by
   unfold zdD
   rw [if_pos hx,yE,ybB]
  show wpAny _ _ (pure (((pickOrder (w.params.setOrder S ep) (esP L))[i]?).map fun e=>(e.2,slot))) _ _ _
  cases hq:(pickOrder (w.params.setOrder S ep) (esP L))[i]? with
  | none=>
   rw [hq] at hv
   exact yD (h3 hv)
  | some e=>
   rw [hq] at hv
   exact yD (h2 e.2 hv hx)
 ·have hx':w.params.followText "set-order" =false:=by simpa using hx
  rw [hx']
  simp only [yT,if_false]
  have hled':t.led=true:=by rw [hl,hled];unfold ze1;rw [hx'];rfl
  have hv:(zdD w S ep L)[i]? =(L[i]?).map fun p=>Value.ref p.2:=by
   unfold zdD
   rw [if_neg hx,yE]
  split
  ·rename_i hdr
   have hdr':(!t.plain && decide ((esP L).size > 1))=true:=hdr
   rw [hpl] at hdr'
   exact vU hdr'
  ·refine yB ?_
   show wpAny _ _ (if (!t.led && !(esP L).isEmpty)=true then unsupported "set:maker-not-led" else pure ()) _ _ _
   rw [hled']
   refine yD ?_
   rw [hb hx']
   cases hq:L[i]? with
   | none=>
    have e1:(esP L)[i]? =none:=by
     show ((L.map entP).toArray)[i]? =_
     rw [jN,yE,hq]
     rfl
    rw [hq] at hv
    rw [e1]
    exact yD (h3 hv)
   | some p=>
    have e1:(esP L)[i]? =some (zdC p.1,Value.ref p.2):=by
     show ((L.map entP).toArray)[i]? =_
     rw [jN,yE,hq]
     rfl
    have hi:i < L.length:=(yG.mp hq).1
    have hw2:=yX.mp hwk.2 i (qE.mpr hi)
    rw [hq] at hv
    rw [e1]
    cases hj:t.place[i]? with
    | none=>rw [hj] at hw2;exact vU hw2
    | some j=>
     rw [hj] at hw2
     exact yD (h1 _ (j+1) hv (eq_of_beq hw2) hx')
theorem zda {I S:Addr}{ep:Nat}{t:SetTable}{L:List (Nat×Addr)}{i:Nat}(h:zfD w s.heap I S ep t L i):s.TypeIs (.ref I) "set_iterator" :=by
 obtain ⟨o,oS,slot,ho,hc,_⟩:=h
 exact ⟨o,ho,hc⟩
theorem zmq (w:World)(S:Addr)(ep:Nat)(L:List (Nat×Addr)):(zdD w S ep L).length=L.length:=by
 rw [(zgS w S ep L).length_eq,yA]
theorem zhO {I S:Addr}{ep:Nat}{t:SetTable}{L:List (Nat×Addr)}{i:Nat}{v:Value}{Q:Option Value→Shared→Prop}(htab:(t,L.map yZ)∈zdL (ze1 w))(hIS:S≠I)(hit:zfD w s.heap I S ep t L i)
  (hv:(zdD w S ep L)[i]? =some v) (hQ:∀ h',zfD w h' I S ep t L (i+1)→jB I s.heap h'→Q (some v) {s with heap:=h'}):wpAny (model prog w) A (pyNext (.ref I)) Q E s:=by
 have hT:=zda hit
 obtain ⟨o,oS,slot,ho,hc,hd,hb,hoS,hdS⟩:=hit
 have good:=zfa htab (c:=0) (by omega)
 simp only [zcX,qA,jT,beq_iff_eq,yA,decide_eq_true_eq] at good
 have hf:t.fits (esP L).size=true:=by rw [zb1];exact good.1.1.1.1.1
 unfold pyNext
 refine yB (wpAny_attempt (wpAny_callSpecial?_slot (name:=yaV "__next__") hT zaV
  (wpAny_call_entry zaV hT zcS ?_ (zcY _))))
 unfold Builtin.«set_iterator.__next__»
 refine yB (yD ?_)
 refine yB (wpAny_fieldsOf ho hd ?_)
 dsimp only
 refine yB (wpAny_setEntries_of hoS hdS hf ?_)
 rw [if_neg (by rw [zb1];simp)]
 simp only [vO]
 have fin:∀ nx:Nat,(w.params.followText "set-order" =false→xM t.place nx=i+1)→wpAny (model prog w) A.in1 (do
    setField (Value.ref I) 0 (rawInt ↑nx)
    setField (Value.ref I) 1 (rawInt (↑i+1))
    ret v) (fun fin s'=>∃ v,fin=Fin.done (Flow.ret v)∧wpAny (model prog w) A (pure (some v)) Q E s') (fun e s'=>wpAny (model prog w) A (do
     let __do_lift ← isInstance e (Value.type "StopIteration")
     if __do_lift=true then pure none else throw e) Q E s') s:=by
  intro nx hnx
  refine yB (wpAny_setField ho hd (by simp) ?_)
  have ho2:=vJ (ybj (·.setIfInBounds 0 (rawInt (nx:Int)))) ho (ybC (yap hd _))
  have hd2:=yap hd (·.setIfInBounds 0 (rawInt (nx:Int)))
  refine yB (wpAny_setField ho2 hd2 (by simp) ?_)
  have ho3:=vJ (ybj (·.setIfInBounds 1 (rawInt ((i:Int)+1)))) ho2 (ybC (yap hd2 _))
  have hd3:=yap hd2 (·.setIfInBounds 1 (rawInt ((i:Int)+1)))
  have hsb:=(xP s.heap I (ybj (·.setIfInBounds 0 (rawInt (nx:Int))))).trans (xP _ I (ybj (·.setIfInBounds 1 (rawInt ((i:Int)+1)))))
  refine yD ⟨v,rfl,yD (hQ _ ⟨_,oS,nx,ho3,?_,?_,hnx,(hsb.2 S hIS).trans hoS,hdS⟩ hsb)⟩
  ·exact ((yb6 ..).trans (yb6 ..)).trans hc
  ·rw [hd3];simp [rawInt]
 refine yB (zol hoS hdS htab rfl hb (fun v' nx hv' hnx _=>?_) (fun v' hv' hx=>?_) fun hv'=>?_)
 ·rw [hv] at hv'
  cases hv'
  exact fin nx fun _=>hnx
 ·rw [hv] at hv'
  cases hv'
  exact fin slot fun z=>by rw [hx] at z;cases z
 ·rw [hv] at hv'
  cases hv'
theorem zi0 {I S:Addr}{ep:Nat}{t:SetTable}{L:List (Nat×Addr)}{i:Nat}{Q:Option Value→Shared→Prop}(hh:A.handled=none)(htab:(t,L.map yZ)∈zdL (ze1 w))(hit:zfD w s.heap I S ep t L i)
  (hv:(zdD w S ep L)[i]? =none) (hQ:∀ h',Heap.ExtBut I s.heap h'→Q none {s with heap:=h'}):wpAny (model prog w) A (pyNext (.ref I)) Q E s:=by
 have hT:=zda hit
 obtain ⟨o,oS,slot,ho,hc,hd,hb,hoS,hdS⟩:=hit
 have good:=zfa htab (c:=0) (by omega)
 simp only [zcX,qA,jT,beq_iff_eq,yA,decide_eq_true_eq] at good
 have hf:t.fits (esP L).size=true:=by rw [zb1];exact good.1.1.1.1.1
 unfold pyNext
 refine yB (wpAny_attempt (wpAny_callSpecial?_slot (name:=yaV "__next__") hT zaV
  (wpAny_call_entry zaV hT zcS ?_ (zcY _))))
 unfold Builtin.«set_iterator.__next__»
 refine yB (yD ?_)
 refine yB (wpAny_fieldsOf ho hd ?_)
 dsimp only
 refine yB (wpAny_setEntries_of hoS hdS hf ?_)
 rw [if_neg (by rw [zb1];simp)]
 simp only [vO]
 refine yB (zol hoS hdS htab rfl hb (fun v' nx hv' hnx _=>?_) (fun v' hv' hx=>?_) fun hv'=>?_)
 ·rw [hv] at hv'
  cases hv'
 ·rw [hv] at hv'
  cases hv'
 ·refine yB (wpAny_setField ho hd (by simp) ?_)
  show wpAny _ _ (newExc (.type "StopIteration") [] >>=_) _ _ _
  refine yB ?_
  simp only [newExc,newTuple]
  refine yB (wpAny_newObj_type ?_ (by size_fits))
  refine yB (m:=firstArgMember _ _) (wpAny_of_eq (a:=Value.none) (by first | rfl | (simp only [firstArgMember];rfl)) ?_)
  refine wpAny_newObj_type ?_ (by size_fits)
  simp only [raiseNew]
  refine yB (wpAny_handled ?_)
  rw [show A.in1.handled=none from hh]
  refine yB (yD (wpAny_throw ?_))
  refine yB (wpAny_isInstance (T:="StopIteration") (b:=true) ⟨_,yW _ rfl,rfl⟩ isSubtype_stop ?_)
  exact yD (hQ _ (((xP ..).extBut.push _).push _))
theorem ziH {I S:Addr}{ep:Nat}{t:SetTable}{L:List (Nat×Addr)}{i:Nat}{Q:Value→Shared→Prop}(hit:zfD w s.heap I S ep t L i)(h:Q (.ref I) s):
  wpAny (model prog w) A (pyIter (.ref I)) Q E s:=by
 refine wpAny_pyIter_slot (zda hit) zc4 (wpAny_call_entry zc4 (zda hit) zeB ?_ (ze4 _))
 show wpAny _ _ (ret (.ref I)) _ _ s
 exact yD ⟨_,rfl,"set_iterator",_,zda hit,zaV.lookup,h⟩
theorem zfD.at {h h':Heap}{I S:Addr}{ep:Nat}{t:SetTable}{L:List (Nat×Addr)}{i:Nat}(x:zfD w h I S ep t L i)(hI:∀ o,h.get? I=some o→h'.get? I=some o)(hS:∀ o,h.get? S=some o→h'.get? S=some o):zfD w h' I S ep t L i:=by
 obtain ⟨o,oS,slot,ho,hc,hd,hb,hoS,hdS⟩:=x
 exact ⟨o,oS,slot,hI _ ho,hc,hd,hb,hS _ hoS,hdS⟩
theorem zms (hh:A.handled=none)(I S:Addr)(hne:S≠I)(ep:Nat)(t:SetTable)(L:List (Nat×Addr))(htab:(t,L.map yZ)∈zdL (ze1 w)):
  Walks prog w A I [I,S] [I] (zdD w S ep L).length (fun i v=>(zdD w S ep L)[i]? =some v) (fun i h=>zfD w h I S ep t L i) where
 sub:=fun b hb=>by simp at hb;simp [hb]
 frame:=fun _ _ _ st hk=>st.at (fun o e=>hk I (by simp) o e) (fun o e=>hk S (by simp) o e)
 item:=fun i s Q E hi st hQ=>by
  refine zhO htab hne st (yC hi) fun h' hit' hs'=>?_
  exact hQ _ h' s.toks (yC hi) hit' fun b o hb e=>hs'.extBut b o (fun h=>hb (by simp [h])) e
 done:=fun s Q E st hQ=>zi0 hh htab st (vW (yN _)) fun h' he'=>hQ h' s.toks fun b o hb e=>he' b o (fun h=>hb (by simp [h])) e
 self:=fun _ _ _ _ st hQ=>ziH st hQ
end
theorem zkY:typeLookup (.type "set") "__len__" =pure (some (.builtin "set.__len__")):=by rw [typeLookup_type,builtinLookup_eq_fast];kernel_rfl
section
variable {prog:Program} {w:World} {A:Around} {E:Value→Shared→Prop} {s:Shared}
theorem znN {S:Addr}{t:SetTable}{L:List (Nat×Addr)}{Q:Value→Shared→Prop}(hS:zeA prog w s.heap S (ze1 w) t L)
  (h:∀ ep:Nat,zfD w (s.heap.push {cls:=.type "set_iterator",data:=.fields #[.int 0 0,.int 0 0,.ref S,.int (L.length:Nat) 0,.int ep 0]}) s.heap.objs.size S ep t L 0→
   Q (.ref s.heap.objs.size) {s with heap:=s.heap.push {cls:=.type "set_iterator",data:=.fields #[.int 0 0,.int 0 0,.ref S,.int (L.length:Nat) 0,.int ep 0]}}):
  wpAny (model prog w) A (pyIter (.ref S)) Q E s:=by
 obtain ⟨o,ep,ho,hex,hd,htab,hall⟩:=hS
 have good:=zfa htab (c:=0) (by omega)
 simp only [zcX,qA,jT,beq_iff_eq,yA,decide_eq_true_eq] at good
 have hf:t.fits (esP L).size=true:=by rw [zb1];exact good.1.1.1.1.1
 have hpl:=good.1.1.1.2
 have hwk:=zkn htab
 simp only [zhv,qA,beq_iff_eq] at hwk
 have hT:s.TypeIs (.ref S) "set" :=⟨o,ho,hex.1⟩
 refine wpAny_pyIter_slot hT ybD (wpAny_call_entry ybD hT zgC ?_ (PySem.F.args_set_iter_1 _))
 unfold Builtin.«frozenset.__iter__»
 refine yB (m:=Builtin.Frozenset.slot0 _ _) (yD ?_)
 refine yB ?_
 unfold Builtin.Frozenset.sizeOf
 refine yB (wpAny_setEntries_of ho hd hf (yD ?_))
 refine yB ?_
 unfold setDrawn
 refine yB (wpAny_setState_of ho hd hf ?_)
 refine yB (zhm (yD ?_))
 dsimp only
 split
 ·rename_i hdr
  exfalso
  have hdr':(!w.params.followText "set-order" && (!t.plain && decide ((esP L).size > 1)))=true:=hdr
  rw [hpl] at hdr'
  simp at hdr'
 ·refine yB (yD ?_)
  refine yB (wpAny_setEpoch_of ho hd hf ?_)
  rw [zb1]
  refine yB (wpAny_newObj_type (yD ⟨_,rfl,"set_iterator",_,⟨_,yW _ rfl,rfl⟩,zaV.lookup,?_⟩))
  exact h ep ⟨_,o,0,yW _ rfl,rfl,rfl,fun _=>hwk.1,yH _ ho,hd⟩
theorem zjs {S:Addr}{t:SetTable}{L:List (Nat×Addr)}{Q:List Value→Shared→Prop}(hh:A.handled=none)(hS:zeA prog w s.heap S (ze1 w) t L)
  (hQ:∀ s' vs,vB vs (L.map fun p=>Value.ref p.2)→Moved [] (fun a b=>b=a) s s'→Q vs s'):wpAny (model prog w) A (collect (.ref S)) Q E s:=by
 have hS0:=hS
 obtain ⟨o,ep0,ho,hex,hd,htab,hall⟩:=hS0
 have good:=zfa htab (c:=0) (by omega)
 simp only [zcX,qA,jT,beq_iff_eq,yA,decide_eq_true_eq] at good
 have hlt:S < s.heap.objs.size:=yU ho
 have hSD:s.heap.objs.size≠S:=yae hlt
 unfold collect
 refine yB (wpAny_runValue (codeAny_builtin PySem.F.entry_proto_collect ?_))
 rw [xB PySem.F.plain_proto_collect _]
 show wpAny _ A.in1 (newList [] >>=fun l=>again (.builtin "list.__iadd__" ⟨[l,.ref S],[]⟩)) _ _ s
 refine yB (wpAny_newObj_type ?_)
 refine yD ⟨plainId_quiet ybk _,codeAny_builtin PySem.F.entry_list_iadd ?_⟩
 rw [xB ybk _]
 have hS1:zeA prog w (s.heap.push {cls:=.type "list",data:=.seq ([]:List Value).toArray}) S (ze1 w) t L:=by
  refine ⟨o,ep0,yH _ ho,hex,hd,htab,fun p hp=>⟨(hall p hp).1,?_⟩⟩
  obtain ⟨o',it,n,e,r⟩:=(hall p hp).2
  exact ⟨o',it,n,yH _ e,r⟩
 have hT:∀ h',h'.get? S=some o→yaI {s with heap:=h'} (.ref S) "set" :=fun h' e=>⟨o,e,hex.1⟩
 show wpAny _ A.in1 (yaN (.ref s.heap.objs.size) (.ref S) (.ref s.heap.objs.size)) _ _ _
 unfold yaN
 have hoS1:(s.heap.push {cls:=.type "list",data:=.seq ([]:List Value).toArray}).get? S=some o:=yH _ ho
 refine yB (wpAny_typeOf (hT _ hoS1) ?_)
 have h1:ya8 (.ref s.heap.objs.size) (.ref S)=false:=by simp [ya8,hSD]
 have h2:(Value.type "set" ==Value.type "list")=false:=by decide
 have h3:(Value.type "set" ==Value.type "tuple")=false:=by decide
 simp only [h1,h2,h3,Bool.or_false,yT,if_false]
 refine yB (znN (s:={s with heap:=s.heap.push {cls:=.type "list",data:=.seq ([]:List Value).toArray}}) hS1 fun ep hit=>?_)
 refine yB (wpAny_holding ?_)
 unfold Builtin.List.listLengthHint
 dsimp only at hit ⊢
 have hoS2:=yH {cls:=.type "set_iterator",data:=.fields #[.int 0 0,.int 0 0,.ref S,.int (L.length:Nat) 0,.int ep 0]} hoS1
 refine yB (wpAny_specialOf (hT _ hoS2) zkY ?_)
 generalize hid:("set.__len__" :String)=id0
 wp_delta
 rw [show splitId id0=some ("set","__len__") from by subst hid;decide+kernel]
 subst hid
 refine yB (wpAny_isInstance (b:=true) (hT _ hoS2) sub_set_self ?_)
 rw [if_neg (show ¬((!true)=true) from yY)]
 rw [if_pos (by decide+kernel)]
 refine yB (wpAny_typeOf (hT _ hoS2) ?_)
 refine yD ?_
 rw [if_pos (by decide+kernel)]
 refine yB (wpAny_rule ?_)
 have hneI:S≠(s.heap.push {cls:=.type "list",data:=.seq ([]:List Value).toArray}).objs.size:=by
  rw [xR];exact qC (yat hlt)
 have hD1:(s.heap.push {cls:=.type "list",data:=.seq ([]:List Value).toArray}).get? s.heap.objs.size=some {cls:=.type "list",data:=.seq ([]:List Value).toArray}:=yW _ rfl
 have hDI:s.heap.objs.size≠(s.heap.push {cls:=.type "list",data:=.seq ([]:List Value).toArray}).objs.size:=by
  rw [xR];exact qC (yaa _)
 generalize hI:(s.heap.push {cls:=.type "list",data:=.seq ([]:List Value).toArray}).objs.size=I at hit hneI hDI ⊢
 have hD2:=yH {cls:=.type "set_iterator",data:=.fields #[.int 0 0,.int 0 0,.ref S,.int (L.length:Nat) 0,.int ep 0]} hD1
 generalize hH2:(s.heap.push {cls:=.type "list",data:=.seq ([]:List Value).toArray}).push {cls:=.type "set_iterator",data:=.fields #[.int 0 0,.int 0 0,.ref S,.int (L.length:Nat) 0,.int ep 0]}=H2 at hit hD2 hoS2 ⊢
 have keep2:∀ b ob,s.heap.get? b=some ob→H2.get? b=some ob:=fun b ob e=>by rw [← hH2];exact yH _ (yH _ e)
 refine yB ?_
 show wpAny _ A.in1 (updateSeq s.heap.objs.size (·.push .none) >>=fun _=>updateSeq s.heap.objs.size (·.pop)) _ _ _
 refine yB (wpAny_updateSeq hD2 rfl ?_)
 have hD3:=vJ (vD (·.push Value.none)) hD2 rfl
 refine wpAny_updateSeq hD3 rfl ?_
 have hD4:=vJ (vD (·.pop)) hD3 rfl
 have oth:∀ b o,b≠s.heap.objs.size→H2.get? b=some o→((H2.update s.heap.objs.size (vD (·.push Value.none))).update s.heap.objs.size (vD (·.pop))).get? b=some o:=
  fun b o hb e=>(vA _ _ (xU hb)).trans ((vA _ _ (xU hb)).trans e)
 have hit4:zfD w ((H2.update s.heap.objs.size (vD (·.push Value.none))).update s.heap.objs.size (vD (·.pop))) I S ep t L 0:=
  hit.at (fun o e=>oth I o (xU hDI) e) (fun o e=>oth S o (xU hSD) e)
 have hh3:A.in1.in1.handled=none:=by simp [hh]
 have W:=(zms (prog:=prog) (w:=w) (A:=A.in1) (by simp [hh]) I S hneI ep t L htab).toS
 have hlen4:(zdD w S ep L).length≤yL:=by rw [zmq,sizeLine_eq];have:=good.1.2;omega
 refine yD ⟨plainId_quiet PySem.F.plain_extend_loop _,codeAny_extend_loopS W hlen4 s.heap.objs.size (by simp only [yO,qJ,or_false,not_or];exact ⟨hDI,hSD⟩) _ (zdD w S ep L).length 0 _ _ _ rfl (qN _) hit4 hD4 (ItemsOf.nil _) fun s' acc' c' hm hS' hacc=>?_⟩
 show wpAny _ A (load s.heap.objs.size >>=_) _ _ s'
 refine yB (wpAny_load hS' ?_)
 have eacc:acc'.toList=zdD w S ep L:=by
  refine xH fun j=>?_
  by_cases hj:j < (zdD w S ep L).length
  ·have hj2:j < acc'.size:=by rw [hacc.1];exact hj
   have:=hacc.2 j acc'[j] (xN hj2)
   rw [ybB,xN hj2,this]
  ·exact (vW (by rw [kY,hacc.1];omega)).trans (vW (by omega)).symm
 refine yD (hQ s' acc'.toList (by rw [eacc];exact zgS w S ep L) ⟨fun b ob _ e=>?_,hm.gens,hm.drawn,hm.os,hm.toks⟩)
 have hb:b < s.heap.objs.size:=yU e
 have hb1:b≠s.heap.objs.size:=qC hb
 refine hm.heap b ob ?_ (oth b ob hb1 (keep2 b ob e))
 simp only [yO,qJ,or_false,not_or]
 refine ⟨hb1,?_⟩
 rw [← hI,xR]
 exact qC (yat hb)
end
noncomputable def zg1 {α :Type} (o:Nat→Nat→Bool):PySem.W.KasT α→α
 | .ret a=>a
 | .ask i j k=>zg1 o (k (o i j))
noncomputable def zl6 {α :Type} (n:Nat) (o:Nat→Nat→Bool):PySem.W.KasT α→Bool
 | .ret _=>true
 | .ask i j k=>decide (i < n) && decide (j < n) && zl6 n o (k (o i j))
theorem ziZ {α :Type}{n:Nat}{o:Nat→Nat→Bool}{cmp:Nat→Nat→(Bool→Shared→Prop)→Shared→Prop}{Q: α→Shared→Prop}{s:Shared}
  (hc:∀ i j (C:Bool→Shared→Prop),i < n→j < n→C (o i j) s→cmp i j C s):∀ t:PySem.W.KasT α,zl6 n o t=true→Q (zg1 o t) s→t.kasWp cmp Q s
 | .ret _,_,h=>h
 | .ask i j k,hk,h=>by
  simp only [zl6,qA,decide_eq_true_eq] at hk
  exact hc i j _ hk.1.1 hk.1.2 (ziZ hc (k (o i j)) hk.2 h)
noncomputable def zeP (cs:List Nat) (i j:Nat):Bool:=decide (cs.getD i 0 < cs.getD j 0)
noncomputable def zfb (cs:List Nat):List Nat:=(zg1 (zeP cs) (PySem.W.kas_sort cs.length)).toList
noncomputable def zeG (cs:List Nat):Bool:=!decide cs.Nodup || (zl6 cs.length (zeP cs) (PySem.W.kas_sort cs.length) && (zfb cs).all (fun i=>decide (i < cs.length)) && decide ((zfb cs).map (fun i=>cs.getD i 0)= [0,1,2,3].filter fun c=>cs.contains c))
theorem sort2:((qI 4).all fun a=>(qI 4).all fun b=>zeG [a,b])=true:=by decide+kernel
theorem sort3:((qI 4).all fun a=>(qI 4).all fun b=>(qI 4).all fun c=>zeG [a,b,c])=true:=by decide+kernel
theorem sort4:((qI 4).all fun a=>(qI 4).all fun b=>(qI 4).all fun c=>(qI 4).all fun d=>zeG [a,b,c,d])=true:=by decide+kernel
theorem zmi {cs:List Nat}(h4:∀ c∈cs,c < 4)(hn:cs.Nodup)(hl:cs.length≤4)(h2: 2≤cs.length):
  zl6 cs.length (zeP cs) (PySem.W.kas_sort cs.length)=true∧(∀ i∈zfb cs,i < cs.length)∧(zfb cs).map (fun i=>cs.getD i 0)= [0,1,2,3].filter fun c=>cs.contains c:=by
 have key:zeG cs=true:=by
  match cs,hl,h2,h4 with
  | [a,b],_,_,h4=>
   exact yX.mp (yX.mp sort2 a (qE.mpr (h4 a (by simp)))) b (qE.mpr (h4 b (by simp)))
  | [a,b,c],_,_,h4=>
   exact yX.mp (yX.mp (yX.mp sort3 a (qE.mpr (h4 a (by simp)))) b (qE.mpr (h4 b (by simp)))) c (qE.mpr (h4 c (by simp)))
  | [a,b,c,d],_,_,h4=>
   exact yX.mp (yX.mp (yX.mp (yX.mp sort4 a (qE.mpr (h4 a (by simp)))) b (qE.mpr (h4 b (by simp)))) c (qE.mpr (h4 c (by simp)))) d (qE.mpr (h4 d (by simp)))
 simp only [zeG,Bool.or_eq_true,qA,jT,decide_eq_false_iff_not,decide_eq_true_eq] at key
 rcases key with key | key
 ·exact absurd hn key
 ·exact ⟨key.1.1,fun i hi=>of_decide_eq_true (yX.mp key.1.2 i hi),key.2⟩
theorem zfP {α β :Type}{f: α→β}:∀ {vs:List β} {l:List α},vB vs (l.map f)→∃ l2,vB l2 l∧l2.map f=vs
 | [],l,h=>by
  have:l= []:=List.map_eq_nil_iff.mp (List.nil_perm.mp h)
  exact ⟨[],by rw [this],rfl⟩
 | v::r,l,h=>by
  obtain ⟨x,hx,hv⟩:=yS.mp (h.mem_iff.mp (jP (a:=v) (l:=r)))
  obtain ⟨a,b,rfl⟩:=List.append_of_mem hx
  have h2:vB (v::r) (v::((a++b).map f)):=by
   refine h.trans ?_
   rw [yM,qW,hv,yM]
   exact yaD
  obtain ⟨l2,p2,e2⟩:=zfP (l:=a++b) (vB.cons_inv h2)
  refine ⟨x::l2,(vB.cons x p2).trans yaD.symm,?_⟩
  rw [qW,hv,e2]
section
variable {prog:Program} {w:World} {A:Around} {E:Value→Shared→Prop} {s:Shared}
theorem zeR {h:Heap}{c:Nat}{a:Addr}(hk:IsTupleKey (intKind prog w) h (zcU c) a):∃ o n t u,h.get? a=some o∧o.cls= .type "tuple"∧o.data= .seq #[Value.int ((c / 2:Nat):Int) t,Value.int ((c % 2:Nat):Int) u] n:=by
 obtain ⟨o,items,n,ho,hc,hd,hi⟩:=hk
 obtain ⟨l⟩:=items
 change ya3 (intKind prog w) (zcU c) l at hi
 cases hi with
 | cons h1 h2=>
  cases h2 with
  | cons h3 h4=>
   cases h4
   obtain ⟨t,rfl⟩:=yas h1
   obtain ⟨u,rfl⟩:=yas h3
   exact ⟨o,n,t,u,ho,hc,hd⟩
theorem znS {c d:Nat}{a b:Addr}{Q:Bool→Shared→Prop}(hc:c < 4)(hd:d < 4)(ha:IsTupleKey (intKind prog w) s.heap (zcU c) a)(hb:IsTupleKey (intKind prog w) s.heap (zcU d) b)(h:Q (decide (c < d)) s):
  wpAny (model prog w) A (keyLt' (tuples' true) (.ref a) (.ref b)) Q E s:=by
 obtain ⟨oa,na,t1,u1,ho1,_,hd1⟩:=zeR ha
 obtain ⟨ob,nb,t2,u2,ho2,_,hd2⟩:=zeR hb
 refine PySem.W.kat_lt ho1 hd1 ho2 hd2 ?_
 refine PySem.W.kat_cons (wpAny_eqBool_int (PySem.W.kat_go (fun e=>?_) fun e=>?_))
 ·have e1:=of_decide_eq_true e
  refine PySem.W.kat_yes (PySem.W.kat_cons (wpAny_eqBool_int (PySem.W.kat_go (fun e'=>?_) fun e'=>?_)))
  ·have e2:=of_decide_eq_true e'
   refine PySem.W.kat_yes (PySem.W.kat_nil ?_)
   have:¬c < d:=by omega
   rw [decide_eq_false this] at h
   exact h
  ·have e2:=of_decide_eq_false e'
   refine PySem.W.kat_no ?_
   refine PySem.W.kat_one _ _ (wpAny_lt_int ?_)
   have:decide (((c % 2:Nat):Int) < ((d % 2:Nat):Int))=decide (c < d):=by
    by_cases z:c < d
    ·rw [decide_eq_true z];exact decide_eq_true (by omega)
    ·rw [decide_eq_false z];exact decide_eq_false (by omega)
   rw [this]
   exact h
 ·have e1:=of_decide_eq_false e
  refine PySem.W.kat_no ?_
  refine oneLt_int ?_
  have:decide (((c / 2:Nat):Int) < ((d / 2:Nat):Int))=decide (c < d):=by
   by_cases z:c < d
   ·rw [decide_eq_true z];exact decide_eq_true (by omega)
   ·rw [decide_eq_false z];exact decide_eq_false (by omega)
  rw [this]
  exact h
end
noncomputable abbrev zbm (L:List (Nat×Addr)):List Value:=L.map fun p=>Value.ref p.2
noncomputable def zaY (cs:List Nat):List Nat:=[0,1,2,3].filter fun c=>cs.contains c
section
variable {prog:Program} {w:World} {A:Around} {E:Value→Shared→Prop} {s:Shared}
theorem zlH {h:Heap}:∀ {L:List (Nat×Addr)},(∀ p∈L,p.1 < 4∧IsTupleKey (intKind prog w) h (zcU p.1) p.2)→∃ fs,PySem.W.KatTups h (zbm L) fs∧fs.length=L.length∧∀ v∈fs,∃ x t,v=Value.int x t
 | [],_=>⟨[],trivial,rfl,fun _ h=>(qJ h).elim⟩
 | p::r,hk=>by
  obtain ⟨fs,k1,k2,k3⟩:=zlH (L:=r) fun q hq=>hk q (jK _ hq)
  obtain ⟨o,n,t,u,ho,hc,hd⟩:=zeR (hk p jP).2
  refine ⟨Value.int ((p.1 / 2:Nat):Int) t::fs,PySem.W.KatTups.cons ho hc hd rfl k1,by rw [qP,qP,k2],fun v hv=>?_⟩
  rcases yO.mp hv with rfl | hv
  ·exact ⟨_,_,rfl⟩
  ·exact k3 v hv
theorem zjy {c:Nat}(h:c < 4):zaY [c]= [c]:=by
 have:c=0∨c=1∨c=2∨c=3:=by omega
 rcases this with rfl | rfl | rfl | rfl <;> rfl
theorem zgp {a:Addr}{L:List (Nat×Addr)}{n:Nat}{P:PySem.Fin→Shared→Prop}(ho:s.heap.get? a=some (seqObj "list" (zbm L).toArray n))
  (hk:∀ p∈L,p.1 < 4∧IsTupleKey (intKind prog w) s.heap (zcU p.1) p.2) (hnd:(L.map yZ).Nodup) (hlen:L.length≤4)
  (h:∀ (L3:List (Nat×Addr)) h' n',L3.map yZ=zaY (L.map yZ)→(∀ p∈L3,p∈L)→h'.get? a=some (seqObj "list" (zbm L3).toArray n')→(∀ b o,b≠a→s.heap.get? b=some o→h'.get? b=some o)→P (.done (.ret .none)) {s with heap:=h'}):
  wpAny (model prog w) A (Builtin.«list.sort» ⟨[.ref a],[]⟩) P E s:=by
 rw [list_sort_plain]
 have ha:a < s.heap.objs.size:=yU ho
 have hl:(zbm L).length=L.length:=yA _
 have s1:=xP s.heap a (vD fun _=>(#[]:Array Value))
 refine yB (listItems_at ho rfl ?_)
 refine yB (listUpdate_at ho rfl ?_ (by rw [yQ,sizeLine_eq];omega) (qN _))
 obtain ⟨e1,ho1⟩:∃ e1,(s.heap.update a (vD fun _=>#[])).get? a=some (seqObj "list" #[] e1):=⟨_,get?_update_seq ho (fun _=>#[])⟩
 refine yB (seqEpoch_at ho1 rfl ?_)
 refine yB (wpAny_newTuple ?_ (by show (zbm L).length≤_;rw [sizeLine_eq];omega))
 refine yB (wpAny_newList ?_ (qN _))
 refine wpAny_holding ?_
 have keep3:∀ b o,(s.heap.update a (vD fun _=>(#[]:Array Value))).get? b=some o→(((s.heap.update a (vD fun _=>(#[]:Array Value))).push (seqObj "tuple" (zbm L).toArray 0)).push (seqObj "list" #[] 0)).get? b=some o:=
  fun b o e=>yH _ (yH _ e)
 show wpAny (model prog w) A _ P E {s with heap:=((s.heap.update a (vD fun _=>(#[]:Array Value))).push (seqObj "tuple" (zbm L).toArray 0)).push (seqObj "list" #[] 0)}
 have ho3:=keep3 a _ ho1
 generalize ((s.heap.update a (vD fun _=>(#[]:Array Value))).push (seqObj "tuple" (zbm L).toArray 0)).push (seqObj "list" #[] 0)=H3 at keep3 ho3 ⊢
 have keepH:∀ b o,b≠a→s.heap.get? b=some o→H3.get? b=some o:=fun b o hb e=>keep3 b o ((s1.2 b hb).trans e)
 dsimp only
 have fin:∀ (L3:List (Nat×Addr)),L3.map yZ=zaY (L.map yZ)→(∀ p∈L3,p∈L)→P (.done (.ret .none)) {s with heap:=H3.update a (vD fun _=>(zbm L3).toArray)}:=by
  intro L3 h1 h2
  obtain ⟨c2,hc2⟩:∃ c2,(H3.update a (vD fun _=>(zbm L3).toArray)).get? a=some (seqObj "list" (zbm L3).toArray c2):=⟨_,get?_update_seq ho3 fun _=>(zbm L3).toArray⟩
  exact h L3 _ c2 h1 h2 hc2 fun b o hb e=>(vA _ _ (xU hb)).trans (keepH b o hb e)
 by_cases h2:(zbm L).toArray.size < 2
 ·rw [if_pos h2,if_pos h2]
  refine yB (yD ?_)
  rw [StateT.run_pure]
  refine yB (yD ?_)
  dsimp only
  refine yB (seqEpoch_at (s:={s with heap:=H3}) ho3 rfl ?_)
  have hsame:(arrOf (SortSt.mk' general' ((zbm L).toArray.zip (zbm L).toArray) #[] 7 none)).map (·.2)=(zbm L).toArray:=by
   show ((zbm L).toArray.zip (zbm L).toArray).map (·.2)=_
   apply yaC.mp
   simp [List.map_snd_zip]
  rw [hsame]
  refine yB (listUpdate_at (s:={s with heap:=H3}) ho3 rfl ?_ (qN _) (by rw [yQ,sizeLine_eq];omega))
  simp only [bne_self_eq_false,yT,if_false]
  rw [yQ,hl] at h2
  refine yD (fin L ?_ fun p hp=>hp)
  match L,h2,hk with
  | [],_,_=>rfl
  | [p],_,hk=>exact (zjy (hk p (by simp)).1).symm
 ·rw [if_neg h2,if_neg h2]
  rw [yQ,hl] at h2
  have hk3:∀ p∈L,p.1 < 4∧IsTupleKey (intKind prog w) H3 (zcU p.1) p.2:=fun p hp=>by
   refine ⟨(hk p hp).1,?_⟩
   obtain ⟨o,it,m,e,c,r⟩:=(hk p hp).2
   refine ⟨o,it,m,keepH _ _ (fun z=>?_) e,c,r⟩
   rw [z,ho] at e
   cases e
   exact absurd (wE c) (by decide)
  obtain ⟨fs,k1,k2,k3⟩:=zlH hk3
  refine yB (PySem.W.kat_kind (T:=.type "int") k1 (by omega) (fun v hv=>?_) (by decide) ?_)
  ·obtain ⟨x,t,rfl⟩:=k3 v hv
   exact .now
  ·have hcs:∀ c∈L.map yZ,c < 4:=fun c hc=>by
    obtain ⟨p,hp,rfl⟩:=yS.mp hc
    exact (hk p hp).1
   obtain ⟨g1,g2,g3⟩:=zmi hcs hnd (by rw [yA];exact hlen) (by rw [yA];omega)
   rw [yA] at g1 g2
   have hget:∀ i,i < L.length→(zbm L).getD i Value.none=Value.ref (L.getD i (0,0)).2∧(L.map yZ).getD i 0=(L.getD i (0,0)).1∧L.getD i (0,0)∈L:=fun i hi=>by
    refine ⟨?_,?_,?_⟩
    ·simp [zbm,hi]
    ·simp [hi]
    ·simp [hi]
   have run:(PySem.W.kas_sort (zbm L).length).kasWp (PySem.W.kas_ask prog w A (tuples' (Value.type "int" !=Value.type "tuple")) (zbm L)) (fun p s'=>p=zg1 (zeP (L.map yZ)) (PySem.W.kas_sort L.length)∧s'= {s with heap:=H3}) {s with heap:=H3}:=by
    rw [hl]
    refine ziZ (n:=L.length) (o:=zeP (L.map yZ)) (fun i j C hi hj hC=>?_) _ g1 ⟨rfl,rfl⟩
    unfold PySem.W.kas_ask
    rw [(hget i hi).1,(hget j hj).1]
    rw [show (Value.type "int" !=Value.type "tuple")=true from by decide]
    refine znS (s:={s with heap:=H3}) (hk3 _ (hget i hi).2.2).1 (hk3 _ (hget j hj).2.2).1 (hk3 _ (hget i hi).2.2).2 (hk3 _ (hget j hj).2.2).2 ?_
    have e:zeP (L.map yZ) i j=decide ((L.getD i (0,0)).1 < (L.getD j (0,0)).1):=by
     unfold zeP
     rw [(hget i hi).2.1,(hget j hj).2.1]
    rw [← e]
    exact hC
   refine yB (wpAny_mono (PySem.W.kat_run (E:=E) (ks:=zbm L) (vs:=zbm L) (Q:=fun st' s'=>s'= {s with heap:=H3}∧failedOf st'=none∧arrOf st'=(zg1 (zeP (L.map yZ)) (PySem.W.kas_sort L.length)).map (PySem.W.kas_item ((zbm L).toArray.zip (zbm L).toArray)))
    rfl (by rw [hl];omega) (by rw [hl];omega) (fun p' st' s' a1 a2 a3 a4=>?_) run) ?_ fun _ _ e=>e)
   ·obtain ⟨rfl,rfl⟩:=a4
    exact ⟨rfl,a3,a2⟩
   ·rintro ⟨⟨⟩,st'⟩ s' ⟨rfl,hf,har⟩
    dsimp only at hf har ⊢
    have hout:=PySem.W.kat_snds rfl har
    have hL3:((zg1 (zeP (L.map yZ)) (PySem.W.kas_sort L.length)).toList.map fun i=>(zbm L).getD i Value.none)=zbm ((zfb (L.map yZ)).map fun i=>L.getD i (0,0)):=by
     unfold zbm zfb
     rw [yA,wM]
     refine xO fun i hi=>?_
     refine (hget i (g2 i ?_)).1
     unfold zfb
     rw [yA]
     exact hi
    rw [hL3] at hout
    rw [hout]
    refine yB (seqEpoch_at (s:={s with heap:=H3}) ho3 rfl ?_)
    refine yB (listUpdate_at (s:={s with heap:=H3}) ho3 rfl ?_ (qN _) ?_)
    ·rw [hf]
     simp only [bne_self_eq_false,yT,if_false]
     refine yD (fin _ ?_ fun p hp=>?_)
     ·rw [wM]
      refine Eq.trans (xO fun i hi=>?_) g3
      exact ((hget i (g2 i hi)).2.1).symm
     ·obtain ⟨i,hi,rfl⟩:=yS.mp hp
      exact (hget i (g2 i hi)).2.2
    ·rw [yQ,yA,yA]
     have hz:(zfb (L.map yZ)).length≤4:=by
      have:=congrArg vC g3
      rw [yA] at this
      rw [this]
      exact wO _ _
     rw [sizeLine_eq]
     omega
theorem zkI {S:Addr}{t:SetTable}{L:List (Nat×Addr)}{Q:Value→Shared→Prop}(hh:A.handled=none)(hS:zeA prog w s.heap S (ze1 w) t L)(hnd:(L.map yZ).Nodup)
  (h:∀ (L3:List (Nat×Addr)) (D:Addr) s' n',L3.map yZ=zaY (L.map yZ)→(∀ p∈L3,p∈L)→S < D→s'.heap.get? D=some (seqObj "list" (zbm L3).toArray n')→Moved [] (fun a b=>b=a) s s'→Q (.ref D) s'):
  wpAny (model prog w) A (call (.builtin "sorted") [.ref S]) Q E s:=by
 have hS0:=hS
 obtain ⟨o,ep,ho,hex,hd,htab,hall⟩:=hS0
 have good:=zfa htab (c:=0) (by omega)
 simp only [zcX,qA,jT,beq_iff_eq,yA,decide_eq_true_eq] at good
 have hlen:L.length≤4:=good.1.2
 refine Calls.call_function_entry kind_sorted plain_sorted entry_sorted (args_sorted1 _) ?_
 unfold Builtin.«sorted»
 refine yB (m:=checkCount "sorted" 1 1 _) (yD ?_)
 refine yB (zjs (A:=A.in1) (by simp [hh]) hS fun s1 vs hp hm=>?_)
 obtain ⟨L2,p2,rfl⟩:=zfP hp
 have hl2:L2.length≤4:=by rw [p2.length_eq];exact hlen
 refine yB (wpAny_newList ?_ (by rw [yA,sizeLine_eq];omega))
 have hoD:(s1.heap.push (seqObj "list" (zbm L2).toArray 0)).get? s1.heap.objs.size=some (seqObj "list" (zbm L2).toArray 0):=yW _ rfl
 have hk2:∀ p∈L2,p.1 < 4∧IsTupleKey (intKind prog w) (s1.heap.push (seqObj "list" (zbm L2).toArray 0)) (zcU p.1) p.2:=fun p hp'=>by
  have hq:=hall p (p2.mem_iff.mp hp')
  refine ⟨hq.1,?_⟩
  obtain ⟨o',it,n,e,r⟩:=hq.2
  exact ⟨o',it,n,yH _ (hm.heap _ _ qJ e),r⟩
 have hD0:s.heap.get? s1.heap.objs.size=none:=by
  cases hq:s.heap.get? s1.heap.objs.size with
  | none=>rfl
  | some o'=>exact absurd (yU (hm.heap _ _ qJ hq)) (vE _)
 refine yB (wpAny_holding (wpAny_call_entry slot_list_sort ⟨_,hoD,rfl⟩ entry_list_sort ?body (args_list_sort _)))
 refine zgp (s:={s1 with heap:=s1.heap.push (seqObj "list" (zbm L2).toArray 0)}) hoD hk2 ((p2.map yZ).nodup_iff.mpr hnd) hl2 fun L3 h' n' e1 e2 e3 e4=>?_
 refine ⟨_,rfl,yD ⟨_,rfl,h L3 s1.heap.objs.size _ n' (e1.trans ?_) (fun p hp'=>p2.mem_iff.mp (e2 p hp')) (yU (hm.heap _ _ qJ ho)) e3 ⟨fun b ob _ e=>?_,hm.gens,hm.drawn,hm.os,hm.toks⟩⟩⟩
 ·unfold zaY
  refine ya9 fun c _=>?_
  rw [vH,qU,qU]
  exact (p2.map yZ).mem_iff
 ·refine e4 b ob (fun z=>?_) (yH _ (hm.heap _ _ qJ e))
  rw [z,hD0] at e
  cases e
end
noncomputable def zek (c:Nat):HO:=.tup [.int ((c / 2:Nat):Int),.int ((c % 2:Nat):Int)]
noncomputable def zgM (te:TE):TE:=fun σ H Q=>te σ H fun v H1=>∃ (l:Addr) (ps:List (Nat×Addr)),v= .ref l∧H1 l=some (.lst (ps.map fun p=>V.ref p.2))∧(∀ p∈ps,p.1 < 4∧H1 p.2=some (zek p.1))∧
 ∀ (D:Addr) (L:List (Nat×Addr)),H1 D=none→L.map yZ=zaY (ps.map yZ)→(∀ p∈L,p∈ps)→Q (.ref D) (upd H1 D (.lst (L.map fun p=>V.ref p.2)))
theorem zje {L ps:List (Nat×Addr)}(h:GotP L ps):zaY (L.map yZ)=zaY (ps.map yZ):=by
 unfold zaY
 refine ya9 fun c _=>?_
 rw [vH,qU,qU]
 constructor
 ·intro hc
  obtain ⟨p,hp,rfl⟩:=yS.mp hc
  exact yS.mpr ⟨p,h.1 p hp,rfl⟩
 ·intro hc
  obtain ⟨p,hp,rfl⟩:=yS.mp hc
  exact h.2.1 p hp
theorem znz {P:Program}{w:World}{H:Hp}{h:Heap}{c:Nat}{a:Addr}(ok:HOk P w H h)(e:H a=some (zek c)):IsTupleKey (intKind P w) h (zcU c) a:=by
 obtain ⟨_,its,r,o,h1,h2,n,h3⟩:=(show zbB P w H h a (zek c) from ok a _ e)
 refine ⟨o,its.toArray,n,h1,h2,h3,?_⟩
 cases r with
 | cons r1 r2=>
  cases r2 with
  | cons r2 r3=>
   cases r3
   obtain ⟨t,rfl⟩:=r1
   obtain ⟨u,rfl⟩:=r2
   exact .cons (intKind_is _ _ _ _) (.cons (intKind_is _ _ _ _) .nil)
theorem zkO {L:List (Nat×Addr)}:Vals (L.map fun p=>V.ref p.2) (zbm L):=by
 induction L with
 | nil=>exact .nil
 | cons p r ih=>exact .cons rfl ih
theorem zeO:∀ {L:List (Nat×Addr)} {us:List Value},Vals (L.map fun p=>V.ref p.2) us→us=zbm L
 | [],_,h=>by cases h;rfl
 | p::r,_,h=>by
  cases h with
  | cons h1 h2=>
   cases h1
   rw [zeO h2]
   rfl
section
variable {X:Cx} {e:Expr} {te:TE} {p p' pos pos':Pos} {xs xt:Str}
theorem zi2 (hc:X.calm=true)(hu:X.A.units+64 < cLine)(hg:Gl X "sorted")(hm:X.mg "sorted" =none)(hg':Gl X "set")(hm':X.mg "set" =none)(ha:PE X e te)
  (he:starEach [e] X.env= [(false,eval e X.env)]:=by rfl)
  (he':starEach [Expr.Call (.Name "set" p') [e] [] pos'] X.env= [(false,eval (Expr.Call (.Name "set" p') [e] [] pos') X.env)]:=by rfl):
  PE X (.Call (.Name "sorted" p) [.Call (.Name "set" p') [e] [] pos'] [] pos) (zgM te):=by
 intro pins s σ H Q I h
 refine wpAny_Call_Name_kw (zea I hg hm (by rfl) ?_ (by decide) (by decide))
 refine kW (id:="sorted") ?_ he' rfl
 rw [he']
 show wpAny _ _ (spliced ((false,eval (Expr.Call (.Name "set" p') [e] [] pos') X.env)::backTo pos [])) _ _ s
 refine vL ?_
 refine wpAny_Call_Name_kw (zea I hg' hm' (by rfl) ?_ (by decide) (by decide))
 refine xD (T:="set") ?_ he rfl
 rw [he]
 show wpAny _ _ (spliced ((false,eval e X.env)::backTo pos' [])) _ _ s
 refine vL (thn (ha pins s σ H _ I h) fun u s1 ⟨x,H1,I1,r1,l,ps,ex,hl,hps,q⟩=>?_)
 subst ex
 cases r1
 refine kH ?_
 obtain ⟨z,its,n,rv,hlen,eL⟩:=I1.lstM hl
 have eits:=zeO rv
 subst eits
 have hA:=I1.ok.hd hc
 refine zgB (xs:=ps) hA hu ⟨_,eL,rfl,n,rfl⟩ (fun i y hy=>⟨?_,?_⟩) (by simp) fun h' tk t' L' hP hG hK=>?_
 ·simp [zbm,hy]
 ·have hm:=yI hy
  exact ⟨(hps y hm).1,znz I1.hok (hps y hm).2⟩
 refine kH ?_
 refine zkI (s:={s1 with heap:=h',toks:=tk}) hA hP hG.2.2 fun L3 D s2 n' e1 e2 hSD e3 hmv=>?_
 obtain ⟨h2,g2,d2,tk2,os2⟩:=s2
 have eg:g2=s1.gens:=hmv.gens
 have ed:d2=s1.drawn:=hmv.drawn
 have eo:os2=s1.os:=hmv.os
 subst eg;subst ed;subst eo
 have hf:H1 D=none:=I1.hok.fresh (kU hSD)
 have hz:L3.length≤4:=by
  have:=congrArg vC e1
  rw [yA] at this
  rw [this]
  exact wO _ _
 refine ⟨.ref D,_,I1.laid (a:=D) (o:=.lst (L3.map fun p=>V.ref p.2)) (t':=tk2) (fun b ob eb=>hmv.heap b ob qJ (hK b ob eb)) (kU hSD) ⟨?_,zbm L3,n',zkO,e3⟩,rfl,q D L3 hf (e1.trans (zje hG)) fun p hp=>hG.1 p (e2 p hp)⟩
 rw [yA,sizeLine_eq]
 omega
theorem zeq (hc:X.calm=true)(hu:X.A.units+64 < cLine)(hg:Gl X "sorted")(hm:X.mg "sorted" =none)(hg':Gl X "set")(hm':X.mg "set" =none)(ha:Bx (PE X e te))
  (he:starEach [e] X.env= [(false,eval e X.env)]:=by rfl)
  (he':starEach [Expr.Call (.Name "set" p') [e] [] pos'] X.env= [(false,eval (Expr.Call (.Name "set" p') [e] [] pos') X.env)]:=by rfl):
  Bx (PE X (.Call (.Name "sorted" p) [.Call (.Name "set" p') [e] [] pos'] [] pos) (zgM te)):=⟨zi2 hc hu hg hm hg' hm' ha.1 he he'⟩
end
section
variable {prog:Program} {w:World} {A:Around} {E:Value→Shared→Prop} {s:Shared}
end
section
variable {X:Cx}
end
end L2
namespace My
open PySem L2
noncomputable def hiV (c:Nat):Int:=((c / 2:Nat):Int)
noncomputable def loV (c:Nat):Int:=((c % 2:Nat):Int)
noncomputable def zbw (a b:Int):Nat:=2 * a.toNat+b.toNat
theorem zcZ {a b:Int}(ha:a=0∨a=1)(hb:b=0∨b=1):zbw a b < 4:=by
 unfold zbw
 rcases ha with rfl | rfl <;> rcases hb with rfl | rfl <;> decide
theorem zdQ {a b:Int}(ha:a=0∨a=1)(hb:b=0∨b=1):hiV (zbw a b)=a:=by
 rcases ha with rfl | rfl <;> rcases hb with rfl | rfl <;> decide
theorem zdG {a b:Int}(ha:a=0∨a=1)(hb:b=0∨b=1):loV (zbw a b)=b:=by
 rcases ha with rfl | rfl <;> rcases hb with rfl | rfl <;> decide
theorem zpc {c:Nat}(h:c < 4):zbw (hiV c) (loV c)=c:=by
 have:c=0∨c=1∨c=2∨c=3:=by omega
 rcases this with rfl | rfl | rfl | rfl <;> decide
theorem zg8 {c:Nat}(h:c < 4):hiV c=0∨hiV c=1:=by
 have:c=0∨c=1∨c=2∨c=3:=by omega
 rcases this with rfl | rfl | rfl | rfl <;> decide
theorem zok {c:Nat}(h:c < 4):loV c=0∨loV c=1:=by
 have:c=0∨c=1∨c=2∨c=3:=by omega
 rcases this with rfl | rfl | rfl | rfl <;> decide
noncomputable def zbj {α :Type} (acc:List (List α)) (legs:List (List α)):List (List α):=legs.foldl (fun rows ps=>rows.flatMap fun r=>ps.map fun p=>r++ [p]) acc
noncomputable def choices {α :Type} (legs:List (List α)):List (List α):=zbj [[]] legs
inductive zbN {α :Type}:List α→List (List α)→Prop
 | nil:zbN [] []
 | cons {x: α} {r:List α} {l:List α} {ls:List (List α)}:x∈l→zbN r ls→zbN (x::r) (l::ls)
theorem ze8 {α :Type}:∀ {legs acc:List (List α)} {r:List α},r∈zbj acc legs↔∃ a b,a∈acc∧zbN b legs∧r=a++b
 | [],acc,r=>by
  constructor
  ·intro h
   exact ⟨r,[],h,.nil,(vQ r).symm⟩
  ·rintro ⟨a,b,ha,hb,rfl⟩
   cases hb
   rw [vQ]
   exact ha
 | l::ls,acc,r=>by
  show r∈zbj (acc.flatMap fun r=>l.map fun p=>r++ [p]) ls↔_
  rw [ze8]
  constructor
  ·rintro ⟨a,b,ha,hb,rfl⟩
   obtain ⟨q,hq,hm⟩:=wD.mp ha
   obtain ⟨p,hp,rfl⟩:=yS.mp hm
   exact ⟨q,p::b,hq,.cons hp hb,by simp⟩
  ·rintro ⟨a,b,ha,hb,rfl⟩
   cases hb with
   | @cons x r' _ _ hx hr=>
    exact ⟨a++ [x],r',wD.mpr ⟨a,ha,yS.mpr ⟨x,hx,rfl⟩⟩,hr,by simp⟩
theorem zaP {α :Type}{legs:List (List α)}{r:List α}:r∈choices legs↔zbN r legs:=by
 unfold choices
 rw [ze8]
 constructor
 ·rintro ⟨a,b,ha,hb,rfl⟩
  rw [yF.mp ha]
  exact hb
 ·intro h
  exact ⟨[],r,yF.mpr rfl,h,rfl⟩
theorem zbN.length {α :Type}{r:List α}{ls:List (List α)}(h:zbN r ls):r.length=ls.length:=by
 induction h with
 | nil=>rfl
 | cons _ _ ih=>rw [qP,qP,ih]
theorem zbN.snoc {α :Type}:∀ {r:List α} {ls:List (List α)} {l:List α},zbN r (ls++ [l])↔∃ a x,r=a++ [x]∧zbN a ls∧x∈l
 | r,[],l=>by
  constructor
  ·intro h
   cases h with
   | cons hx hr=>cases hr;exact ⟨[],_,rfl,.nil,hx⟩
  ·rintro ⟨a,x,rfl,ha,hx⟩
   cases ha
   exact .cons hx .nil
 | r,m::ls,l=>by
  constructor
  ·intro h
   cases h with
   | cons hx hr=>
    obtain ⟨a,y,rfl,ha,hy⟩:=zbN.snoc.mp hr
    exact ⟨_::a,y,rfl,.cons hx ha,hy⟩
  ·rintro ⟨a,x,rfl,ha,hx⟩
   cases ha with
   | cons hy ha=>exact .cons hy (zbN.snoc.mpr ⟨_,x,rfl,ha,hx⟩)
noncomputable def zbL (k:Str) (r:List Nat):Nat:=zbw (zbq k (r.map hiV)) (zbq k (r.map loV))
noncomputable def zfi (k:Str) (legs:List (List Nat)):List Nat:=zaY ((choices legs).map (zbL k))
theorem zeh {cs:List Nat}(h:∀ c∈cs,c < 4){c:Nat}:c∈zaY cs↔c∈cs:=by
 unfold zaY
 rw [kC,qU]
 constructor
 ·exact fun z=>z.2
 ·intro z
  have:=h c z
  have e:c=0∨c=1∨c=2∨c=3:=by omega
  exact ⟨by rcases e with rfl | rfl | rfl | rfl <;> simp,z⟩
theorem zhP {a b:List Nat}(h:∀ c,c∈a↔c∈b):zaY a=zaY b:=by
 unfold zaY
 refine ya9 fun c _=>?_
 rw [vH,qU,qU]
 exact h c
noncomputable def zfm (k:Str):Prop:=k="and"∨k="or"∨k="odd"
theorem zh8 {k:Str}(hk:zfm k){ns:List Int}{n:Int}(hb:Bits ns)(hn:n=0∨n=1):zbq k (ns++ [n])=zbq k [zbq k ns,n]:=by
 rcases hk with rfl | rfl | rfl
 ·rw [zgX,zgX,zgX]
  by_cases h:ns.all (· ==1)=true
  ·rw [if_pos h]
   simp [h]
  ·rw [if_neg h]
   simp [h]
 ·rw [zky,zky,zky]
  by_cases h:ns.any (· ==1)=true
  ·rw [if_pos h]
   simp [h]
  ·rw [if_neg h]
   simp [h]
 ·rw [zfz,zfz,zfz,ycp]
  simp only [ybV,List.sum_nil]
  omega
theorem zc7 {k:Str}(hk:zfm k)(ns:List Int):zbq k ns=0∨zbq k ns=1:=by
 rcases hk with rfl | rfl | rfl
 ·rw [zgX];split
  ·exact .inr rfl
  ·exact .inl rfl
 ·rw [zky];split
  ·exact .inr rfl
  ·exact .inl rfl
 ·rw [zfz]
  omega
noncomputable def zch (cs:List Nat):Prop:=∀ c∈cs,c < 4
theorem zbN.codes {r:List Nat}{ls:List (List Nat)}(h:zbN r ls)(hc:∀ l∈ls,zch l):zch r:=by
 induction h with
 | nil=>exact fun _ h=>(qJ h).elim
 | cons hx _ ih=>
  intro c hm
  rcases yO.mp hm with rfl | hm
  ·exact hc _ jP _ hx
  ·exact ih (fun l hl=>hc l (jK _ hl)) c hm
theorem zch.hi {r:List Nat}(h:zch r):Bits (r.map hiV):=fun n hn=>by
 obtain ⟨c,hc,rfl⟩:=yS.mp hn
 exact zg8 (h c hc)
theorem zch.lo {r:List Nat}(h:zch r):Bits (r.map loV):=fun n hn=>by
 obtain ⟨c,hc,rfl⟩:=yS.mp hn
 exact zok (h c hc)
theorem zfE {k:Str}(hk:zfm k){a:List Nat}{x:Nat}(ha:zch a)(hx:x < 4):zbL k (a++ [x])=zbL k [zbL k a,x]:=by
 unfold zbL
 rw [yM,yM]
 show zbw (zbq k (a.map hiV++ [hiV x])) (zbq k (a.map loV++ [loV x]))=zbw (zbq k [hiV _,hiV x]) (zbq k [loV _,loV x])
 rw [zdQ (zc7 hk _) (zc7 hk _),zdG (zc7 hk _) (zc7 hk _),zh8 hk ha.hi (zg8 hx),zh8 hk ha.lo (zok hx)]
theorem zm7 {k:Str}(hk:zfm k)(r:List Nat):zbL k r < 4:=zcZ (zc7 hk _) (zc7 hk _)
theorem zi4 {k:Str}(hk:zfm k){ls:List (List Nat)}{c:Nat}:c∈zfi k ls↔∃ r,zbN r ls∧zbL k r=c:=by
 unfold zfi
 rw [zeh (fun d hd=>by obtain ⟨r,_,rfl⟩:=yS.mp hd;exact zm7 hk r),yS]
 constructor
 ·rintro ⟨r,hr,e⟩
  exact ⟨r,zaP.mp hr,e⟩
 ·rintro ⟨r,hr,e⟩
  exact ⟨r,zaP.mpr hr,e⟩
theorem zkE {k:Str}(hk:zfm k){ls:List (List Nat)}{l:List Nat}(hls:∀ m∈ls,zch m)(hl:zch l):zfi k (ls++ [l])=zfi k [zfi k ls,l]:=by
 refine zhP fun c=>?_
 rw [yS,yS]
 constructor
 ·rintro ⟨r,hr,rfl⟩
  obtain ⟨a,x,rfl,ha,hx⟩:=zbN.snoc.mp (zaP.mp hr)
  exact ⟨[zbL k a,x],zaP.mpr (.cons ((zi4 hk).mpr ⟨a,ha,rfl⟩) (.cons hx .nil)),(zfE hk (ha.codes hls) (hl x hx)).symm⟩
 ·rintro ⟨r,hr,rfl⟩
  cases zaP.mp hr with
  | cons hd h2=>
   cases h2 with
   | cons hx h3=>
    cases h3
    obtain ⟨a,ha,rfl⟩:=(zi4 hk).mp hd
    exact ⟨a++ [_],zaP.mpr (zbN.snoc.mpr ⟨a,_,rfl,ha,hx⟩),zfE hk (ha.codes hls) (hl _ hx)⟩
end My
namespace L2
open PySem PySem.Spec PyProof.Rows
section
variable {prog:Program} {w:World} {A:Around} {R:Result→Shared→Prop} {I:Addr} {fp wr:List Addr} {n:Nat} {P:Nat→Value→Prop} {St:Nat→Heap→Prop}
end
section
variable {prog:Program} {w:World} {A:Around} {E:Value→Shared→Prop} {s:Shared} {l:Addr} {xs:Array (Int×Tok)}
end
theorem DPut.r {H:Hp}{a b:Addr}{kvs:List (List Key×V)}{k:List Key}{v:V}(e:H a=some (.dT kvs))(eb:RdT H b (k.map kV))(hl:kvs.length < yL):DPut H a (.ref b) v (upd H a (.dT (putK kvs k v))):=.inr ⟨kvs,k,b,e,rfl,eb,hl,rfl⟩
section
variable {X:Cx}
end
open PySem.W (Dat kqdP kqdPs kqdOk)
section
variable {X:Cx}
end
end L2
namespace L2
open PySem PySem.Spec PyProof.Rows
section
variable {prog:Program} {w:World} {A:Around} {E:Value→Shared→Prop} {s:Shared}
end
section
variable {X:Cx}
end
section
open PySem.SeqAt
open PySem.AutoSeq1 (wpAny_loadPart')
open PySem.MeetsSeq PySem.MeetsSeq2 PySem.MeetsSeq3
end
section
variable {prog:Program} {w:World} {A:Around} {E:Value→Shared→Prop} {s:Shared}
end
section
variable {X:Cx}
end
end L2
namespace My
open PySem L2
open PySem.W (Dat kqdP kqdPs kqdOk)
section
variable {m:Nat} {a b:zaA} {fs gs:List Flt}
end
end My
namespace My
open PySem L2
open PySem.W (Dat kqdP kqdPs kqdOk)
section
variable {m:Nat} {w:zaA} {st F:List Flt} {row:List Int}
end
theorem zet {g n:Nat}(h:g < n):∃ rest,qI n=qI g++g::rest:=by
 obtain ⟨d,rfl⟩:∃ d,n=g+(d+1):=⟨n - g - 1,by omega⟩
 rw [List.range_add,List.range_succ_eq_map,qW]
 exact ⟨_,rfl⟩
section
variable {m:Nat} {w:zaA} {keep:Nat→Bool} {fs:List Flt} {row:List Int}
end
end My
namespace L2
open PySem PySem.Spec PyProof.Rows
section
variable {M:Model} {A:Around} {E:Value→Shared→Prop}
variable {nm q nm2 q2:Str} {C N S N2:Addr} {bs bm bs2 bm2:List Value} {hdct hd2:Bool} {sn sn2:List Str} {sub sub2:List Value} {ab ab2:Bool} {col col2:Option Bool} {dd dd2:Option Addr} {k0 k1 k2 k3 k5 l0 l1 l2 l3 l5:Option Value} {newId newId2:String}
theorem zk4 {h:Heap}{g:Array GenState}{d:Drawn}{t:Nat}{os:OsState}{e:Addr}{oe:Obj}{Q:Bool→Shared→Prop}
  (hC:h.get? C=some (excClassObj nm q C N bs bm hdct sn sub ab col dd k0 k1 k2 k3 k5 newId)) (hS:h.get? S=some (excClassObj nm2 q2 S N2 bs2 bm2 hd2 sn2 sub2 ab2 col2 dd2 l0 l1 l2 l3 l5 newId2))
  (he:h.get? e=some oe) (hcls:oe.cls= .ref C) (hb2:bm2.contains (.type "BaseException")=true) (hcC:(Value.ref C::bm).contains (.ref S)=true)
  (hq:Q true ⟨h,g,d,t,os⟩):wpAny M A (excMatches (.ref e) (.ref S)) Q E ⟨h,g,d,t,os⟩:=by
 have hcB:(Value.ref S::bm2).contains (.type "BaseException")=true:=by rw [yaY,hb2,Bool.or_true]
 have f:=tc_notTuple
 unfold excMatches
 repeat (first | (with_reducible refine wpAny_loadPart_at he ?_;rw [hcls]) | with_reducible refine wpAny_loadPart_at hS ?_ | (with_reducible refine wpAny_isSubtype_exc hS ?_;rw [hcB]) | (with_reducible refine wpAny_isSubtype_exc hC ?_;rw [hcC]) | wp_step)
 exact hq
end
section
variable {X:Cx} {pins:List (Addr×Obj)} {σ :St} {H1:Hp} {s1 s':Shared} {C S:Addr} {nid nid2:String} {bB bB2:List Value} {sx n:Str} {np hpos:Pos} {b₀ :Stmt} {suite:List Stmt} {j:Nat} {ts:TS} {D:Ends} {E':XK} {e:Value}
theorem zk9 (I1:Inv X pins σ H1 s1)(hcalm:X.calm=true)(hst:X.stack=X.env::X.outer)(hfm:X.env.frame=some X.env.locals)(hgS:Gl X sx)(hmS:X.mg sx=some (.ref S))
  (cC:PySem.W.excIn X.K C bB nid=true) (cS:PySem.W.excIn X.K S bB2 nid2=true) (b2:bB2.contains (.type "BaseException")=true) (hin:(zjI X.K C).contains (.ref S)=true)
  (hN:X.N.Nodup) (hj:X.N[j]? =some n) (hn:X.env.scope.names.lookup n=some .local) (hs:∀ x,PSs (X.marked x) (b₀ ::suite) ts) (hdb:(sx==("__debug__" :Str))=false)
  (cx:CXC X.prog X.w (.ref C) X.stack H1 s1 E' e s') (hE:∀ x H2,E' (.ref x) (some x) H2→H2 x=none→ts (D1R D j) (σ.set j (some (.ref x))) (upd H2 x (excO x C))):
  wpAny (model X.prog X.w) X.A (noteFrame e X.env) (fun _ s₂ =>wpAny (model X.prog X.w) X.A (setFlight e none) (fun _ s₃ =>wpAny (model X.prog X.w) X.A (handleBy e X.env [.ExceptHandler (some (.Name sx np)) (some n) (b₀ ::suite) hpos]) (SP X pins D) X.xe s₃) X.xe s₂) X.xe s':=by
 obtain ⟨x,H',rfl,hos,hbr,un,ok,⟨newx,hx,T,a0,oe,vs,oT,tv,ex,ec,ed,e1,nT,hT,Tx,eT,edT,e3⟩,q⟩:=cx
 have fun0:=I1.env0.funs
 have frf:=I1.stkFree
 obtain ⟨B,hB⟩:=zcH s'.heap (x::T::frs X.stack)
 have frs':∀ b∈frs X.stack,H' b=none:=fun b z=>by
  obtain ⟨_,o,ho,_⟩:=fun0.mem z
  exact un.free b o ho (frf b z) (by simp)
 have fl:s'.heap.FunFrames B X.stack:=zcQ fun0 (fun b z o ho=>un.slot b o ho (frf b z) z (by simp)) fun b z=>(hB b).1 (.tail _ (.tail _ z))
 have st:B.StaysIn s'.heap:=fun b o hb=>by
  by_cases z:b∈x::T::frs X.stack
  ·rw [(hB b).1 z] at hb;cases hb
  ·rw [(hB b).2 z] at hb;exact hb
 have fly:Heap.FlyingW B X.stack x (.ref C) a0 s'.heap:=⟨st,(hB x).1 (.head _),fl,oe,vs,T,oT,tv,ex,ec,ed,e1,(hB T).1 (.tail _ (.head _)),Tx,eT,edT,e3⟩
 have mkInv:∀ h,Heap.FlyingW B X.stack x (.ref C) a0 h→s'.heap.UpToSlots h→Inv X pins σ (upd H' x (excO x C)) {s' with heap:=h}:=fun h fh sm=>by
  have k:∀ b o,b∉frs X.stack→b≠x→b≠T→s'.heap.get? b=some o→h.get? b=some o:=fun b o n1 n2 n3 eb=>fh.1 b o (by
   rw [(hB b).2 fun z=>by
    rcases yO.mp z with z | z
    ·exact n2 z
    ·rcases yO.mp z with z | z
     ·exact n3 z
     ·exact n1 z]
   exact eb)
  have ks:∀ b o,b∈frs X.stack→s'.heap.get? b=some o→∃ sl,h.get? b=some {o with slots:=sl}:=fun b o z eb=>sm b o eb (by
   obtain ⟨_,o2,h2,h3⟩:=fl.mem z
   rw [eb] at h2
   cases h2
   exact h3)
  obtain ⟨ob,hob,hcl⟩:=fh.there
  exact I1.call' (s':={s' with heap:=h}) hos ((un.left newx nT k ks).track newx I1.hok) ((ok.left frs' hx hT k).track hx ⟨⟨ob,hob,hcl⟩,⟨ob,hob⟩,fun h1 h2 ⟨o1,z1,z2⟩ kk=>⟨o1,kk _ z1,z2⟩⟩) hbr (fun b z=>absurd z (by simp))
 rw [hst] at fly
 refine wpAny_looks_onW (env:=X.env) (outer:=X.outer) (by rw [I1.ok.frames,hst]) hfm fly fun h₄ held sm₄ =>?_
 refine wpAny_landsW (s:={s' with heap:=h₄}) held fun h₅ fly₅ sm₅ =>?_
 refine wpAny_handleBy_cons (codeAny_handlers_test ?_) (by intro z;cases z)
 have sm5:=sm₄.trans sm₅
 have J₅ :=mkInv h₅ (by rw [hst];exact fly₅) sm5
 obtain ⟨tl,N,nm,qn,bs,hd,sn,sub,ab,col,dd,a0',a1,a2,a3,a5,oC,mC,oT'⟩:=zdF I1.ok.mod.kin cC
 obtain ⟨tl2,N2,nm2,qn2,bs2,hd2,sn2,sub2,ab2,col2,dd2,c0,c1,c2,c3,c5,oS,mS,oTS⟩:=zdF I1.ok.mod.kin cS
 obtain ⟨ob,hob,hcl⟩:=fly₅.there
 refine zf8 (X:=X.marked x) (J₅.marked x) hgS hmS ?_ hdb
 refine zk4 (J₅.bk _ _ oC) (J₅.bk _ _ oS) hob hcl (oTS.hasType b2) (by rw [mC] at hin;exact hin) ?_
 refine codeAny_handlers_suite_as ?_
 refine lands_againW (s:={s' with heap:=h₅}) fly₅ fun h₆ fly₆ sm₆ =>?_
 refine zhj (v:=.ref x) (mkInv h₆ (by rw [hst];exact fly₆) (sm5.trans sm₆)) hN hj (.inl hn) rfl (fun s7 I7=>?_) (.inr hn)
 refine wpAny_mono (hs x pins s7 _ _ (D1R D j) (I7.marked x) (hE x H' q hx)) (fun f s8 q8=>?_) fun _ _ z=>z.elim
 cases f with
 | next=>
  obtain ⟨σ',H8,I8,q⟩:=q8
  exact ziS (I8.unmarked I1.ok.hd) hN hj hn fun s9 I9=>⟨_,H8,I9,q⟩
 | brk=>obtain ⟨_,_,_,z⟩:=q8;exact z.elim
 | cont=>obtain ⟨_,_,_,z⟩:=q8;exact z.elim
 | ret u=>
  obtain ⟨v8,σ',H8,I8,r8,q⟩:=q8
  exact ziS (I8.unmarked I1.ok.hd) hN hj hn fun s9 I9=>⟨v8,_,H8,I9,r8,q⟩
end
theorem zll:bootBuiltins "ValueError" =some (.type "ValueError"):=by kernel_rfl
theorem zl8 {X:Cx}{K0:PySem.W.Frag}{C:Addr}{B nid:String}{bB:List Value}(Z:XcOk K0 C B nid bB)(hK:X.K=K0):zcB X (.builtin "isinstance") (rIsX K0 C):=by subst hK;exact znf Z
theorem zkz {X:Cx}{K0:PySem.W.Frag}{C:Addr}{B nid:String}{bB:List Value}(Z:XcOk K0 C B nid bB)(hK:X.K=K0):zcB X (.builtin "isinstance") (rIsXT K0 C):=by subst hK;exact zlI Z
theorem zkK {X:Cx}{K0:PySem.W.Frag}{C:Addr}{B nid:String}{bB:List Value}(Z:XcOk K0 C B nid bB)(hK:X.K=K0):zcB X (.builtin "isinstance") (rIsXs K0 C):=by subst hK;exact zlg Z
noncomputable def WX (X:Cx) (pins:List (Addr×Obj)) (σ :St) (C:Addr) (G:Addr→Hp→Prop):Value→Shared→Prop:=fun e s'=>∃ H1 s1 E',Inv X pins σ H1 s1∧CXC X.prog X.w (.ref C) X.stack H1 s1 E' e s'∧∀ x H2,E' (.ref x) (some x) H2→H2 x=none→G x H2
noncomputable def PTry (X:Cx) (C:Addr) (body:List Stmt) (t:(Addr→Hp→Prop)→TS):Prop:=
 ∀ (pins:List (Addr×Obj)) (s:Shared) (σ :St) (H:Hp) (D:Ends) (G:Addr→Hp→Prop),Inv X pins σ H s→t G D σ H→wpAny (model X.prog X.w) X.A (execs body X.env) (SP X pins D) (WX X pins σ C G) s
noncomputable def tTryP (j:Nat) (C:Addr) (t:(Addr→Hp→Prop)→TS) (ts:TS):TS:=fun D σ H=>t (fun x H2=>ts (D1R D j) (σ.set j (some (.ref x))) (upd H2 x (excO x C))) D σ H
theorem zpp {j:Nat}{C:Addr}{t:(Addr→Hp→Prop)→TS}{ts:TS}{D:Ends}{σ :St}{H:Hp}(Cnd:Addr→Hp→Prop)(h:∀ G:Addr→Hp→Prop,(∀ x H2,Cnd x H2→G x H2)→t G D σ H)(r:∀ x H2,Cnd x H2→ts (D1R D j) (σ.set j (some (.ref x))) (upd H2 x (excO x C))):tTryP j C t ts D σ H:=h _ r
noncomputable def tTry1 (spX:Sp) (dvs:List V) (ta:TA):(Addr→Hp→Prop)→TS:=fun G D σ H=>ta σ H fun vs H1=>spX (vs++dvs) H1 (fun _ H2=>D.nx σ H2) (fun _ ox H2=>∀ x,ox=some x→H2 x=none→G x H2)
section
variable {X:Cx} {C S f:Addr} {k k2:Nat} {fd:FuncData} {ps:List Str} {spG spX:Sp} {dvs:List V} {ds:List Value} {nid nid2:String} {bB bB2:List Value} {fx sx n:Str} {p np hpos cpos epos pos:Pos} {b₀ :Stmt} {suite body a b:List Stmt} {j:Nat} {ta:TA} {tc:TT} {ts:TS} {t u:(Addr→Hp→Prop)→TS} {e c:Expr} {es:List Expr}
theorem zna (hb:Bx (PTry X C body t))(hcalm:X.calm=true)(hst:X.stack=X.env::X.outer)(hfm:X.env.frame=some X.env.locals)(hgS:Gl X sx)(hmS:X.mg sx=some (.ref S))
  (cC:PySem.W.excIn X.K C bB nid=true) (cS:PySem.W.excIn X.K S bB2 nid2=true) (b2:bB2.contains (.type "BaseException")=true) (hin:(zjI X.K C).contains (.ref S)=true)
  (hN:X.N.Nodup) (hj:X.N[j]? =some n) (hn:X.env.scope.names.lookup n=some .local) (hs:∀ x,PSs (X.marked x) (b₀ ::suite) ts) (hdb:(sx==("__debug__" :Str))=false:=by decide):
  Bx (PS X (.Try body [.ExceptHandler (some (.Name sx np)) (some n) (b₀ ::suite) hpos] [] [] pos) (tTryP j C t ts)):=by
 refine ⟨fun pins s σ H D I h=>?_⟩
 refine wpAny_Try_except (wpAny_mono (hb.1 pins s σ H D _ I h) (fun f s1 q=>?_) fun e s1 ⟨H1,s2,E',I1,cx,hE⟩=>zk9 I1 hcalm hst hfm hgS hmS cC cS b2 hin hN hj hn hs hdb cx hE)
 cases f with
 | next=>exact wpAny_execs_nil q
 | brk=>exact q
 | cont=>exact q
 | ret u=>exact q
theorem zkN (FX:FnOk X.prog X.w X.K X.mg X.base (CXC X.prog X.w (.ref C)) k2 f fd ps spX)(hr2:Room k2 X.A)(hg:Gl X fx)(hm:X.mg fx=some (.ref f))(hkp:PySem.W.keepIn X.K (.ref f)=true)(hb:zfy X.K fd ps ds)(hd:Vals dvs ds)(ha:Bx (PA X.nox (e::es) ta))
  (hdf:(fx==("__debug__" :Str))=false:=by decide)
  (he:starEach (e::es) X.env=(false,eval e X.env)::starEach es X.env:=by rfl) (hpl:(backTo cpos (starEach es X.env)).any (·.1)=false:=by rfl) (hsw:swapsWith (.Call (.Name fx p) (e::es) [] cpos) none epos.line X.env=pure false:=by rfl):
  Bx (PTry X C [.Expr (.Call (.Name fx p) (e::es) [] cpos) epos] (tTry1 spX dvs ta)):=by
 refine ⟨fun pins s σ H D G I h=>?_⟩
 refine wpAny_execs_cons (wpAny_Expr_any (wpAny_mono (Q:=EP X pins σ fun _ H2=>D.nx σ H2) ?_ (fun v s1 ⟨x,H1,I1,r1,q1⟩=>wpAny_execs_nil ⟨σ,H1,I1,q1⟩) fun _ _ z=>z) I.quiet hsw)
 refine wpAny_Call_Name_kw (zf8 I hg hm ?_ hdf)
 refine PySem.W.callWith_K (h₀ :=X.base) I.ok.mod.kin hkp (wpAny_mono (ha.1 cpos pins s σ H _ (I.wish _) h) (fun us s1 ⟨vs,H1,I1,r,q⟩=>⟨I1.kIn,?_⟩) fun _ _ z=>z.elim) he hpl
 replace I1:=I1.unwish
 have r2:Vals (vs++dvs) (us++ds):=r.append hd
 have hl:(us++ds).length=ps.length:=by rw [← r2.length];exact FX.len _ _ _ _ q
 refine wpAny_call (codeAny_mono (FX.run X.A X.stack s1 H1 ⟨us,[]⟩ (us++ds) (vs++dvs) _ _ hr2 I1.env0 (hb s1 us I1.kIn hl) r2 q) fun r s2 hq=>?_)
 cases r with
 | error e2=>
  replace hq:CXC X.prog X.w (.ref C) X.stack H1 s1 (fun _ ox H2=>∀ x,ox=some x→H2 x=none→G x H2) e2 s2:=hq
  exact ⟨H1,s1,fun _ ox H2=>∀ x,ox=some x→H2 x=none→G x H2,I1,hq,fun x H2 z y=>z x rfl y⟩
 | ok fl=>
  cases fl with
  | ret u=>exact I1.after hq
  | next=>exact hq.elim
  | brk=>exact hq.elim
  | cont=>exact hq.elim
end
theorem zoQ (bs:List Bool):yba (bs.map PyData.bool)=true∧ybE (bs.map PyData.bool)≤1:=by
 induction bs with
 | nil=>simp [yba,ybE]
 | cons b r ih=>
  have h2:=ih.2
  simp only [qW,yba,ybE,ih.1,yax,ya0,Bool.and_self,true_and]
  omega
theorem zmS:∀ bs cs:List Bool,yaK (bs.map PyData.bool) (cs.map PyData.bool)=decide (bs=cs)
 | [],[]=>by simp [yaK]
 | [],_::_=>by simp [yaK]
 | _::_,[]=>by simp [yaK]
 | b::bs,c::cs=>by
  rw [qW,qW,yaK,zmS bs cs]
  show ((b==c) && _)=_
  cases b <;> cases c <;> simp
theorem zfO {h:Heap}:∀ {bs:List Bool} {us:List Value},Vals (bs.map V.bl) us→∃ as,ReadsAll h us (bs.map PyData.bool) as
 | [],_,r=>by cases r;exact ⟨_,ReadsAll.nil⟩
 | b::bs,_,r=>by
  cases r with
  | cons r1 r2=>
   cases (show _=_ from r1)
   obtain ⟨as,z⟩:=zfO r2
   exact ⟨_,ReadsAll.cons (Reads.bool b) z⟩
noncomputable def SqB (K:PySem.W.Frag) (H:Hp) (tp:Bool) (a:Addr) (bs:List Bool):Prop:=if tp=true then SqT K H a (bs.map V.bl) else SqL K H a (bs.map V.bl)
noncomputable def rEqB (K:PySem.W.Frag) (neg:Bool):R2:=fun x y H Q=>∃ (tp:Bool) (a b:Addr) (bs cs:List Bool),x= .ref a∧y= .ref b∧SqB K H tp a bs∧SqB K H tp b cs∧Q (.bl (if neg=true then !decide (bs=cs) else decide (bs=cs))) H
section
variable {X:Cx} {pins:List (Addr×Obj)} {σ :St} {H:Hp} {s:Shared}
theorem ziz (I:Inv X pins σ H s){tp:Bool}{a:Addr}{bs:List Bool}(h:SqB X.K H tp a bs):∃ as,Reads s.heap (.ref a) (if tp=true then .tuple (bs.map PyData.bool) else .list (bs.map PyData.bool)) as:=by
 cases tp with
 | true=>
  obtain ⟨its,rv,⟨o,e,c,m,d⟩,_⟩:=I.tuple (show SqT X.K H a (bs.map V.bl) from h)
  obtain ⟨as,z⟩:=zfO (h:=s.heap) rv
  exact ⟨as,reads_tuple_at e c d (by simpa using z)⟩
 | false=>
  obtain ⟨its,rv,⟨o,m,e,c,_,d⟩,_⟩:=I.list (show SqL X.K H a (bs.map V.bl) from h)
  obtain ⟨as,z⟩:=zfO (h:=s.heap) rv
  exact ⟨_,reads_list_at e c d (by simpa using z)⟩
theorem zg2 (tp:Bool)(bs:List Bool):ybw (if tp=true then .tuple (bs.map PyData.bool) else .list (bs.map PyData.bool))=true:=by
 have l:=zoQ bs
 have l2:=l.2
 unfold ybw
 cases tp with
 | true=>
  show (yax (.tuple _) && decide (ya0 (.tuple _)≤64))=true
  simp only [yax,ya0,l.1,ybT]
  exact decide_eq_true (by omega)
 | false=>
  show (yax (.list _) && decide (ya0 (.list _)≤64))=true
  simp only [yax,ya0,l.1,ybT]
  exact decide_eq_true (by omega)
theorem znq (tp:Bool)(bs cs:List Bool):wQ (if tp=true then .tuple (bs.map PyData.bool) else .list (bs.map PyData.bool)) (if tp=true then .tuple (cs.map PyData.bool) else .list (cs.map PyData.bool))=decide (bs=cs):=by
 rw [← zmS]
 cases tp with
 | true=>show wQ (.tuple _) (.tuple _)=_;rw [wQ]
 | false=>show wQ (.list _) (.list _)=_;rw [wQ]
end
section
variable {X:Cx}
theorem zo4 (hu:X.A.units+64 < cLine):OpR X (compareOp .NotEq) (rEqB X.K true):=by
 intro pins s σ H x y v u Q I rx ry ⟨tp,a,b,bs,cs,e1,e2,h1,h2,q⟩
 subst e1 e2
 cases (show v=Value.ref a from rx)
 cases (show u=Value.ref b from ry)
 obtain ⟨as,ra⟩:=ziz I h1
 obtain ⟨ds,rb⟩:=ziz I h2
 refine ne_dataH ra rb (zg2 tp bs) (zg2 tp cs) hu ?_
 rw [znq]
 exact ⟨.bl (!decide (bs=cs)),H,I,rfl,q⟩
end
section
variable {X:Cx} {e l k:Expr} {te tl tk:TE} {pos p2:Pos}
end
section
variable {D:Addr} {n0:Nat} {cap:List Nat} {σ :St} {g:TG} {tt:TT} {te:TE} {Q:VK} {H1:Hp}
end
section
variable {X:Cx} {elt tg iter:Expr} {ifs:List Expr} {scope:Scope} {pos:Pos} {N:List Str} {n:Nat} {cap:List Nat} {wi:TI} {g:TG} {tt:TT} {te:TE}
end
section
variable {X:Cx}
end
section
variable {X:Cx} {pins:List (Addr×Obj)} {σ :St} {H:Hp} {s:Shared}
end
section
variable {X:Cx}
end
section
variable {prog:Program} {w:World} {A:Around} {E:Value→Shared→Prop} {s:Shared}
end
section
variable {X:Cx} {k1 v1 k2 v2 e f:Expr} {tk1 tv1 tk2 tv2 te tf:TE} {dp apos cpos:Pos}
end
section
variable {X:Cx} {CX:CXT} {k:Nat} {f C:Addr} {fd:FuncData} {ps:List Str} {ds:List Value} {dvs:List V} {sp:Sp} {E:XK} {x m:Str} {p pos apos pos':Pos} {e o value:Expr} {es:List Expr} {ta tv:TE} {t:TA}
end
section
variable {X:Cx} {C0 C S f:Addr} {k:Nat} {fd:FuncData} {ps:List Str} {sp:Sp} {dvs:List V} {ds:List Value} {nid nid2:String} {bB bB2:List Value} {m sx n y:Str} {p np hpos cpos apos epos pos pos':Pos} {b₀ :Stmt} {suite:List Stmt} {i j:Nat} {ta:TE} {t:TA} {ts:TS} {o e:Expr} {es:List Expr}
end
section
variable {X:Cx} {C0 C S f:Addr} {k2:Nat} {fd:FuncData} {ps:List Str} {sp:Sp} {dvs:List V} {ds:List Value} {nid nid2:String} {bB bB2:List Value} {m sx n y:Str} {p np hpos cpos apos epos pos pos':Pos} {b₀ :Stmt} {suite:List Stmt} {k j:Nat} {ta:TE} {t:TA} {ts:TS} {o e:Expr} {es:List Expr}
end
section
variable {prog:Program} {w:World} {A:Around} {E:Value→Shared→Prop} {s:Shared} {R:Result→Shared→Prop} {I S:Addr} {fp wr:List Addr} {G:Array GenState→Array GenState→Prop} {P:Nat→Value→Prop} {St:Nat→Shared→Prop} {zs:List Str}
noncomputable abbrev zow (prog:Program) (w:World) (h:Heap) (S:Addr) (l:List Str):Prop:=h.SetOf (PySem.strKind prog w) S (fun k=>decide (k∈l)) l.length
theorem zow.on {h h':Heap}{l:List Str}(q:zow prog w h S l)(k:∀ o,h.get? S=some o→h'.get? S=some o):zow prog w h' S l:=by
 obtain ⟨o,es,ep,tb,ho,r⟩:=q
 exact ⟨o,es,ep,tb,k _ ho,r⟩
end
section
variable {X:Cx} {e:Expr} {te:TE} {p p' pos pos':Pos}
end
section
variable {β :Type}
noncomputable def zbO (m:Nat) (f:Nat→Option β):List β :=(qI m).filterMap f
noncomputable def zas (m:Nat) (f:Nat→Option β):List Nat:=(qI m).filterMap fun j=>(f j).map fun _=>j
noncomputable def zcC (f:Nat→Option β) (j:Nat):Nat:=(zas j f).length
theorem zet {j m:Nat}(h:j < m):∃ R,qI m=qI j++j::R∧∀ k∈R,j < k:=by
 refine ⟨(qI m).drop (j+1),?_,fun k hk=>?_⟩
 ·have e1:(qI m).take j=qI j:=by rw [List.take_range,ybF (kU h)]
  have hl:j < (qI m).length:=by rw [yav];exact h
  have e2:(qI m).drop j=j::(qI m).drop (j+1):=by
   rw [ya4 hl,ybX]
  rw [← e2,← e1,wN]
 ·obtain ⟨i,hi⟩:=xY hk
  rw [ybY] at hi
  obtain ⟨h1,h2⟩:=yG.mp hi
  rw [ybX] at h2
  omega
theorem zcE {α γ :Type}{f g: α→Option γ}:∀ {l:List α},(∀ a∈l,f a=g a)→l.filterMap f=l.filterMap g
 | [],_=>rfl
 | a::l,h=>by
  rw [qK,qK,h a (.head _),zcE fun b hb=>h b (.tail _ hb)]
theorem zcs (m:Nat)(f:Nat→Option β):(zbO m f).length=(zas m f).length:=by
 unfold zbO zas
 rw [yaw,yaw]
 refine List.countP_congr fun a _=>?_
 cases f a <;> simp
theorem zgo {m j:Nat}{f:Nat→Option β}(h:j < m):∃ B,zas m f=zas j f++((f j).map fun _=>j).toList++B∧(∀ k∈B,j < k):=by
 obtain ⟨R,e,hR⟩:=zet h
 refine ⟨R.filterMap fun j=>(f j).map fun _=>j,?_,fun k hk=>?_⟩
 ·unfold zas
  rw [e,vK,qK]
  cases f j <;> simp
 ·obtain ⟨a,ha,hk⟩:=xK.mp hk
  cases hf:f a with
  | none=>rw [hf] at hk;cases hk
  | some b=>rw [hf] at hk;cases hk;exact hR _ ha
theorem zmu {j:Nat}{f:Nat→Option β}:∀ k∈zas j f,k < j:=fun k hk=>by
 obtain ⟨a,ha,hk⟩:=xK.mp hk
 cases hf:f a with
 | none=>rw [hf] at hk;cases hk
 | some b=>rw [hf] at hk;cases hk;exact qE.mp ha
theorem zl1 {m j:Nat}{f:Nat→Option β}{b: β}(h:j < m)(hb:f j=some b):(zbO m f)[zcC f j]? =some b∧(zas m f)[zcC f j]? =some j:=by
 obtain ⟨R,e,_⟩:=zet h
 constructor
 ·have el:zbO m f=zbO j f++b::R.filterMap f:=by
   unfold zbO
   rw [e,vK,qK,hb]
  rw [el,qR (by rw [zcs];exact yN _),zcs]
  show (b::_)[(zas j f).length - (zas j f).length]? =_
  rw [yaf]
  rfl
 ·obtain ⟨B,eB,_⟩:=zgo (f:=f) h
  rw [eB,hb,jH,qR (show (zas j f).length≤zcC f j from yN _)]
  show (_:List Nat)[(zas j f).length - (zas j f).length]? =_
  rw [yaf]
  rfl
theorem zlo {m j:Nat}{f:Nat→Option β}(hb:f j=none):j∉zas m f:=fun hk=>by
 obtain ⟨a,ha,hk⟩:=xK.mp hk
 cases hf:f a with
 | none=>rw [hf] at hk;cases hk
 | some b=>rw [hf] at hk;cases hk;rw [hb] at hf;cases hf
theorem zhN {xs:Array Nat}{j r:Nat}(hr:r≤xs.size)(lo_:∀ i,i < r→∃ x,xs[i]? =some x∧x < j)(hi_:∀ i x,r≤i→xs[i]? =some x→j≤x):
  ∀ (fuel lo hi:Nat),hi - lo≤fuel→lo≤r→r≤hi→hi≤xs.size→yb7 xs j fuel lo hi=r
 | 0,lo,hi,h1,h2,h3,_=>by
  show lo=r
  omega
 | fuel+1,lo,hi,h1,h2,h3,h4=>by
  unfold yb7
  split
  ·rename_i hlt
   have hm:(lo+hi) / 2 < xs.size:=by omega
   have eg:xs.getD ((lo+hi) / 2) j=xs[(lo+hi) / 2]:=by
    rw [xF,xN hm]
    rfl
   dsimp only
   rw [eg]
   split
   ·rename_i c
    refine zhN hr lo_ hi_ fuel _ _ (by omega) ?_ h3 h4
    refine vF fun z=>?_
    have:=hi_ _ _ (by omega) (xN hm)
    omega
   ·rename_i c
    refine zhN hr lo_ hi_ fuel _ _ (by omega) h2 ?_ (by omega)
    refine vF fun z=>?_
    obtain ⟨x,e1,e2⟩:=lo_ _ (show (lo+hi) / 2 < r by omega)
    rw [xN hm] at e1
    cases e1
    omega
  ·omega
theorem zf3 {m j:Nat}{f:Nat→Option β}(h:j < m):xM (zas m f).toArray j=zcC f j:=by
 obtain ⟨B,eB,hB⟩:=zgo (f:=f) h
 have sz:(zas m f).toArray.size=(zas m f).length:=yQ
 have le:zcC f j≤(zas m f).length:=by
  rw [eB,jH,yJ]
  exact xZ _ _
 refine zhN (by rw [sz];exact le) (fun i hi=>?_) (fun i x hi e=>?_) _ _ _ (yN _) (qN _) (by rw [sz];exact le) (yN _)
 ·rw [jN,eB,jH,qY hi]
  refine ⟨(zas j f)[i],yC hi,zmu _ (jO hi)⟩
 ·rw [jN,eB,jH,qR hi] at e
  have hm:=yI e
  rcases yP.mp hm with z | z
  ·cases hf:f j with
   | none=>rw [hf] at z;cases z
   | some b=>rw [hf] at z;rw [yF.mp z];exact yN _
  ·exact kU (hB _ z)
theorem zlC {t:SetTable}{m j:Nat}{f:Nat→Option β}(ep:t.place=(zas m f).toArray)(ed:t.dummies= #[])(h:j < m):t.slot j=match f j with | some _=>.live (zcC f j) | none=>.empty:=by
 unfold SetTable.slot
 rw [ep,zf3 h]
 cases hf:f j with
 | some b=>
  have:=(zl1 h hf).2
  dsimp only
  rw [jN,this]
  simp
 | none=>
  have ne:((zas m f).toArray[zcC f j]? ==some j)=false:=by
   rw [jN]
   refine beq_eq_false_iff_ne.mpr fun z=>zlo hf (yI z)
  have hd:ycb t.dummies j=false:=by
   unfold ycb
   rw [ed]
   rfl
  dsimp only
  rw [ne,hd]
  rfl
noncomputable def zbJ (f:Nat→Option β) (j:Nat) (b: β):Nat→Option β :=fun k=>if k=j then some b else f k
theorem ziC {m j:Nat}{f:Nat→Option β}{b: β}(h:j < m)(hf:f j=none):zas m (zbJ f j b)=(zas m f).take (zcC f j)++j::(zas m f).drop (zcC f j)∧zbO m (zbJ f j b)=(zbO m f).take (zcC f j)++b::(zbO m f).drop (zcC f j):=by
 obtain ⟨R,e,hR⟩:=zet h
 have off:∀ k,k≠j→zbJ f j b k=f k:=fun k hk=>if_neg hk
 have on:zbJ f j b j=some b:=if_pos rfl
 constructor
 ·have e1:zas m f=zas j f++R.filterMap fun j=>(f j).map fun _=>j:=by
   unfold zas
   rw [e,vK,qK,hf]
   rfl
  have e2:zas m (zbJ f j b)=zas j f++j::R.filterMap fun j=>(f j).map fun _=>j:=by
   unfold zas
   rw [e,vK,qK,on]
   congr 1
   ·exact zcE fun k hk=>congrArg (Option.map fun _=>k) (off k (qC (qE.mp hk)))
   ·show j::_=j::_
    rw [zcE fun k hk=>congrArg (Option.map fun _=>k) (off k (yae (hR k hk)))]
  rw [e2,e1]
  show _=(zas j f++_).take (zas j f).length++j::(zas j f++_).drop (zas j f).length
  rw [List.take_left,List.drop_left]
 ·have e1:zbO m f=zbO j f++R.filterMap f:=by
   unfold zbO
   rw [e,vK,qK,hf]
  have e2:zbO m (zbJ f j b)=zbO j f++b::R.filterMap f:=by
   unfold zbO
   rw [e,vK,qK,on]
   congr 1
   ·exact zcE fun k hk=>off k (qC (qE.mp hk))
   ·show b::_=b::_
    rw [zcE fun k hk=>off k (yae (hR k hk))]
  rw [e2,e1,show zcC f j=(zbO j f).length from (zcs j f).symm,List.take_left,List.drop_left]
end
noncomputable def zfC (mask:Nat) (p:xA):xA:=
 if p.more > 0 then {p with j:=p.j+1,more:=p.more - 1} else
 {p with j:=(p.i * 5+1+p.perturb / 32) % (mask+1),more:=jA mask ((p.i * 5+1+p.perturb / 32) % (mask+1)) - (p.i * 5+1+p.perturb / 32) % (mask+1),i:=(p.i * 5+1+p.perturb / 32) % (mask+1),perturb:=p.perturb / 32}
noncomputable def zbz (mask:Nat) (p:xA):Nat→xA
 | 0=>p
 | n+1=>zbz mask (zfC mask p) n
theorem zd3 (mask:Nat):∀ (a b:Nat) (p:xA),zbz mask p (a+b)=zbz mask (zbz mask p a) b
 | 0,b,p=>by rw [Nat.zero_add];rfl
 | a+1,b,p=>by
  rw [ybZ]
  exact zd3 mask a b (zfC mask p)
theorem zh1 (mask:Nat)(p:xA)(n:Nat):zbz mask p (n+1)=zfC mask (zbz mask p n):=zd3 mask n 1 p
theorem zih {mask:Nat}:∀ (n:Nat) {p:xA},p.dummy=none→(zbz mask p n).dummy=none
 | 0,p,h=>h
 | n+1,p,h=>zih n (by unfold zfC;split <;> exact h)
noncomputable def runP (mask i q:Nat):xA:={j:=i,more:=jA mask i - i,i,perturb:=q,dummy:=none}
theorem zm3 (mask i:Nat):jA mask i - i≤9:=by
 unfold jA
 split <;> omega
theorem zhA (mask:Nat):∀ (k:Nat) (p:xA),p.more=k→p.dummy=none→zbz mask p (k+1)=runP mask ((p.i * 5+1+p.perturb / 32) % (mask+1)) (p.perturb / 32)
 | 0,p,h,d=>by
  show zfC mask p=_
  unfold zfC runP
  rw [if_neg (by omega),d]
 | k+1,p,h,d=>by
  show zbz mask (zfC mask p) (k+1)=_
  have e:zfC mask p= {p with j:=p.j+1,more:=p.more - 1}:=if_pos (by omega)
  rw [e]
  exact zhA mask k {p with j:=p.j+1,more:=p.more - 1} (by show p.more - 1=k;omega) d
theorem leaps (mask:Nat):∀ (n i q:Nat),i≤mask→∃ m i',m≤10 * n∧i'≤mask∧zbz mask (runP mask i q) m=runP mask i' (q / 32 ^ n)
 | 0,i,q,h=>⟨0,i,yN _,h,by rw [Nat.pow_zero,Nat.div_one];rfl⟩
 | n+1,i,q,h=>by
  have hl:=zhA mask _ (runP mask i q) rfl rfl
  have hm:=zm3 mask i
  have lt:(i * 5+1+q / 32) % (mask+1)≤mask:=vP (yau _ (wP _))
  obtain ⟨m,i',h1,h2,h3⟩:=leaps mask n ((i * 5+1+q / 32) % (mask+1)) (q / 32) lt
  refine ⟨(jA mask i - i+1)+m,i',by omega,h2,?_⟩
  rw [zd3]
  show zbz mask (zbz mask (runP mask i q) ((runP mask i q).more+1)) m=_
  rw [hl]
  show zbz mask (runP mask ((i * 5+1+q / 32) % (mask+1)) (q / 32)) m=_
  rw [h3,ybs,yaX,yaW]
noncomputable def znu (mask:Nat):Nat→xA→List Nat
 | 0,_=>[]
 | n+1,p=>p.j::znu mask n (zfC mask p)
theorem zhw {mask j:Nat}:∀ {n:Nat} {p:xA},j∈znu mask n p→∃ m,m < n∧(zbz mask p m).j=j
 | n+1,p,h=>by
  rcases yO.mp h with rfl | h
  ·exact ⟨0,wP _,rfl⟩
  ·obtain ⟨m,h1,h2⟩:=zhw h
   exact ⟨m+1,by omega,h2⟩
theorem cover7:((qI 8).all fun i=>(qI 8).all fun j=>(znu 7 8 (runP 7 i 0)).contains j)=true:=by decide+kernel
theorem zoG:((qI 32).all fun i=>(qI 32).all fun j=>(znu 31 320 (runP 31 i 0)).contains j)=true:=by decide+kernel
theorem zgU (h:Int):jM h / 32 ^ 13=0:=by
 refine Nat.div_eq_of_lt ?_
 unfold jM
 have h1:=jX h (b:=2 ^ 64) (by decide)
 have h2:=jI h (b:=2 ^ 64) (by decide)
 have:((2:Int) ^ 64) < ((32 ^ 13:Nat):Int):=by decide
 omega
theorem cover {mask:Nat}(hm:mask=7∨mask=31)(h:Int){j:Nat}(hj:j≤mask):∃ m,m < 10 * xS mask∧(zbz mask (runP mask (jM h % (mask+1)) (jM h)) m).j=j:=by
 obtain ⟨m,i,h1,h2,h3⟩:=leaps mask 13 (jM h % (mask+1)) (jM h) (vP (yau _ (wP _)))
 rw [zgU] at h3
 rcases hm with rfl | rfl
 ·have c:=yX.mp (yX.mp cover7 i (qE.mpr (by omega))) j (qE.mpr (by omega))
  obtain ⟨k,k1,k2⟩:=zhw (qU.mp c)
  refine ⟨m+k,by show _ < 10 * (7+15);omega,?_⟩
  rw [zd3,h3,k2]
 ·have c:=yX.mp (yX.mp zoG i (qE.mpr (by omega))) j (qE.mpr (by omega))
  obtain ⟨k,k1,k2⟩:=zhw (qU.mp c)
  refine ⟨m+k,by show _ < 10 * (31+15);omega,?_⟩
  rw [zd3,h3,k2]
theorem zi8 {mask i:Nat}(h:i≤mask):i+(jA mask i - i)≤mask:=by
 unfold jA
 split <;> omega
theorem zj8 {mask:Nat}:∀ (n:Nat) {p:xA},p.j+p.more≤mask→(zbz mask p n).j+(zbz mask p n).more≤mask
 | 0,p,h=>h
 | n+1,p,h=>by
  refine zj8 n ?_
  unfold zfC
  split
  ·show p.j+1+(p.more - 1)≤mask
   omega
  ·exact zi8 (vP (yau _ (wP _)))
theorem zlD (mask:Nat)(h:Int):(runP mask (jM h % (mask+1)) (jM h)).j+(runP mask (jM h % (mask+1)) (jM h)).more≤mask:=zi8 (vP (yau _ (wP _)))
noncomputable abbrev wkT (mask:Nat) (h:Int) (m:Nat):xA:=zbz mask (runP mask (jM h % (mask+1)) (jM h)) m
theorem zhH (mask:Nat)(h:Int)(m:Nat):(wkT mask h m).j < mask+1:=by
 have:=zj8 (mask:=mask) m (zlD mask h)
 show (zbz mask _ m).j < _
 omega
theorem zks {β :Type}{t:SetTable}{f:Nat→Option β}{hs: β→Int}{hashAt:Nat→Int}{h:Int}(ep:t.place=(zas (t.mask+1) f).toArray)(ed:t.dummies= #[])
  (hh:∀ j b,j < t.mask+1→f j=some b→hashAt (zcC f j)=hs b) {ms:Nat} (he:f (wkT t.mask h ms).j=none):
  ∀ (fuel m0:Nat),ms - m0 < fuel→m0≤ms→(∀ m,m0≤m→m < ms→∃ b,f (wkT t.mask h m).j=some b)→
   (∃ m1 b,m0≤m1∧m1 < ms∧f (wkT t.mask h m1).j=some b∧hs b=h∧(∀ m b',m0≤m→m < m1→f (wkT t.mask h m).j=some b'→hs b'≠h)∧wU t hashAt h fuel (wkT t.mask h m0)=some (.candidate (wkT t.mask h m1).j (zcC f (wkT t.mask h m1).j) (wkT t.mask h (m1+1))))∨
   ((∀ m b',m0≤m→m < ms→f (wkT t.mask h m).j=some b'→hs b'≠h)∧wU t hashAt h fuel (wkT t.mask h m0)=some (.empty (wkT t.mask h ms).j none))
 | 0,m0,hf,_,_=>absurd hf (xV _)
 | fuel+1,m0,hf,hle,hb=>by
  have low:=zhH t.mask h m0
  have dn:(wkT t.mask h m0).dummy=none:=zih m0 rfl
  have nx:t.advance (wkT t.mask h m0)=wkT t.mask h (m0+1):=(zh1 t.mask _ m0).symm
  unfold wU
  rw [zlC ep ed low]
  by_cases e:m0=ms
  ·subst e
   rw [he]
   refine .inr ⟨fun m b' h1 h2=>absurd h1 (by omega),?_⟩
   show some (yca.empty _ (wkT t.mask h m0).dummy)=_
   rw [dn]
  ·obtain ⟨b,hbm⟩:=hb m0 (yN _) (by omega)
   rw [hbm]
   show (∃ m1 b,_)∨_
   by_cases c:hs b=h
   ·refine .inl ⟨m0,b,yN _,by omega,hbm,c,fun m b' h1 h2=>absurd h1 (by omega),?_⟩
    show (if (hashAt (zcC f (wkT t.mask h m0).j)==h)=true then _ else _)=_
    rw [hh _ _ low hbm,c,if_pos (beq_self_eq_true h),nx]
   ·have go1:(if (hashAt (zcC f (wkT t.mask h m0).j)==h)=true then some (yca.candidate (wkT t.mask h m0).j (zcC f (wkT t.mask h m0).j) (t.advance (wkT t.mask h m0))) else wU t hashAt h fuel (t.advance (wkT t.mask h m0)))=wU t hashAt h fuel (wkT t.mask h (m0+1)):=by
     rw [hh _ _ low hbm,if_neg (fun z=>c (eq_of_beq z)),nx]
    rcases zks ep ed hh he fuel (m0+1) (by omega) (by omega) (fun m h1 h2=>hb m (by omega) h2) with ⟨m1,b1,a1,a2,a3,a4,a5,a6⟩ | ⟨a1,a2⟩
    ·refine .inl ⟨m1,b1,by omega,a2,a3,a4,fun m b' h1 h2 h3=>?_,go1.trans a6⟩
     by_cases z:m=m0
     ·subst z
      rw [hbm] at h3
      cases h3
      exact c
     ·exact a5 m b' (by omega) h2 h3
    ·refine .inr ⟨fun m b' h1 h2 h3=>?_,go1.trans a2⟩
     by_cases z:m=m0
     ·subst z
      rw [hbm] at h3
      cases h3
      exact c
     ·exact a1 m b' (by omega) h2 h3
theorem zjM {β :Type}{mask:Nat}(hm:mask=7∨mask=31){f:Nat→Option β}(h:Int)(he:∃ j,j≤mask∧f j=none):∃ ms,ms < 10 * xS mask∧f (wkT mask h ms).j=none∧∀ m,m < ms→∃ b,f (wkT mask h m).j=some b:=by
 obtain ⟨j,hj,fj⟩:=he
 obtain ⟨m,hm1,hm2⟩:=cover hm h hj
 have ex:∃ m,f (wkT mask h m).j=none:=⟨m,by show f (zbz mask _ m).j=none;rw [hm2];exact fj⟩
 have some_first:∀ n,(∃ m,m≤n∧f (wkT mask h m).j=none)→∃ ms,ms≤n∧f (wkT mask h ms).j=none∧∀ m,m < ms→∃ b,f (wkT mask h m).j=some b:=by
  intro n
  induction n with
  | zero=>
   rintro ⟨m,h1,h2⟩
   obtain rfl:m=0:=by omega
   exact ⟨0,yN _,h2,fun m h=>absurd h (xV _)⟩
  | succ n ih=>
   rintro ⟨m,h1,h2⟩
   by_cases c:∃ m,m≤n∧f (wkT mask h m).j=none
   ·obtain ⟨ms,a,b,d⟩:=ih c
    exact ⟨ms,by omega,b,d⟩
   ·have:m=n+1:=vF fun z=>c ⟨m,by omega,h2⟩
    subst this
    refine ⟨n+1,yN _,h2,fun m' h'=>?_⟩
    cases hf:f (wkT mask h m').j with
    | none=>exact absurd ⟨m',by omega,hf⟩ c
    | some b=>exact ⟨b,rfl⟩
 obtain ⟨ms,a,b,d⟩:=some_first m ⟨m,yN _,by show f (zbz mask _ m).j=none;rw [hm2];exact fj⟩
 exact ⟨ms,by omega,b,d⟩
theorem zi6 {β :Type}{m:Nat}{f:Nat→Option β}(h:(zas m f).length < m):∃ j,j < m∧f j=none:=by
 refine vF fun c=>?_
 have:zas m f=qI m:=by
  unfold zas
  have:∀ l:List Nat,(∀ j∈l,j < m)→(l.filterMap fun j=>(f j).map fun _=>j)=l:=by
   intro l
   induction l with
   | nil=>exact fun _=>rfl
   | cons a l ih=>
    intro hl
    rw [qK]
    cases hf:f a with
    | none=>exact absurd ⟨a,hl a (.head _),hf⟩ c
    | some b=>
     show a::_=_
     rw [ih fun j hj=>hl j (.tail _ hj)]
  exact this _ fun j hj=>qE.mp hj
 rw [this,yav] at h
 omega
section
variable {prog:Program} {w:World} {A:Around} {E:Value→Shared→Prop} {s:Shared}
theorem zen {ks:List Key}{a:Addr}{Q:Bool→Shared→Prop}(hk:IsTupleKey (zaq prog w) s.heap ks a)(h:Q false s):wpAny (model prog w) A (ofAClassStatement 8 (.ref a)) Q E s:=by
 have hT:=hk.typeIs
 obtain ⟨o,items,n,ho,_,hd,hi⟩:=hk
 unfold ofAClassStatement
 refine yB (wpAny_typeOf hT ?_)
 show wpAny _ _ (do
   let underTuple ← if ("tuple" :String)=="tuple" then pure true else isSubtype (.type "tuple") (.type "tuple")
   _) _ _ _
 refine yB ?_
 refine yD ?_
 simp only [wC,yT,if_false]
 refine yB (wpAny_seqItems ho hd ?_)
 refine yB ?_
 show wpAny _ _ (forIn items _ _) _ _ s
 rw [← yao]
 refine wpAny_forIn_list _ (fun rest r s'=>r.1=none∧s'=s∧∀ v∈rest,carriedByValue v=true) _ ?_ ?_ _ _ ⟨rfl,rfl,hi.byValue⟩
 ·rintro v rest r s' ⟨hr,rfl,hall⟩
  have hv:=hall v jP
  have e:ofAClassStatement 7 v=pure false:=by
   cases v with
   | ref a=>simp [carriedByValue] at hv
   | _=>first | rfl | (unfold ofAClassStatement;rfl)
  rw [e]
  refine yB (yD ?_)
  simp only [yT,if_false]
  exact yD ⟨rfl,rfl,fun u hu'=>hall u (jK _ hu')⟩
 ·rintro ⟨r1,r2⟩ s' ⟨hr,rfl,_⟩
  simp only at hr
  subst hr
  exact yD h
theorem zjn {k:List Key}{a:Addr}{Q:Bool→Shared→Prop}(hu:A.units < cLine)(hk:IsTupleKey (zaq prog w) s.heap k a)(ys:List Value)
  (hy:∀ y∈ys,∃ b d,y=Value.ref b∧IsTupleKey (zaq prog w) s.heap d b) (h:Q false s):wpAny (model prog w) A (searchCouldBeSeen (.ref a) ys) Q E s:=by
 unfold searchCouldBeSeen
 refine yB ?_
 refine wpAny_forIn_list _ (fun rest r s'=>r.1=none∧s'=s∧∀ y∈rest,∃ b d,y=Value.ref b∧IsTupleKey (zaq prog w) s.heap d b) _ ?_ ?_ _ _ ⟨rfl,rfl,hy⟩
 ·rintro v rest r s' ⟨hr,rfl,hall⟩
  obtain ⟨b,d,rfl,hb⟩:=hall v jP
  have hrest:∀ y∈rest,∃ b d,y=Value.ref b∧IsTupleKey (zaq prog w) s'.heap d b:=fun u hu'=>hall u (jK _ hu')
  dsimp only
  split
  ·exact yD ⟨rfl,rfl,hrest⟩
  ·refine yB ((tupleKind (zaq prog w)).quiet hk ?_)
   simp only [wC,yT,if_false]
   refine yB ((tupleKind (zaq prog w)).quiet hb ?_)
   simp only [wC,yT,if_false]
   refine yB (zen hk ?_)
   simp only [yT,if_false]
   refine yB (zen hb ?_)
   simp only [yT,if_false]
   exact yD ⟨rfl,rfl,hrest⟩
 ·rintro ⟨r1,r2⟩ s' ⟨hr,rfl,_⟩
  simp only at hr
  subst hr
  exact yD h
theorem zjc {ks:List Key}{a:Addr}{Q:Bool→Shared→Prop}(hk:IsTupleKey (zaq prog w) s.heap ks a)(h:∀ b,Q b s):wpAny (model prog w) A (hashByValue 8 (.ref a)) Q E s:=by
 have hT:=hk.typeIs
 obtain ⟨o,items,n,ho,_,hd,hi⟩:=hk
 unfold hashByValue
 refine yB (wpAny_specialOf hT ybh.lookup ?_)
 dsimp only
 refine yB (wpAny_seqItems ho hd ?_)
 refine yB ?_
 show wpAny _ _ (forIn items _ _) _ _ s
 rw [← yao]
 refine wpAny_forIn_list _ (fun rest r s'=>r.1=none∧s'=s∧∃ kl,ya3 (zaq prog w) kl rest) _ ?_ ?_ _ _ ⟨rfl,rfl,ks,hi⟩
 ·rintro v rest r s' ⟨hr,rfl,kl,hall⟩
  cases hall with
  | @cons k _ kl' _ h1 h2=>
   rcases zba h1 with ⟨i,t,rfl,rfl⟩ | ⟨x,t,rfl,rfl⟩
   ·have e:hashByValue 7 (Value.int i t)=pure true:=by unfold hashByValue;rfl
    rw [e]
    refine yB (yD ?_)
    simp only [wC,yT,if_false]
    exact yD ⟨rfl,rfl,kl',h2⟩
   ·have e:hashByValue 7 (Value.str x t)=pure false:=by unfold hashByValue;rfl
    rw [e]
    refine yB (yD ?_)
    simp only [Bool.not_false,if_true]
    exact yD (yD (h false))
 ·rintro ⟨r1,r2⟩ s' ⟨hr,rfl,_⟩
  simp only at hr
  subst hr
  exact yD (h true)
noncomputable abbrev zbe (prog:Program) (w:World) (k:List Key):Int:=tupleKeyHash (zaq prog w) k
noncomputable def entX (prog:Program) (w:World) (x:List Key×Addr):Int×Value:=(zbe prog w x.1,Value.ref x.2)
noncomputable def zbx (prog:Program) (w:World) (m:Nat) (f:Nat→Option (List Key×Addr)):Array (Int×Value):=((zbO m f).map (entX prog w)).toArray
structure TbS (prog:Program) (w:World) (h:Heap) (S:Addr) (t:SetTable) (f:Nat→Option (List Key×Addr)):Prop where
 here:∃ o ep,h.get? S=some o∧o.ExactSet∧o.data= .set (zbx prog w (t.mask+1) f) ep t
 mask:t.mask=7∨t.mask=31
 place:t.place=(zas (t.mask+1) f).toArray
 dum:t.dummies= #[]
 room:(zas (t.mask+1) f).length * 5 < t.mask * 3
 keys:∀ j x,f j=some x→j < t.mask+1∧IsTupleKey (zaq prog w) h x.1 x.2
 one:∀ i j x y,f i=some x→f j=some y→x.1=y.1→i=j
 reach:∀ j x,f j=some x→∃ m,(wkT t.mask (zbe prog w x.1) m).j=j∧∀ m',m' < m→∃ y,f (wkT t.mask (zbe prog w x.1) m').j=some y
theorem TbS.fits {h:Heap}{S:Addr}{t:SetTable}{f:Nat→Option (List Key×Addr)}(T:TbS prog w h S t f):t.fits (zbx prog w (t.mask+1) f).size=true:=by
 have e:(zbx prog w (t.mask+1) f).size=(zas (t.mask+1) f).length:=by
  unfold zbx
  rw [yQ,yA,zcs]
 have r:=T.room
 have m:=T.mask
 unfold SetTable.fits yb0
 rw [e,T.place,T.dum,yQ]
 simp only [qA,beq_self_eq_true,true_and,decide_eq_true_eq]
 show _+0≤_
 omega
theorem TbS.ent {h:Heap}{S:Addr}{t:SetTable}{f:Nat→Option (List Key×Addr)}(T:TbS prog w h S t f){j:Nat}{x:List Key×Addr}(hx:f j=some x):(zbx prog w (t.mask+1) f)[zcC f j]? =some (entX prog w x):=by
 unfold zbx
 rw [jN,yE,(zl1 (T.keys j x hx).1 hx).1]
 rfl
theorem TbS.empty {h:Heap}{S:Addr}{t:SetTable}{f:Nat→Option (List Key×Addr)}(T:TbS prog w h S t f)(hs:Int):∃ ms,ms < 10 * xS t.mask∧f (wkT t.mask hs ms).j=none∧∀ m,m < ms→∃ b,f (wkT t.mask hs m).j=some b:=by
 obtain ⟨j,h1,h2⟩:=zi6 (f:=f) (m:=t.mask+1) (by have:=T.room;have:=T.mask;omega)
 exact zjM T.mask hs ⟨j,by omega,h2⟩
theorem zjE {S a:Addr}{t:SetTable}{f:Nat→Option (List Key×Addr)}{k:List Key}{Q:SetFound→Shared→Prop}(hu:A.units < cLine)(T:TbS prog w s.heap S t f)(hk:IsTupleKey (zaq prog w) s.heap k a){ms:Nat}
  (m1:ms < 10 * xS t.mask) (m2:f (wkT t.mask (zbe prog w k) ms).j=none) (m3:∀ m,m < ms→∃ b,f (wkT t.mask (zbe prog w k) m).j=some b):
  ∀ (n m0:Nat) (stand:Option xA),ms - m0 < n→m0≤ms→stand.getD (t.probeStart (zbe prog w k))=wkT t.mask (zbe prog w k) m0→
   ((∃ m x,m0≤m∧m < ms∧f (wkT t.mask (zbe prog w k) m).j=some x∧x.1=k)→Q (.there none) s)→
   ((¬∃ m x,m0≤m∧m < ms∧f (wkT t.mask (zbe prog w k) m).j=some x∧x.1=k)→Q (.free (wkT t.mask (zbe prog w k) ms).j false) s)→
   wpAny (model prog w) A (setSearchFrom S (.ref a) (zbe prog w k) true n stand) Q E s:=by
 obtain ⟨o,ep,ho,hex,hd⟩:=T.here
 have hf:=T.fits
 have hgw:t.gaveWay=false:=by
  unfold SetTable.gaveWay
  rcases T.mask with e | e <;> rw [e] <;> rfl
 have hh:∀ (j:Nat) (b:List Key×Addr),j < t.mask+1→f j=some b→(((zbx prog w (t.mask+1) f)[zcC f j]?).map (fun x:Int×Value=>x.1)).getD 0=zbe prog w b.1:=fun j b _ hb=>by
  rw [T.ent hb]
  rfl
 intro n
 induction n with
 | zero=>exact fun m0 stand h=>absurd h (xV _)
 | succ n ih=>
  intro m0 stand hn hle hst h1 h2
  unfold setSearchFrom
  refine yB (wpAny_setState_of ho hd hf ?_)
  dsimp only
  rw [hgw]
  simp only [yT,if_false]
  have pr:=zks (hs:=fun b:List Key×Addr=>zbe prog w b.1) (hashAt:=fun i=>((zbx prog w (t.mask+1) f)[i]?.map (fun x:Int×Value=>x.1)).getD 0) (h:=zbe prog w k) T.place T.dum hh m2 (10 * xS t.mask) m0 (by omega) hle fun m _ h=>m3 m h
  rw [hst]
  split
  rotate_left
  ·rename_i hno
   exfalso
   rcases pr with ⟨m1',b,a1,a2,a3,a4,a5,a6⟩ | ⟨a1,a2⟩
   ·exact hno _ a6
   ·exact hno _ a2
  rename_i met heq
  rcases pr with ⟨m1',b,a1,a2,a3,a4,a5,a6⟩ | ⟨a1,a2⟩
  ·obtain rfl:met= .candidate (wkT t.mask (zbe prog w k) m1').j (zcC f (wkT t.mask (zbe prog w k) m1').j) (wkT t.mask (zbe prog w k) (m1'+1)):=qF (heq.symm.trans a6)
   have hbk:=(T.keys _ _ a3).2
   have low:=(T.keys _ _ a3).1
   have hes:=T.ent a3
   have hsl:=zlC T.place T.dum low
   rw [a3] at hsl
   have rest:wpAny (model prog w) A (holding [Value.ref b.2] (eqBool (.ref b.2) (.ref a))) (fun equal s'=>equal=decide (b.1=k)∧s'=s) E s:=by
    refine wpAny_holding ((tupleKind (zaq prog w)).eqBool hu hbk hk ?_)
    exact ⟨rfl,rfl⟩
   have sm:t.sameMemory t.moves t.mask=some true:=by
    unfold SetTable.sameMemory
    rw [if_pos (beq_self_eq_true _)]
   have main:wpAny (model prog w) A (do
     let equal ← holding [Value.ref b.2] (eqBool (Value.ref b.2) (Value.ref a))
     let x ← setState S
     if (true && equal)=true then pure (SetFound.there none)
      else
       match x.2.snd.sameMemory t.moves t.mask with
       | some same=>
        match if same=true then x.2.snd.slot (wkT t.mask (zbe prog w k) m1').j else SetTable.Slot.empty with
        | SetTable.Slot.live i'=>
         match x.fst[i']? with
         | some (_,y')=>do
          let z ← isSame y' (Value.ref b.2)
          let still ← pure (if z=true then some i' else none)
          match still with
           | none=>do
            rule "set.search.anew"
            setSearchFrom S (Value.ref a) (zbe prog w k) true n none
           | some i'=>
            if equal=true then pure (SetFound.there (some i'))
            else setSearchFrom S (Value.ref a) (zbe prog w k) true n (some (wkT t.mask (zbe prog w k) (m1'+1)))
         | none=>do
          let still ← pure none
          match still with
           | none=>do
            rule "set.search.anew"
            setSearchFrom S (Value.ref a) (zbe prog w k) true n none
           | some i'=>
            if equal=true then pure (SetFound.there (some i'))
            else setSearchFrom S (Value.ref a) (zbe prog w k) true n (some (wkT t.mask (zbe prog w k) (m1'+1)))
        | _=>do
         let still ← pure none
         match still with
          | none=>do
           rule "set.search.anew"
           setSearchFrom S (Value.ref a) (zbe prog w k) true n none
          | some i'=>
           if equal=true then pure (SetFound.there (some i'))
           else setSearchFrom S (Value.ref a) (zbe prog w k) true n (some (wkT t.mask (zbe prog w k) (m1'+1)))
       | _=>unsupported "set.changed-during-lookup:is-the-new-block-at-the-old-address") Q E s:=by
    refine yB (wpAny_mono rest ?_ fun _ _ z=>z)
    rintro eq s' ⟨rfl,rfl⟩
    refine yB (wpAny_setState_of ho hd hf ?_)
    dsimp only
    by_cases c:b.1=k
    ·rw [decide_eq_true c]
     exact yD (h1 ⟨m1',b,a1,a2,a3,c⟩)
    ·rw [decide_eq_false c,sm]
     simp only [ya1,yT,if_false,if_true]
     rw [hsl]
     dsimp only
     rw [hes]
     dsimp only [entX]
     refine yB (wpAny_isSame_ref_self ?_)
     refine yB (yD ?_)
     simp only [if_true]
     refine ih (m1'+1) (some _) (by omega) (by omega) rfl (fun ⟨m,x,c1,c2,c3,c4⟩=>h1 ⟨m,x,by omega,c2,c3,c4⟩) fun hn2=>h2 fun ⟨m,x,c1,c2,c3,c4⟩=>?_
     by_cases e1:m < m1'
     ·exact a5 m x c1 e1 c3 (by rw [c4])
     ·by_cases e2:m=m1'
      ·rw [e2,a3] at c3
       cases c3
       exact c c4
      ·exact hn2 ⟨m,x,by omega,c2,c3,c4⟩
   dsimp only
   rw [hes]
   dsimp only [entX]
   split
   ·refine yB (zjn hu hk _ (fun y hy=>?_) ?_)
    ·obtain ⟨q,hq,rfl⟩:=yS.mp hy
     rw [ybM] at hq
     have hq2:=(kC.mp hq).1
     obtain ⟨x',hx',rfl⟩:=yS.mp (show q∈(zbO (t.mask+1) f).map (entX prog w) from hq2)
     obtain ⟨j',_,hj'⟩:=xK.mp hx'
     exact ⟨x'.2,x'.1,rfl,(T.keys _ _ hj').2⟩
    ·simp only [yT,if_false]
     exact main
   ·exact main
  ·obtain rfl:met= .empty (wkT t.mask (zbe prog w k) ms).j none:=qF (heq.symm.trans a2)
   refine yD (h2 fun ⟨m,x,b1,b2,b3,b4⟩=>a1 m x b1 b2 b3 (by rw [b4]))
end
noncomputable def lpI (mask:Nat):Nat→Nat→Nat→Nat
 | 0,i,_=>i
 | n+1,i,q=>lpI mask n ((i * 5+1+q / 32) % (mask+1)) (q / 32)
theorem zmW (mask:Nat):∀ (a b i q:Nat),lpI mask (a+b) i q=lpI mask b (lpI mask a i q) (q / 32 ^ a)
 | 0,b,i,q=>by rw [Nat.zero_add,Nat.pow_zero,Nat.div_one];rfl
 | a+1,b,i,q=>by
  rw [ybZ]
  show lpI mask (a+b) _ _=_
  rw [zmW mask a b,ybs,yaX,yaW 32]
  rfl
theorem zml {mask:Nat}:∀ (n:Nat) {i q:Nat},i≤mask→lpI mask n i q≤mask
 | 0,_,_,h=>h
 | n+1,_,_,_=>zml n (vP (yau _ (wP _)))
theorem ring31:((qI 32).all fun i=>(qI 32).all fun j=>(qI 32).any fun n=>lpI 31 n i 0==j)=true:=by decide+kernel
theorem ring {i q j:Nat}(hi:i≤31)(hq:q / 32 ^ 13=0)(hj:j≤31):∃ n,n < xS 31∧lpI 31 n i q=j:=by
 have low:=zml (mask:=31) 13 (q:=q) hi
 have c:=yX.mp (yX.mp ring31 (lpI 31 13 i q) (qE.mpr (by omega))) j (qE.mpr (by omega))
 obtain ⟨n,hn,e⟩:=ycf.mp c
 have hn:=qE.mp hn
 refine ⟨13+n,by show 13+n < 31+15;omega,?_⟩
 rw [zmW,hq]
 exact eq_of_beq e
theorem ziG (mask:Nat):∀ (k i q:Nat),k≤jA mask i - i→(zbz mask (runP mask i q) k).j=i+k∧(zbz mask (runP mask i q) k).more=jA mask i - i - k∧(zbz mask (runP mask i q) k).i=i∧(zbz mask (runP mask i q) k).perturb=q
 | 0,i,q,_=>⟨rfl,rfl,rfl,rfl⟩
 | k+1,i,q,h=>by
  obtain ⟨a,b,c,d⟩:=ziG mask k i q (by omega)
  rw [zh1]
  unfold zfC
  rw [if_pos (by rw [b];omega)]
  exact ⟨by show (zbz mask (runP mask i q) k).j+1=_;rw [a];omega,by show (zbz mask (runP mask i q) k).more - 1=_;rw [b];omega,c,d⟩
theorem zgJ {mask:Nat}{owner:Array (Option Nat)}(hs:owner.size=mask+1):∀ (fuel n0 i q:Nat),i≤mask→n0 < fuel→owner.getD (lpI mask n0 i q) (some 0)=none→
  ∃ ms,wI mask owner fuel i q=some (zbz mask (runP mask i q) ms).j∧owner.getD (zbz mask (runP mask i q) ms).j (some 0)=none∧∀ m,m < ms→owner.getD (zbz mask (runP mask i q) m).j (some 0)≠none
 | 0,n0,_,_,_,h,_=>absurd h (xV _)
 | fuel+1,n0,i,q,hi,hn,he=>by
  have rl:=zi8 (mask:=mask) hi
  have rge:i≤jA mask i:=by unfold jA;split <;> omega
  unfold wI
  cases hf:(qI (jA mask i+1 - i)).find? (fun k=>(owner.getD (i+k) (some 0)).isNone) with
  | some k=>
   have hp:=ycn hf
   have hm:=qE.mp (vZ hf)
   have hk:k≤jA mask i - i:=by omega
   refine ⟨k,?_,?_,fun m hmk=>?_⟩
   ·show some (i+k)=_
    rw [(ziG mask k i q hk).1]
   ·rw [(ziG mask k i q hk).1]
    exact ya2.mp hp
   ·rw [(ziG mask m i q (by omega)).1]
    intro z
    obtain ⟨as,bs,eas,hno⟩:=List.find?_eq_some_iff_append.mp hf |>.2
    have hmem:m∈as:=by
     have hlen:as.length=k:=by
      have h1:=congrArg (fun l=>l[as.length]?) eas
      rw [qR (yN _),yaf] at h1
      have h2:as.length < jA mask i+1 - i:=by
       have:=congrArg vC eas
       rw [yav,yJ,qP] at this
       omega
      rw [yaL h2] at h1
      exact qF h1
     have h1:=congrArg (fun l=>l[m]?) eas
     rw [yaL (by omega),qY (by omega)] at h1
     exact yI h1.symm
    have:=hno m hmem
    rw [z] at this
    cases this
  | none=>
   have all:=vM.mp hf
   have full:∀ m,m≤jA mask i - i→owner.getD (zbz mask (runP mask i q) m).j (some 0)≠none:=fun m hm z=>by
    rw [(ziG mask m i q hm).1] at z
    have:=all m (qE.mpr (by omega))
    rw [z] at this
    exact this rfl
   cases n0 with
   | zero=>
    exfalso
    refine full 0 (qN _) ?_
    exact he
   | succ n0=>
    have lt:(i * 5+1+q / 32) % (mask+1)≤mask:=vP (yau _ (wP _))
    obtain ⟨ms,a,b,c⟩:=zgJ hs fuel n0 ((i * 5+1+q / 32) % (mask+1)) (q / 32) lt (by omega) he
    have lp:=zhA mask _ (runP mask i q) rfl rfl
    have wk:∀ m,zbz mask (runP mask i q) (jA mask i - i+1+m)=zbz mask (runP mask ((i * 5+1+q / 32) % (mask+1)) (q / 32)) m:=fun m=>by
     rw [zd3]
     show zbz mask (zbz mask (runP mask i q) ((runP mask i q).more+1)) m=_
     rw [lp]
     rfl
    refine ⟨jA mask i - i+1+ms,?_,?_,fun m hm=>?_⟩
    ·rw [wk]
     exact a
    ·rw [wk]
     exact b
    ·by_cases e:m≤jA mask i - i
     ·exact full m e
     ·obtain ⟨m',rfl⟩:∃ m',m=jA mask i - i+1+m':=⟨m - (jA mask i - i+1),by omega⟩
      rw [wk]
      exact c m' (by omega)
noncomputable abbrev foO (owner:Array (Option Nat)):Nat→Option Nat:=fun j=>owner.getD j none
structure zez (hs:List Int) (owner:Array (Option Nat)) (n:Nat):Prop where
 size:owner.size=32
 cnt:(zas 32 (foO owner)).length=n
 low:∀ j k,foO owner j=some k→j < 32∧k < n
 hit:∀ k,k < n→∃ j,foO owner j=some k
 one:∀ i j k,foO owner i=some k→foO owner j=some k→i=j
 reach:∀ j k,foO owner j=some k→∃ h,hs[k]? =some h∧∃ m,(wkT 31 h m).j=j∧∀ m',m' < m→∃ k',foO owner (wkT 31 h m').j=some k'
theorem zhl {owner:Array (Option Nat)}{j:Nat}(h:j < owner.size)(d:Option Nat):owner.getD j d=owner.getD j none:=by
 rw [xF,xF,xN h]
 rfl
theorem zoK {owner:Array (Option Nat)}{j:Nat}(h:j < owner.size)(v:Option Nat)(i:Nat):foO (owner.setIfInBounds j v) i=if i=j then v else foO owner i:=by
 show (owner.setIfInBounds j v).getD i none=_
 rw [xF,Array.getElem?_setIfInBounds]
 by_cases e:j=i
 ·subst e
  rw [if_pos rfl,if_pos h,if_pos rfl]
  rfl
 ·rw [if_neg e,if_neg (fun z=>e z.symm)]
  show _=owner.getD i none
  rw [xF]
noncomputable def zlQ (acc:Option (Array (Option Nat)×Nat)) (h:Int):Option (Array (Option Nat)×Nat):=do
 let (owner,k) ← acc
 let j ← wI 31 owner (xS 31) (jM h % (31+1)) (jM h)
 pure (owner.setIfInBounds j (some k),k+1)
theorem zoJ {hs:List Int}{owner:Array (Option Nat)}{n:Nat}{h:Int}(I:zez hs owner n)(hn:hs[n]? =some h)(few:n < 31):∃ owner',zlQ (some (owner,n)) h=some (owner',n+1)∧zez hs owner' (n+1):=by
 obtain ⟨j0,hj0,ej0⟩:=zi6 (f:=foO owner) (m:=32) (by rw [I.cnt];omega)
 have hi:jM h % (31+1)≤31:=vP (yau _ (wP _))
 obtain ⟨n0,h1,h2⟩:=ring hi (zgU h) (show j0≤31 by omega)
 have e0:owner.getD (lpI 31 n0 (jM h % (31+1)) (jM h)) (some 0)=none:=by
  rw [h2,zhl (by rw [I.size];exact hj0)]
  exact ej0
 obtain ⟨ms,a,b,c⟩:=zgJ (mask:=31) I.size (xS 31) n0 _ (jM h) hi h1 e0
 have low:=zhH 31 h ms
 have jlt:(wkT 31 h ms).j < owner.size:=by rw [I.size];exact low
 have eN:foO owner (wkT 31 h ms).j=none:=by
  show owner.getD (wkT 31 h ms).j none=none
  rw [← zhl jlt (some 0)]
  exact b
 have before:∀ m,m < ms→∃ k,foO owner (wkT 31 h m).j=some k:=fun m hm=>by
  cases hk:foO owner (wkT 31 h m).j with
  | some k=>exact ⟨k,rfl⟩
  | none=>
   exfalso
   refine c m hm ?_
   show owner.getD (wkT 31 h m).j (some 0)=none
   rw [zhl (by rw [I.size];exact zhH 31 h m)]
   exact hk
 have sg:=zoK jlt (some n)
 have more:∀ i k,foO owner i=some k→∃ k',foO (owner.setIfInBounds (wkT 31 h ms).j (some n)) i=some k':=fun i k hk=>by
  rw [sg]
  split
  ·exact ⟨n,rfl⟩
  ·exact ⟨k,hk⟩
 refine ⟨owner.setIfInBounds (wkT 31 h ms).j (some n),?_,⟨by rw [Array.size_setIfInBounds,I.size],?_,fun j k hk=>?_,fun k hk=>?_,fun i j k h1 h2=>?_,fun j k hk=>?_⟩⟩
 ·show (do let j ← wI 31 owner (xS 31) (jM h % (31+1)) (jM h);pure (owner.setIfInBounds j (some n),n+1):Option _)=_
  rw [a]
  rfl
 ·have ef:foO (owner.setIfInBounds (wkT 31 h ms).j (some n))=zbJ (foO owner) (wkT 31 h ms).j n:=funext fun i=>by
   rw [sg]
   rfl
  rw [ef,(ziC low eN).1,yJ,qP,yR,jW]
  have:(zas (31+1) (foO owner)).length=n:=I.cnt
  omega
 ·rw [sg] at hk
  split at hk
  ·rename_i e
   cases hk
   exact ⟨by rw [e];exact low,yaa _⟩
  ·obtain ⟨x,y⟩:=I.low j k hk
   exact ⟨x,by omega⟩
 ·by_cases e:k=n
  ·subst e
   exact ⟨(wkT 31 h ms).j,by rw [sg,if_pos rfl]⟩
  ·obtain ⟨j,hj⟩:=I.hit k (by omega)
   refine ⟨j,?_⟩
   rw [sg,if_neg (fun z=>by rw [z,eN] at hj;cases hj)]
   exact hj
 ·rw [sg] at h1 h2
  split at h1
  ·rename_i e1
   cases h1
   split at h2
   ·rename_i e2
    rw [e1,e2]
   ·exact absurd (I.low _ _ h2).2 (vE _)
  ·split at h2
   ·cases h2
    exact absurd (I.low _ _ h1).2 (vE _)
   ·exact I.one i j k h1 h2
 ·rw [sg] at hk
  split at hk
  ·rename_i e
   cases hk
   refine ⟨h,hn,ms,e.symm,fun m hm=>?_⟩
   obtain ⟨k,hk⟩:=before m hm
   exact more _ _ hk
  ·obtain ⟨h',a1,m,a2,a3⟩:=I.reach j k hk
   refine ⟨h',a1,m,a2,fun m' hm'=>?_⟩
   obtain ⟨k',hk'⟩:=a3 m' hm'
   exact more _ _ hk'
theorem zke {hs:List Int}(few:hs.length≤31):∀ (rest done:List Int) (owner:Array (Option Nat)),hs=done++rest→zez hs owner done.length→∃ owner',(rest.foldl zlQ (some (owner,done.length))).map (·.1)=some owner'∧zez hs owner' hs.length
 | [],done,owner,e,I=>⟨owner,rfl,by rw [e,vQ] at I ⊢;exact I⟩
 | h::rest,done,owner,e,I=>by
  have hl:=congrArg vC e
  rw [yJ,qP] at hl
  obtain ⟨o',e',I'⟩:=zoJ I (h:=h) (by rw [e,qR (yN _),yaf];rfl) (by omega)
  obtain ⟨o2,e2,I2⟩:=zke few rest (done++ [h]) o' (by rw [e,jH];rfl) (by rw [yJ];exact I')
  refine ⟨o2,?_,I2⟩
  rw [vR,e']
  rw [yJ] at e2
  exact e2
theorem zpw {hs:List Int}(few:hs.length≤31):∃ owner,kQ 31 hs.toArray=some owner∧zez hs owner hs.length:=by
 have g0:∀ j,foO (yaq 32 none) j=none:=fun j=>by
  show (yaq 32 none).getD j none=none
  rw [xF,Array.getElem?_replicate]
  split <;> rfl
 have s0:zas 32 (foO (yaq 32 none))= []:=by
  unfold zas
  rw [wZ]
  intro j _
  rw [g0]
  rfl
 have I0:zez hs (yaq 32 none) 0:=⟨by rw [Array.size_replicate],by rw [s0];rfl,fun j k hk=>(by rw [g0] at hk;cases hk),fun k hk=>absurd hk (xV _),fun i j k h1=>(by rw [g0] at h1;cases h1),fun j k hk=>(by rw [g0] at hk;cases hk)⟩
 obtain ⟨owner,a,b⟩:=zke few hs [] (yaq 32 none) rfl I0
 refine ⟨owner,?_,b⟩
 unfold kQ
 rw [List.foldl_toArray']
 ·exact a
 ·rfl
theorem zoF {α β γ :Type}(f: α→Option β)(g: β→Option γ):∀ l:List α,(l.filterMap f).filterMap g=l.filterMap fun a=>(f a).bind g
 | []=>rfl
 | a::l=>by
  rw [qK,qK]
  cases f a with
  | none=>exact zoF f g l
  | some b=>
   show (b::l.filterMap f).filterMap g=_
   rw [qK,zoF f g l]
   rfl
theorem zfA {α β γ :Type}(f: α→Option β)(g: β→γ):∀ l:List α,(l.filterMap f).map g=l.filterMap fun a=>(f a).map g
 | []=>rfl
 | a::l=>by
  rw [qK,qK]
  cases f a with
  | none=>exact zfA f g l
  | some b=>
   show (b::l.filterMap f).map g=g b::_
   rw [qW,zfA f g l]
section
variable {prog:Program} {w:World} {A:Around} {E:Value→Shared→Prop} {s:Shared}
noncomputable def reF (owner:Array (Option Nat)) (L:List (List Key×Addr)):Nat→Option (List Key×Addr):=fun j=>(foO owner j).bind fun k=>L[k]?
theorem zoE {L:List (List Key×Addr)}{owner:Array (Option Nat)}{hs:List Int}(I:zez hs owner L.length){j:Nat}{x:List Key×Addr}:reF owner L j=some x↔∃ k,foO owner j=some k∧L[k]? =some x:=by
 unfold reF
 cases foO owner j with
 | none=>simp
 | some k=>simp
theorem zhr {L:List (List Key×Addr)}{owner:Array (Option Nat)}{hs:List Int}(I:zez hs owner L.length):zas 32 (reF owner L)=zas 32 (foO owner):=by
 unfold zas
 refine zcE fun j _=>?_
 unfold reF
 cases hk:foO owner j with
 | none=>rfl
 | some k=>
  show (L[k]?).map _=_
  rw [yC (I.low j k hk).2]
  rfl
theorem zlt {L:List (List Key×Addr)}{t:SetTable}{wanted:Nat}(few:L.length≤18)(hw:yb1 wanted=32):∃ t' order owner,t.relaid ((L.map (entX prog w)).toArray.map (·.1)) wanted=some (t',order)∧zez (L.map fun x=>zbe prog w x.1) owner L.length∧t'.mask=31∧t'.place=(zas 32 (reF owner L)).toArray∧t'.dummies= #[]∧order.filterMap (((L.map (entX prog w)).toArray)[·]?)=zbx prog w 32 (reF owner L):=by
 have eh:(L.map (entX prog w)).toArray.map (·.1)=(L.map fun x=>zbe prog w x.1).toArray:=by
  rw [List.map_toArray,wM]
  rfl
 obtain ⟨owner,a,I⟩:=zpw (hs:=L.map fun x=>zbe prog w x.1) (by rw [yA];omega)
 rw [yA] at I
 refine ⟨{mask:=31,place:=(((qI (31+1)).filterMap fun j=>(owner.getD j none).map (j,·)).map (·.1)).toArray,dummies:=#[],finger:=t.finger,led:=t.led,moves:=t.movedTo 31,plain:=t.plain},(((qI (31+1)).filterMap fun j=>(owner.getD j none).map (j,·)).map (·.2)).toArray,owner,?_,I,rfl,?_,rfl,?_⟩
 ·unfold SetTable.relaid SetTable.laid
  rw [eh,hw,show 32 - 1=31 from rfl,a]
  rfl
 ·show (((qI (31+1)).filterMap fun j=>(owner.getD j none).map (j,·)).map (·.1)).toArray=_
  rw [zhr I,zfA]
  congr 1
  refine zcE fun j _=>?_
  show ((owner.getD j none).map (j,·)).map (·.1)=(foO owner j).map fun _=>j
  rw [Option.map_map]
  rfl
 ·show (((qI (31+1)).filterMap fun j=>(owner.getD j none).map (j,·)).map (·.2)).toArray.filterMap _=_
  rw [List.filterMap_toArray]
  unfold zbx zbO
  congr 1
  rw [zfA,zoF,zfA]
  refine zcE fun j _=>?_
  show (((owner.getD j none).map (j,·)).map (·.2)).bind _=_
  unfold reF
  show _=((owner.getD j none).bind fun k=>L[k]?).map _
  cases hk:owner.getD j none with
  | none=>rfl
  | some k=>
   show ((L.map (entX prog w)).toArray)[k]? =(L[k]?).map _
   rw [jN,yE]
noncomputable def zdA (t:SetTable) (f:Nat→Option (List Key×Addr)):List (List Key):=(zbO (t.mask+1) f).map (·.1)
theorem zeE {h:Heap}{S:Addr}{t:SetTable}{f:Nat→Option (List Key×Addr)}(T:TbS prog w h S t f){k:List Key}:k∈zdA t f↔∃ j x,f j=some x∧x.1=k:=by
 unfold zdA zbO
 rw [yS]
 constructor
 ·rintro ⟨x,hx,e⟩
  obtain ⟨j,_,hj⟩:=xK.mp hx
  exact ⟨j,x,hj,e⟩
 ·rintro ⟨j,x,hj,e⟩
  exact ⟨x,xK.mpr ⟨j,qE.mpr (T.keys j x hj).1,hj⟩,e⟩
theorem zkT {h:Heap}{S:Addr}{t:SetTable}{f:Nat→Option (List Key×Addr)}(T:TbS prog w h S t f){k:List Key}{ms:Nat}(m2:f (wkT t.mask (zbe prog w k) ms).j=none)(m3:∀ m,m < ms→∃ b,f (wkT t.mask (zbe prog w k) m).j=some b):
  (∃ m x,0≤m∧m < ms∧f (wkT t.mask (zbe prog w k) m).j=some x∧x.1=k)↔∃ j x,f j=some x∧x.1=k:=by
 constructor
 ·rintro ⟨m,x,_,_,a,b⟩
  exact ⟨_,x,a,b⟩
 ·rintro ⟨j,x,a,rfl⟩
  obtain ⟨m,e,before⟩:=T.reach j x a
  have hm:m < ms:=by
   refine vF fun z=>?_
   by_cases eq:m=ms
   ·rw [eq] at e
    rw [e,a] at m2
    cases m2
   ·obtain ⟨y,hy⟩:=before ms (by omega)
    rw [m2] at hy
    cases hy
  exact ⟨m,x,qN _,hm,by rw [e];exact a,rfl⟩
theorem zhu {h h':Heap}{ks:List Key}{a d:Addr}{o:Obj}(x:IsTupleKey (zaq prog w) h ks a)(ho:h.get? d=some o)(hd:o.ExactSet)(hs:jB d h h'):IsTupleKey (zaq prog w) h' ks a:=by
 obtain ⟨o',items,n,ho',hc,hd',hi⟩:=x
 have hne:a≠d:=by
  rintro rfl
  obtain rfl:o'=o:=qF (ho'.symm.trans ho)
  rw [hd.1] at hc
  exact absurd (wE hc) (by decide)
 exact ⟨o',items,n,(hs.2 a hne).trans ho',hc,hd',hi⟩
theorem zg6 {h:Heap}{S:Addr}{o:Obj}{es es':Array (Int×Value)}{ep:Nat}{t t':SetTable}(ho:h.get? S=some o)(hx:o.ExactSet)(hd:o.data= .set es ep t):(h.update S (vN es' t')).get? S=some {o with data:=.set es' (ep+1) t'}:=by
 have:=vJ (vN es' t') ho (by rw [putSet_of _ _ hd];rfl)
 rw [putSet_of _ _ hd] at this
 exact this
theorem zjC {h:Heap}{S:Addr}{t:SetTable}{f:Nat→Option (List Key×Addr)}(T:TbS prog w h S t f):(zdA t f).Nodup:=by
 unfold zdA zbO
 rw [zfA,ycv,ybl]
 refine (ycg (n:=t.mask+1)).imp fun {i j} hij b hb b' hb' e=>hij ?_
 obtain ⟨x,hx,rfl⟩:=jQ.mp hb
 obtain ⟨y,hy,rfl⟩:=jQ.mp hb'
 exact T.one i j x y hx hy e
theorem zix {h h':Heap}{S:Addr}{t t':SetTable}{f f':Nat→Option (List Key×Addr)}{k:List Key}(T:TbS prog w h S t f)(T':TbS prog w h' S t' f')(nk:k∉zdA t f)(e:∀ x:List Key,(∃ j y,f' j=some y∧y.1=x)↔x=k∨∃ j y,f j=some y∧y.1=x):vB (zdA t' f') (k::zdA t f):=by
 refine (yaT (zjC T') (jV.mpr ⟨nk,zjC T⟩)).mpr fun x=>?_
 rw [zeE T',yO,zeE T]
 exact e x
structure PutOk (prog:Program) (w:World) (t tn:SetTable) (f:Nat→Option (List Key×Addr)) (k:List Key) (a:Addr) (j:Nat):Prop where
 mask:tn.mask=t.mask
 place:tn.place=(zas (t.mask+1) (zbJ f j (k,a))).toArray
 dum:tn.dummies= #[]
 ents:kP (zbx prog w (t.mask+1) f) (t.put j).2 (zbe prog w k,Value.ref a)=zbx prog w (t.mask+1) (zbJ f j (k,a))
 len:(zas (t.mask+1) (zbJ f j (k,a))).length=(zas (t.mask+1) f).length+1
theorem put_ok {h:Heap}{S:Addr}{t tn:SetTable}{f:Nat→Option (List Key×Addr)}{k:List Key}{a:Addr}{j:Nat}(T:TbS prog w h S t f)(lj:j < t.mask+1)(hf:f j=none)(e1:tn.mask=t.mask)(e2:tn.place=(t.put j).1.place)(e3:tn.dummies=(t.put j).1.dummies):PutOk prog w t tn f k a j:=by
 have bp:xM t.place j=zcC f j:=by rw [T.place,zf3 lj]
 obtain ⟨ps,pl⟩:=ziC (b:=(k,a)) lj hf
 refine ⟨e1,?_,?_,?_,?_⟩
 ·rw [e2]
  show kP t.place (xM t.place j) j=_
  rw [bp]
  refine yaC.mp ?_
  rw [yag,T.place,ps]
 ·rw [e3]
  show (if ycb t.dummies j=true then _ else t.dummies)=_
  rw [T.dum]
  rfl
 ·show kP _ (xM t.place j) _=_
  rw [bp]
  refine yaC.mp ?_
  rw [yag]
  unfold zbx
  rw [pl]
  simp only [yM,qW,wB,wT]
  rfl
 ·rw [ps,yJ,qP,yR,jW]
  have:zcC f j≤(zas (t.mask+1) f).length:=by
   obtain ⟨B,eB,_⟩:=zgo (f:=f) lj
   rw [eB,jH,yJ]
   exact xZ _ _
  omega
theorem znG {S a:Addr}{t:SetTable}{f:Nat→Option (List Key×Addr)}{k:List Key}{Q:Bool→Shared→Prop}(hu:A.units < cLine)(T:TbS prog w s.heap S t f)(hk:IsTupleKey (zaq prog w) s.heap k a)(few:(zas (t.mask+1) f).length≤12)
  (h1:∀ tk,s.toks≤tk→k∈zdA t f→Q false {s with toks:=tk})
  (h2:∀ h' tk t' f',s.toks≤tk→k∉zdA t f→jB S s.heap h'→TbS prog w h' S t' f'→vB (zdA t' f') (k::zdA t f)→(∀ i x,f' i=some x→x=(k,a)∨∃ i',f i'=some x)→Q true {s with heap:=h',toks:=tk}):
  wpAny (model prog w) A (setAdd S (.ref a)) Q E s:=by
 unfold setAdd
 refine wpAny_holding ?_
 refine yB ((tupleKind (zaq prog w)).pyHash (k:=k) hu hk ?_)
 generalize htk:s.toks+(tupleKind (zaq prog w)).draws k=tk
 have le:s.toks≤tk:=by omega
 show wpAny _ _ (setAddHashed S (.ref a) (zbe prog w k)) _ _ _
 obtain ⟨o,ep,ho,hex,hd⟩:=T.here
 have hf:=T.fits
 obtain ⟨ms,m1,m2,m3⟩:=T.empty (zbe prog w k)
 have fw:=zkT T m2 m3
 unfold setAddHashed setAddHashedIn
 refine wpAny_holding (yB (wpAny_setState_of (s:={s with toks:=tk}) ho hd hf ?_))
 dsimp only
 rw [show byScan (Value.ref a) (zbx prog w (t.mask+1) f)=false from rfl]
 simp only [yT,if_false]
 unfold setSearch
 have mlt:ms < 100000:=by
  rcases T.mask with e | e <;> rw [e] at m1
  ·have: 10 * xS 7=220:=rfl
   omega
  ·have: 10 * xS 31=460:=rfl
   omega
 refine yB (zjE (s:={s with toks:=tk}) hu T hk m1 m2 m3 100000 0 none (by omega) (qN _) rfl (fun hm=>?_) fun hm=>?_)
 ·exact yD (h1 tk le ((zeE T).mpr (fw.mp hm)))
 ·have nk:k∉zdA t f:=fun z=>hm (fw.mpr ((zeE T).mp z))
  have lj:=zhH t.mask (zbe prog w k) ms
  generalize hj:(wkT t.mask (zbe prog w k) ms).j=j at m2 lj
  have off:∀ i,i≠j→zbJ f j (k,a) i=f i:=fun i hi=>if_neg hi
  have on:zbJ f j (k,a) j=some (k,a):=if_pos rfl
  have cases9:∀ i x,zbJ f j (k,a) i=some x→(i=j∧x=(k,a))∨(i≠j∧f i=some x):=fun i x h=>by
   by_cases e:i=j
   ·subst e
    rw [on] at h
    exact .inl ⟨rfl,(qF h).symm⟩
   ·rw [off i e] at h
    exact .inr ⟨e,h⟩
  have isso:∀ x:List Key,(∃ i y,zbJ f j (k,a) i=some y∧y.1=x)↔x=k∨∃ i y,f i=some y∧y.1=x:=fun x=>by
   constructor
   ·rintro ⟨i,y,h,e⟩
    rcases cases9 i y h with ⟨_,rfl⟩ | ⟨_,h'⟩
    ·exact .inl e.symm
    ·exact .inr ⟨i,y,h',e⟩
   ·rintro (rfl | ⟨i,y,h,e⟩)
    ·exact ⟨j,_,on,rfl⟩
    ·refine ⟨i,y,?_,e⟩
     rw [off i (fun z=>by rw [z,m2] at h;cases h)]
     exact h
  have nokey:∀ i y,f i=some y→y.1≠k:=fun i y h e=>nk ((zeE T).mpr ⟨i,y,h,e⟩)
  have oneN:∀ i i' x y,zbJ f j (k,a) i=some x→zbJ f j (k,a) i'=some y→x.1=y.1→i=i':=fun i i' x y hx hy e=>by
   rcases cases9 i x hx with ⟨r1,rfl⟩ | ⟨_,hx'⟩
   ·rcases cases9 i' y hy with ⟨r2,_⟩ | ⟨_,hy'⟩
    ·rw [r1,r2]
    ·exact absurd e.symm (nokey _ _ hy')
   ·rcases cases9 i' y hy with ⟨_,rfl⟩ | ⟨_,hy'⟩
    ·exact absurd e (nokey _ _ hx')
    ·exact T.one i i' x y hx' hy' e
  have more:∀ i,(∃ y,f i=some y)→∃ y,zbJ f j (k,a) i=some y:=fun i ⟨y,h⟩=>by
   by_cases e:i=j
   ·exact ⟨_,by rw [e];exact on⟩
   ·exact ⟨y,by rw [off i e];exact h⟩
  have reachN:∀ i x,zbJ f j (k,a) i=some x→∃ m,(wkT t.mask (zbe prog w x.1) m).j=i∧∀ m',m' < m→∃ y,zbJ f j (k,a) (wkT t.mask (zbe prog w x.1) m').j=some y:=fun i x hx=>by
   rcases cases9 i x hx with ⟨r1,rfl⟩ | ⟨_,hx'⟩
   ·exact ⟨ms,by rw [r1];exact hj,fun m' h'=>more _ (m3 m' h')⟩
   ·obtain ⟨m,a1,a2⟩:=T.reach i x hx'
    exact ⟨m,a1,fun m' h'=>more _ (a2 m' h')⟩
  have fin:∀ tn:SetTable,tn.mask=t.mask→tn.place=(t.put j).1.place→tn.dummies=(t.put j).1.dummies→
    wpAny (model prog w) A (do
     storeSet S (kP (zbx prog w (t.mask+1) f) (t.put j).2 (zbe prog w k,Value.ref a)) tn
     if (!false && tn.tooFull)=true then do
      setRelay S (SetTable.grown ((zbx prog w (t.mask+1) f).size+1))
      pure true
     else pure true) Q E {s with toks:=tk}:=fun tn e1 e2 e3=>by
   have P:=put_ok (k:=k) (a:=a) T lj m2 e1 e2 e3
   have es:(zbx prog w (t.mask+1) f).size=(zas (t.mask+1) f).length:=by
    unfold zbx
    rw [yQ,yA,zcs]
   have es2:(zbx prog w (t.mask+1) (zbJ f j (k,a))).size=(zas (t.mask+1) f).length+1:=by
    unfold zbx
    rw [yQ,yA,zcs,P.len]
   rw [P.ents]
   refine yB (wpAny_storeSet_of (s:={s with toks:=tk}) ho hd ?_ (by rw [es2,sizeLine_eq];omega))
   have hsb:=xP s.heap S (vN (zbx prog w (t.mask+1) (zbJ f j (k,a))) tn)
   have hst:=zg6 (es':=zbx prog w (t.mask+1) (zbJ f j (k,a))) (t':=tn) ho hex hd
   have keysN:∀ i x,zbJ f j (k,a) i=some x→i < t.mask+1∧IsTupleKey (zaq prog w) (s.heap.update S (vN (zbx prog w (t.mask+1) (zbJ f j (k,a))) tn)) x.1 x.2:=fun i x hx=>by
    rcases cases9 i x hx with ⟨r1,rfl⟩ | ⟨_,hx'⟩
    ·exact ⟨by rw [r1];exact lj,zhu hk ho hex hsb⟩
    ·exact ⟨(T.keys i x hx').1,zhu (T.keys i x hx').2 ho hex hsb⟩
   have tf:tn.tooFull=decide (((zas (t.mask+1) f).length+1) * 5 ≥ t.mask * 3):=by
    unfold SetTable.tooFull yb0
    rw [P.place,P.dum,yQ,P.len,P.mask]
    rfl
   rw [tf]
   by_cases c:((zas (t.mask+1) f).length+1) * 5 ≥ t.mask * 3
   ·obtain ⟨c7,c4⟩:t.mask=7∧(zas (t.mask+1) f).length=4:=by
     have r:=T.room
     rcases T.mask with e | e
     ·exact ⟨e,by omega⟩
     ·omega
    have hfit:tn.fits (zbx prog w (t.mask+1) (zbJ f j (k,a))).size=true:=by
     unfold SetTable.fits yb0
     rw [es2,P.place,P.dum,yQ,P.len,P.mask]
     simp only [qA,beq_self_eq_true,true_and,decide_eq_true_eq]
     show _+0≤_
     omega
    obtain ⟨L,hL⟩:∃ L,L=zbO (t.mask+1) (zbJ f j (k,a)):=⟨_,rfl⟩
    have lL:L.length=5:=by rw [hL,zcs,P.len,c4]
    have eL:zbx prog w (t.mask+1) (zbJ f j (k,a))=(L.map (entX prog w)).toArray:=by rw [hL];rfl
    have memL:∀ x,x∈L↔∃ i,zbJ f j (k,a) i=some x:=fun x=>by
     rw [hL]
     unfold zbO
     rw [xK]
     exact ⟨fun ⟨i,_,h⟩=>⟨i,h⟩,fun ⟨i,h⟩=>⟨i,qE.mpr (keysN i x h).1,h⟩⟩
    have ndL:(L.map (·.1)).Nodup:=by
     rw [hL]
     unfold zbO
     rw [zfA,ycv,ybl]
     refine (ycg (n:=t.mask+1)).imp fun {i i'} hij b hb b' hb' e=>hij ?_
     obtain ⟨x,hx,rfl⟩:=jQ.mp hb
     obtain ⟨y,hy,rfl⟩:=jQ.mp hb'
     exact oneN i i' x y hx hy e
    obtain ⟨t',order,owner,r1,I,r2,r3,r4,r5⟩:=zlt (prog:=prog) (w:=w) (L:=L) (t:=tn) (wanted:=20) (by omega) rfl
    have res:∀ i x,reF owner L i=some x↔∃ q,foO owner i=some q∧L[q]? =some x:=fun i x=>zoE I
    rw [eL] at hst keysN hsb hfit ⊢
    rw [decide_eq_true c,es,c4,show SetTable.grown (4+1)=20 from rfl]
    simp only [Bool.not_false,Bool.and_self,if_true]
    refine yB ?_
    unfold setRelay
    refine yB (wpAny_setState_of (s:={s with heap:=s.heap.update S (vN ((L.map (entX prog w)).toArray) tn),toks:=tk}) hst rfl hfit ?_)
    dsimp only
    rw [if_neg (show ¬yb1 20 > yL by rw [sizeLine_eq];decide),r1]
    refine yB (show wpAny (model prog w) A (do
     let es':=order.filterMap (((L.map (entX prog w)).toArray)[·]?)
     if es'.size !=((L.map (entX prog w)).toArray).size then unsupported "internal:set-table-lost-an-element"
     pure (es',t')) _ _ _ from ?_)
    dsimp only
    rw [r5]
    have sz5:(zbx prog w 32 (reF owner L)).size=L.length:=by
     unfold zbx
     rw [yQ,yA,zcs,zhr I]
     exact I.cnt
    have ne:((zbx prog w 32 (reF owner L)).size !=((L.map (entX prog w)).toArray).size)=false:=by
     rw [sz5,yQ,yA]
     exact bne_self_eq_false _
    rw [ne]
    simp only [yT,if_false]
    refine yD ?_
    refine wpAny_storeSet_of (s:={s with heap:=s.heap.update S (vN ((L.map (entX prog w)).toArray) tn),toks:=tk}) hst rfl ?_ (by rw [sz5,lL,sizeLine_eq];decide)
    have hst2:=zg6 (es':=zbx prog w 32 (reF owner L)) (t':=t') hst hex rfl
    have hsb2:=xP (s.heap.update S (vN ((L.map (entX prog w)).toArray) tn)) S (vN (zbx prog w 32 (reF owner L)) t')
    have full:∀ i q,foO owner i=some q→∃ y,reF owner L i=some y:=fun i q h=>by
     have lq:=(I.low i q h).2
     exact ⟨L[q],(res i _).mpr ⟨q,h,yC lq⟩⟩
    have isL:∀ x:List Key,(∃ i y,reF owner L i=some y∧y.1=x)↔∃ i y,zbJ f j (k,a) i=some y∧y.1=x:=fun x=>by
     constructor
     ·rintro ⟨i,y,h,e⟩
      obtain ⟨q,_,hq⟩:=(res i y).mp h
      obtain ⟨i',h'⟩:=(memL y).mp (yI hq)
      exact ⟨i',y,h',e⟩
     ·rintro ⟨i,y,h,e⟩
      obtain ⟨q,hq⟩:=xY ((memL y).mpr ⟨i,h⟩)
      obtain ⟨i',h'⟩:=I.hit q (yG.mp hq).1
      exact ⟨i',y,(res i' y).mpr ⟨q,h',hq⟩,e⟩
    have TN:TbS prog w ((s.heap.update S (vN ((L.map (entX prog w)).toArray) tn)).update S (vN (zbx prog w 32 (reF owner L)) t')) S t' (reF owner L):=by
     refine ⟨⟨_,ep+1+1,hst2,hex,by rw [r2]⟩,.inr r2,by rw [r2];exact r3,r4,by rw [r2];show (zas 32 _).length * 5 < 93;rw [zhr I,I.cnt];omega,fun i x hx=>?_,fun i i' x y hx hy e=>?_,fun i x hx=>?_⟩
     ·obtain ⟨q,h1',h2'⟩:=(res i x).mp hx
      obtain ⟨i',h'⟩:=(memL x).mp (yI h2')
      exact ⟨by rw [r2];exact (I.low i q h1').1,zhu (keysN i' x h').2 hst hex hsb2⟩
     ·obtain ⟨q,h1',h2'⟩:=(res i x).mp hx
      obtain ⟨q',h3',h4'⟩:=(res i' y).mp hy
      have lq:=(I.low i q h1').2
      have:q=q':=(List.getElem?_inj (l:=L.map (·.1)) (by rw [yA];exact lq) ndL).mp (by rw [yE,yE,h2',h4'];show some x.1=some y.1;rw [e])
      rw [this] at h1'
      exact I.one i i' q' h1' h3'
     ·obtain ⟨q,h1',h2'⟩:=(res i x).mp hx
      obtain ⟨hs,a1,m,a2,a3⟩:=I.reach i q h1'
      rw [yE,h2'] at a1
      cases a1
      rw [r2]
      refine ⟨m,a2,fun m' hm'=>?_⟩
      obtain ⟨k',hk'⟩:=a3 m' hm'
      exact full _ _ hk'
    have sbb:jB S s.heap ((s.heap.update S (vN ((L.map (entX prog w)).toArray) tn)).update S (vN (zbx prog w 32 (reF owner L)) t')):=⟨hsb2.1.trans hsb.1,fun b hb=>(hsb2.2 b hb).trans (hsb.2 b hb)⟩
    refine yD (h2 _ tk t' _ le nk sbb TN (zix T TN nk fun x=>(isL x).trans (isso x)) fun i x hx=>?_)
    obtain ⟨q,_,h2'⟩:=(res i x).mp hx
    obtain ⟨i',h'⟩:=(memL x).mp (yI h2')
    exact (cases9 i' x h').imp (fun z=>z.2) fun z=>⟨i',z.2⟩
   ·rw [decide_eq_false c]
    simp only [ya1,yT,if_false]
    have TN:TbS prog w (s.heap.update S (vN (zbx prog w (t.mask+1) (zbJ f j (k,a))) tn)) S tn (zbJ f j (k,a)):=by
     refine ⟨⟨_,ep+1,hst,hex,by rw [P.mask]⟩,by rw [P.mask];exact T.mask,by rw [P.mask];exact P.place,P.dum,by rw [P.mask,P.len];omega,fun i x hx=>by rw [P.mask];exact keysN i x hx,oneN,fun i x hx=>by rw [P.mask];exact reachN i x hx⟩
    exact yD (h2 _ tk tn _ le nk hsb TN (zix T TN nk isso) fun i x hx=>(cases9 i x hx).imp (fun z=>z.2) fun z=>⟨i,z.2⟩)
  show wpAny _ _ (do let x ← setState S;_) _ _ _
  refine yB (wpAny_setState_of (s:={s with toks:=tk}) ho hd hf ?_)
  dsimp only
  split
  ·refine yB (zjc (s:={s with toks:=tk}) hk fun b=>?_)
   cases b with
   | true=>exact fin _ rfl rfl rfl
   | false=>exact fin _ rfl rfl rfl
  ·refine yB (yD ?_)
   exact fin _ rfl rfl rfl
end
section
variable {prog:Program} {w:World} {A:Around} {E:Value→Shared→Prop} {s:Shared} {R:Result→Shared→Prop} {I S:Addr} {fp wr:List Addr} {G:Array GenState→Array GenState→Prop} {P:Nat→Value→Prop} {St:Nat→Shared→Prop} {zs:List (List Key×Addr)} {h0:Heap}
theorem TbS.move2 {h h':Heap}{t:SetTable}{f:Nat→Option (List Key×Addr)}(T:TbS prog w h S t f)(hS:∀ o,h.get? S=some o→h'.get? S=some o)(hk:∀ j x,f j=some x→IsTupleKey (zaq prog w) h' x.1 x.2):TbS prog w h' S t f:=by
 obtain ⟨o,ep,ho,hx,hd⟩:=T.here
 exact ⟨⟨o,ep,hS _ ho,hx,hd⟩,T.mask,T.place,T.dum,T.room,fun j x hj=>⟨(T.keys j x hj).1,hk j x hj⟩,T.one,T.reach⟩
theorem zif {h h':Heap}{ks:List Key}{a:Addr}(x:IsTupleKey (zaq prog w) h ks a)(k:∀ b o,h.get? b=some o→h'.get? b=some o):IsTupleKey (zaq prog w) h' ks a:=by
 obtain ⟨o',items,n,ho',r⟩:=x
 exact ⟨o',items,n,k _ _ ho',r⟩
noncomputable def zkS (prog:Program) (w:World) (h0 h:Heap) (S:Addr) (zs:List (List Key×Addr)) (i:Nat):Prop:=(∀ b o,h0.get? b=some o→h.get? b=some o)∧∃ t f,TbS prog w h S t f∧(∀ j x,f j=some x→IsTupleKey (zaq prog w) h0 x.1 x.2)∧(zdA t f).length≤i∧∀ k,k∈zdA t f↔k∈(zs.take i).map (·.1)
theorem znR {h:Heap}{t:SetTable}{f:Nat→Option (List Key×Addr)}(T:TbS prog w h S t f):(zas (t.mask+1) f).length=(zdA t f).length:=by
 unfold zdA
 rw [yA,zcs]
theorem zlM (hu:A.units+8 < cLine)(W:WalksS prog w A.in1 I fp wr G zs.length P St)(ns:S∉fp)(hS0:h0.get? S=none)(hw0:∀ b∈wr,h0.get? b=none)
  (hv:∀ i v,P i v→∃ z,zs[i]? =some z∧v= .ref z.2) (hk:∀ z∈zs,IsTupleKey (zaq prog w) h0 z.1 z.2) (hb:zs.length≤12):
  ∀ (k i:Nat) (s:Shared),zs.length - i=k→i≤zs.length→St i s→zkS prog w h0 s.heap S zs i→
   (∀ s',Moved (S::wr) G s s'→zkS prog w h0 s'.heap S zs zs.length→R (.ok (.ret .none)) s')→
   codeAny (model prog w) A (.builtin "set.update.loop" ⟨[.ref S,.ref I],[]⟩) R s:=by
 have nw:S∉wr:=fun h=>ns (W.sub _ h)
 have up:∀ b∈wr,b∈S::wr:=fun b h=>jK _ h
 have step:∀ {s s':Shared} {i:Nat},Moved wr G s s'→zkS prog w h0 s.heap S zs i→zkS prog w h0 s'.heap S zs i:=fun {s s' i} m q=>by
  obtain ⟨k0,t,f,T,hf,l,e⟩:=q
  have k1:∀ b o,h0.get? b=some o→s'.heap.get? b=some o:=fun b o hbo=>m.heap b o (fun z=>by rw [hw0 b z] at hbo;cases hbo) (k0 b o hbo)
  exact ⟨k1,t,f,T.move2 (fun o ho=>m.heap S o nw ho) fun j x hj=>zif (hf j x hj) k1,hf,l,e⟩
 intro k
 induction k with
 | zero=>
  intro i s hk' hi st q hR
  obtain rfl:i=zs.length:=by omega
  refine codeAny_builtin F.entry_set_update_loop ?_
  rw [xB F.plain_set_update_loop _]
  show wpAny _ A.in1 (pyNext (.ref I) >>=_) _ _ s
  refine yB (W.done s _ _ st fun s' m=>?_)
  show wpAny _ A.in1 (ret Value.none) _ _ s'
  exact yD (hR s' (m.mono up) (step m q))
 | succ k ih=>
  intro i s hk' hi st q hR
  have lt:i < zs.length:=by omega
  refine codeAny_builtin F.entry_set_update_loop ?_
  rw [xB F.plain_set_update_loop _]
  show wpAny _ A.in1 (pyNext (.ref I) >>=_) _ _ s
  refine yB (W.item i s _ _ lt st fun v s' p st' m=>?_)
  obtain ⟨z,hz,rfl⟩:=hv i v p
  have zk:=hk z (yI hz)
  obtain ⟨k0,t,f,T,hf,l,e⟩:=step m q
  show wpAny _ A.in1 (holding [Value.ref z.2] (setAdd S (.ref z.2)) >>=_) _ _ s'
  refine yB (wpAny_holding ?_)
  have tk:((zs.take (i+1)).map (·.1))=(zs.take i).map (·.1)++ [z.1]:=by
   rw [yV,hz,yM]
   rfl
  have ir:A.in1.units < cLine:=by show A.units+1 < cLine;omega
  refine znG ir T (zif zk k0) (by rw [znR T];omega) (fun tk' le hm=>?_) fun h' tk' t' f' le hm sb T' pm src=>?_
  ·refine yD ⟨plainId_quiet F.plain_set_update_loop _,ih (i+1) _ (by omega) lt (W.frame _ s' _ _ st' le fun b hb' o e=>e) ⟨k0,t,f,T,hf,by omega,fun x=>?_⟩ fun s'' m2 q4=>?_⟩
   ·rw [tk,yP,yF,e x]
    exact ⟨.inl,fun c=>c.elim id fun c=>by rw [c];exact (e _).mp hm⟩
   ·exact hR s'' (Moved.trans W.gtrans ((m.mono up).then_heap le fun b o hb' e=>e) m2) q4
  ·have k1:∀ b o,h0.get? b=some o→h'.get? b=some o:=fun b o hbo=>(sb.2 b (fun y:b=S=>by rw [y,hS0] at hbo;cases hbo)).trans (k0 b o hbo)
   refine yD ⟨plainId_quiet F.plain_set_update_loop _,ih (i+1) _ (by omega) lt (W.frame _ s' _ _ st' le fun b hb' o e=>?_) ⟨k1,t',f',T',fun j x hx=>?_,?_,fun x=>?_⟩ fun s'' m2 q4=>?_⟩
   ·rw [sb.2 b (fun h:b=S=>ns (by rw [← h];exact hb'))];exact e
   ·rcases src j x hx with rfl | ⟨i',h'⟩
    ·exact zk
    ·exact hf i' x h'
   ·rw [pm.length_eq,qP]
    omega
   ·rw [pm.mem_iff,yO,tk,yP,yF,e x]
    exact Or.comm
   ·refine hR s'' (Moved.trans W.gtrans ((m.mono up).then_heap le fun b o hb' e=>?_) m2) q4
    rw [sb.2 b (fun h:b=S=>hb' (by rw [h];exact jP))];exact e
theorem zhF {l:Addr}{items:Array Value}{Q:Value→Shared→Prop}(hh:A.handled=none)(hu:A.units+64 < cLine)(hl:s.heap.IsList l items)(hi:∀ (i:Nat) (v:Value),items[i]? =some v→∃ z,zs[i]? =some z∧v=Value.ref z.2)(hn:items.size=zs.length)(hk:∀ z∈zs,IsTupleKey (zaq prog w) s.heap z.1 z.2)(hb:zs.length≤12)
  (h:∀ (h':Heap) (tk:Nat),zkS prog w s.heap h' s.heap.objs.size zs zs.length→Q (.ref s.heap.objs.size) {s with heap:=h',toks:=tk}):
  wpAny (model prog w) A (call (.type "set") [.ref l]) Q E s:=by
 obtain ⟨c,tl,mro⟩:=qZ.mro
 have made:=qZ.made
 have sub:=qZ.sub
 refine wpAny_call (codeAny_of_tree ?_)
 show wpAny _ _ (callAny (.type "set") _) _ _ _
 refine yD ⟨yaZ _ (by decide+kernel),codeAny_builtin ybi ?_⟩
 rw [ybW (weight_type_call_type "set" [.ref l] []) rfl]
 have h1:=qZ.notType
 have h2:=qZ.canCreate
 have hct:=ybq (.ref l)
 repeat (any_goals (first | assumption | wp_step))
 refine codeAny_mono (code_set_new_1 (.ref l) (E:=E) (Q₁ :=fun ob s1=>∃ led:Bool,ob= .ref s.heap.objs.size∧s1= {s with heap:=s.heap.push {cls:=.type "set",dict:=none,data:=.set #[] 0 (.fresh 0 0 led)}}) fun led=>⟨led,rfl,rfl⟩) fun r s1 hr=>?_
 cases r with
 | error e=>exact hr
 | ok fl=>
  cases fl with
  | ret ob=>
   obtain ⟨led,rfl,rfl⟩:=hr
   have hS:(s.heap.push {cls:=.type "set",dict:=none,data:=.set #[] 0 (.fresh 0 0 led)}).get? s.heap.objs.size=some {cls:=.type "set",dict:=none,data:=.set #[] 0 (.fresh 0 0 led)}:=yW _ rfl
   have hT:yaI {s with heap:=s.heap.push {cls:=.type "set",dict:=none,data:=.set #[] 0 (.fresh 0 0 led)}} (.ref s.heap.objs.size) "set" :=⟨_,hS,rfl⟩
   have hli:=qZ.init.lookup
   have hbi:=qZ.init.bind (.ref s.heap.objs.size)
   repeat (any_goals (first | assumption | wp_step))
   refine codeAny_mono (codeAny_call_builtin (R:=wants (fun r s2=>r= .none∧∃ h' tk,s2= {s with heap:=h',toks:=tk}∧zkS prog w s.heap h' s.heap.objs.size zs zs.length) E) qZ.init.plain ybr (check_set_init_1 hT ?_)) fun r2 s2 hr2=>?_
   ·obtain ⟨ol,hol,hcl,nl,hdl⟩:=hl
    obtain ⟨ocls,odict,odata,oslots⟩:=ol
    simp only at hcl hdl
    subst hcl;subst hdl
    have hol':(s.heap.push {cls:=.type "set",dict:=none,data:=.set #[] 0 (.fresh 0 0 led)}).get? l=some {cls:=.type "list",dict:=odict,data:=.seq items nl,slots:=oslots}:=yH _ hol
    have hsls:=ybI
    have hslf:=yaS
    have hne:(Value.type "list" ==Value.type "dict")=false:=by decide
    have hl1:(s.heap.push {cls:=.type "set",dict:=none,data:=.set #[] 0 (.fresh 0 0 led)}).IsList l items:=⟨_,hol',rfl,nl,rfl⟩
    unfold Builtin.«set.__init__» noKeywords yaJ
    generalize hPI:pyIter=PI
    wp_walk
    subst hPI
    refine wpAny_pyIter_list hl1 ?_
    refine yB (wpAny_runValue ?_)
    have lS:l < s.heap.objs.size:=yU hol
    have h3:A.in1.in1.in1.handled=none:=by simp [hh]
    have lI:l≠(s.heap.push {cls:=.type "set",dict:=none,data:=.set #[] 0 (.fresh 0 0 led)}).objs.size:=by rw [xR];exact qC (yat lS)
    have nS:s.heap.objs.size∉[(s.heap.push {cls:=.type "set",dict:=none,data:=.set #[] 0 (.fresh 0 0 led)}).objs.size,l]:=by
     rw [xR];simp only [yO,qJ,or_false,not_or]
     exact ⟨qC (yaa _),yae lS⟩
    have W:=(yb5 (prog:=prog) (w:=w) h3 (s.heap.push {cls:=.type "set",dict:=none,data:=.set #[] 0 (.fresh 0 0 led)}).objs.size l lI items).toS
    rw [hn] at W
    have zjo:∀ b,s.heap.objs.size≤b→s.heap.get? b=none:=fun b hb'=>by
     cases hq:s.heap.get? b with
     | none=>rfl
     | some o'=>exact absurd (yU hq) (Nat.not_lt.mpr hb')
    refine zlM (h0:=s.heap) (by show A.units+1+1+8 < cLine;omega) W nS (zjo _ (yN _)) (fun b hb'=>?_) hi hk hb (zs.length - 0) 0 _ (by omega) (qN _) ⟨⟨_,yW _ rfl,rfl,rfl⟩,(hl1.push _)⟩ ?_ ?_
    ·rw [yF.mp hb',xR]
     exact zjo _ (Nat.le_succ _)
    ·have hg:((s.heap.push {cls:=.type "set",dict:=none,data:=.set #[] 0 (.fresh 0 0 led)}).push {cls:=.type "list_iterator",data:=.fields #[.ref l,.int 0 0]}).get? s.heap.objs.size=some {cls:=.type "set",dict:=none,data:=.set #[] 0 (.fresh 0 0 led)}:=yH _ hS
     have z0:zas 8 (fun _:Nat=>(none:Option (List Key×Addr)))= []:=by
      unfold zas
      rw [wZ]
      exact fun _ _=>rfl
     have z1:zbO 8 (fun _:Nat=>(none:Option (List Key×Addr)))= []:=by
      unfold zbO
      rw [wZ]
      exact fun _ _=>rfl
     refine ⟨fun b o e=>yH _ (yH _ e),.fresh 0 0 led,fun _=>none,⟨⟨_,0,hg,⟨rfl,rfl,rfl⟩,?_⟩,.inl rfl,?_,rfl,?_,fun j x h=>(nomatch h),fun i j x y h=>(nomatch h),fun j x h=>(nomatch h)⟩,fun j x h=>(nomatch h),?_,fun k=>?_⟩
     ·show Data.set #[] 0 _=Data.set ((zbO 8 _).map _).toArray 0 _
      rw [z1]
      rfl
     ·show #[]=(zas 8 _).toArray
      rw [z0]
     ·show (zas 8 _).length * 5 < 7 * 3
      rw [z0]
      decide
     ·show ((zbO 8 _).map _).length≤0
      rw [z1]
      exact yN _
     ·show k∈(zbO 8 _).map _↔_
      rw [z1]
      exact Iff.rfl
    ·intro s' m q
     obtain ⟨h',g',d',tk',os'⟩:=s'
     have eg:g'=s.gens:=m.gens
     have ed:d'=s.drawn:=m.drawn
     have eo:os'=s.os:=m.os
     subst eg;subst ed;subst eo
     show wpAny _ _ _ _ _ _
     refine yD ?_
     show wpAny _ _ (ret Value.none) _ _ _
     exact yD ⟨rfl,h',tk',rfl,q⟩
   ·cases r2 with
    | error e=>exact hr2
    | ok fl2=>
     cases fl2 with
     | ret r=>
      obtain ⟨rfl,h',tk,rfl,q⟩:=hr2
      repeat (any_goals (first | assumption | wp_step))
      exact h _ _ q
     | _=>exact hr2.elim
  | _=>exact hr.elim
end
section
variable {X:Cx} {e:Expr} {te:TE} {p p' pos pos':Pos}
theorem zgW:∀ {L:List (List Key×Addr)} {us:List Value},Vals (L.map fun p=>V.ref p.2) us→us=L.map fun p=>Value.ref p.2
 | [],_,h=>by cases h;rfl
 | p::r,_,h=>by
  cases h with
  | cons h1 h2=>
   cases h1
   rw [zgW h2]
   rfl
theorem zlA {P:Program}{w:World}:∀ {ks:List Key} {its:List Value},Vals (ks.map kV) its→ya3 (zaq P w) ks its
 | [],_,h=>by cases h;exact .nil
 | k::ks,_,h=>by
  cases h with
  | cons h1 h2=>
   refine .cons ?_ (zlA h2)
   cases k with
   | inl i=>obtain ⟨t,rfl⟩:=h1;exact ziR i t
   | inr x=>obtain ⟨t,rfl⟩:=h1;exact ziw x t
theorem zop {P:Program}{w:World}{H:Hp}{h:Heap}{ks:List Key}{a:Addr}(ok:HOk P w H h)(e:H a=some (.tup (ks.map kV))):IsTupleKey (zaq P w) h ks a:=by
 obtain ⟨_,its,r,o,h1,h2,n,h3⟩:=(show zbB P w H h a (.tup (ks.map kV)) from ok a _ e)
 exact ⟨o,its.toArray,n,h1,h2,h3,by simpa using zlA r⟩
noncomputable abbrev TupsAt (H:Hp) (zs:List (List Key×Addr)):Prop:=∀ z∈zs,H z.2=some (.tup (z.1.map kV))
noncomputable def zkd (te:TE):TE:=fun σ H Q=>te σ H fun v H1=>∃ (l:Addr) (zs:List (List Key×Addr)),v= .ref l∧H1 l=some (.lst (zs.map fun z=>V.ref z.2))∧TupsAt H1 zs∧zs.length≤12∧∀ D:List (List Key),D.Nodup→(∀ k,k∈D↔k∈zs.map (·.1))→Q (.int (D.length:Nat)) H1
theorem zkw (hc:X.calm=true)(hu:X.A.units+64 < cLine)(hg:Gl X "len")(hm:X.mg "len" =none)(hg':Gl X "set")(hm':X.mg "set" =none)(ha:PE X e te)
  (he:starEach [e] X.env= [(false,eval e X.env)]:=by rfl)
  (he':starEach [Expr.Call (.Name "set" p') [e] [] pos'] X.env= [(false,eval (Expr.Call (.Name "set" p') [e] [] pos') X.env)]:=by rfl):
  PE X (.Call (.Name "len" p) [.Call (.Name "set" p') [e] [] pos'] [] pos) (zkd te):=by
 intro pins s σ H Q I h
 refine wpAny_Call_Name_kw (zea I hg hm (by rfl) ?_ (by decide) (by decide))
 refine kW (id:="len") ?_ he' rfl
 rw [he']
 show wpAny _ _ (spliced ((false,eval (Expr.Call (.Name "set" p') [e] [] pos') X.env)::backTo pos [])) _ _ s
 refine vL ?_
 refine wpAny_Call_Name_kw (zea I hg' hm' (by rfl) ?_ (by decide) (by decide))
 refine xD (T:="set") ?_ he rfl
 rw [he]
 show wpAny _ _ (spliced ((false,eval e X.env)::backTo pos' [])) _ _ s
 refine vL (thn (ha pins s σ H _ I h) fun u s1 ⟨x,H1,I1,r1,l,zs,ex,hl,ht,hz,q⟩=>?_)
 subst ex
 cases r1
 refine kH ?_
 obtain ⟨z,its,n,rv,hlen,eL⟩:=I1.lstM hl
 have eits:its=zs.map fun z=>Value.ref z.2:=zgW rv
 subst eits
 have hA:=I1.ok.hd hc
 refine zhF (zs:=zs) hA (by omega) ⟨_,eL,rfl,n,rfl⟩ (fun i v hv=>?_) (by simp) (fun z hz'=>zop I1.hok (ht z hz')) hz fun h' tk q2=>?_
 ·rw [jN,yE] at hv
  cases hp:zs[i]? with
  | none=>rw [hp] at hv;cases hv
  | some y=>rw [hp] at hv;cases hv;exact ⟨y,rfl,rfl⟩
 refine kH ?_
 obtain ⟨hK,t,f,T,_,lk,ek⟩:=q2
 rw [qB] at ek
 obtain ⟨o,ep,ho,hx,hd⟩:=T.here
 have es:(zbx X.prog X.w (t.mask+1) f).size=(zdA t f).length:=by
  unfold zbx zdA
  rw [yQ,yA,yA]
 refine call_len_set (s:={s1 with heap:=h',toks:=tk}) ho hx hd T.fits (by rw [es];omega) ?_
 rw [es]
 refine ⟨.int _,H1,(I1.kept (t':=tk) hK).tok _,⟨_,rfl⟩,q _ (zjC T) ek⟩
theorem zjl (hc:X.calm=true)(hu:X.A.units+64 < cLine)(hg:Gl X "len")(hm:X.mg "len" =none)(hg':Gl X "set")(hm':X.mg "set" =none)(ha:Bx (PE X e te))
  (he:starEach [e] X.env= [(false,eval e X.env)]:=by rfl)
  (he':starEach [Expr.Call (.Name "set" p') [e] [] pos'] X.env= [(false,eval (Expr.Call (.Name "set" p') [e] [] pos') X.env)]:=by rfl):
  Bx (PE X (.Call (.Name "len" p) [.Call (.Name "set" p') [e] [] pos'] [] pos) (zkd te)):=⟨zkw hc hu hg hm hg' hm' ha.1 he he'⟩
end
end L2
set_option exponentiation.threshold 3000
namespace My
open PySem L2
open PySem.W (Dat kqdP kqdPs kqdOk)
theorem zhR {us:List Value}(h:us.length=1):∃ x0,us= [x0]:=match us,h with | [x0],_=>⟨x0,rfl⟩
theorem zgE {us:List Value}(h:us.length=2):∃ x0 x1,us= [x0,x1]:=match us,h with | [x0,x1],_=>⟨x0,x1,rfl⟩
theorem zeY {us:List Value}(h:us.length=3):∃ x0 x1 x2,us= [x0,x1,x2]:=match us,h with | [x0,x1,x2],_=>⟨x0,x1,x2,rfl⟩
theorem znH {us:List Value}(h:us.length=4):∃ x0 x1 x2 x3,us= [x0,x1,x2,x3]:=match us,h with | [x0,x1,x2,x3],_=>⟨x0,x1,x2,x3,rfl⟩
set_option genInjectivity false
structure Def (K:PySem.W.Frag) (mg:Str→Option Value) (x:Str) (st:Stmt) (ps:List Str) (f:Addr) (fd:FuncData):Prop where
 F:Fun K x x st f fd
 b:zfy K fd ps []
 m:mg x=some (.ref f)
structure DefD (K:PySem.W.Frag) (mg:Str→Option Value) (x:Str) (st:Stmt) (ps:List Str) (f:Addr) (fd:FuncData) (T:Addr) (tk:Tok):Prop where
 F:FunD K x x st f fd T
 b:zfy K fd ps []
 b1:zfy K fd ps [.int 1 tk]
 m:mg x=some (.ref f)
structure Adr where
 f_every_row:Addr
 fd_every_row:FuncData
 f_gate_worth:Addr
 fd_gate_worth:FuncData
 dt_gate_worth:Addr
 tk_gate_worth:Tok
 f_every_fault:Addr
 fd_every_fault:FuncData
 f_stuck_places:Addr
 fd_stuck_places:FuncData
 f_worths_with:Addr
 fd_worths_with:FuncData
 dt_worths_with:Addr
 tk_worths_with:Tok
 f_leg_worths:Addr
 fd_leg_worths:FuncData
 f_outputs_with:Addr
 fd_outputs_with:FuncData
 dt_outputs_with:Addr
 tk_outputs_with:Tok
 f_pairs_at:Addr
 fd_pairs_at:FuncData
 f_paper_shows:Addr
 fd_paper_shows:FuncData
 f_is_let_by:Addr
 fd_is_let_by:FuncData
 f_every_pairs:Addr
 fd_every_pairs:FuncData
 f_input_pairs:Addr
 fd_input_pairs:FuncData
 f_leg_pairs:Addr
 fd_leg_pairs:FuncData
 f_with_stuck:Addr
 fd_with_stuck:FuncData
 f_gate_pairs:Addr
 fd_gate_pairs:FuncData
 f_every_choice:Addr
 fd_every_choice:FuncData
 f_chosen_pair:Addr
 fd_chosen_pair:FuncData
 f_outputs_alike:Addr
 fd_outputs_alike:FuncData
 f_are_alike:Addr
 fd_are_alike:FuncData
 f_outputs_seen:Addr
 fd_outputs_seen:FuncData
 f_rows_at_once:Addr
 fd_rows_at_once:FuncData
 f_first_unlike:Addr
 fd_first_unlike:FuncData
 f_unlike_numbers:Addr
 fd_unlike_numbers:FuncData
 f_first_test:Addr
 fd_first_test:FuncData
 f_test_told:Addr
 fd_test_told:FuncData
 f_paper_behind:Addr
 fd_paper_behind:FuncData
 f_parted_at:Addr
 fd_parted_at:FuncData
 f_law_cell_at:Addr
 fd_law_cell_at:FuncData
 f_law_numbers:Addr
 fd_law_numbers:FuncData
 f_law_gate:Addr
 fd_law_gate:FuncData
 f_law_works:Addr
 fd_law_works:FuncData
 f_law_every_fault:Addr
 fd_law_every_fault:FuncData
 f_law_some_faults:Addr
 fd_law_some_faults:FuncData
 f_law_asked:Addr
 fd_law_asked:FuncData
 f_law_refused:Addr
 fd_law_refused:FuncData
 f_law_bad:Addr
 fd_law_bad:FuncData
 f_law_is_good:Addr
 fd_law_is_good:FuncData
 f_law:Addr
 fd_law:FuncData
 c_FOLDED_KINDS:Addr
 x_StuckError:Addr
 x_NoWorks:Addr
 x_NoRow:Addr
 x_NoFault:Addr
 x_NoText:Addr
 x_NoOrder:Addr
 x_TooMany:Addr
structure Txt (K:PySem.W.Frag) (mg:Str→Option Value) (t:Adr):Prop where
 d_every_row:Def K mg "every_row" zdm ["works"] t.f_every_row t.fd_every_row
 d_gate_worth:DefD K mg "gate_worth" zb8 ["kind","worths","ones"] t.f_gate_worth t.fd_gate_worth t.dt_gate_worth t.tk_gate_worth
 d_every_fault:Def K mg "every_fault" zci ["works"] t.f_every_fault t.fd_every_fault
 d_stuck_places:Def K mg "stuck_places" zbZ ["works","faults"] t.f_stuck_places t.fd_stuck_places
 d_worths_with:DefD K mg "worths_with" zbV ["works","stuck","row","ones"] t.f_worths_with t.fd_worths_with t.dt_worths_with t.tk_worths_with
 d_leg_worths:Def K mg "leg_worths" zcF ["stuck","gate","worths"] t.f_leg_worths t.fd_leg_worths
 d_outputs_with:DefD K mg "outputs_with" zbF ["works","stuck","row","ones"] t.f_outputs_with t.fd_outputs_with t.dt_outputs_with t.tk_outputs_with
 d_pairs_at:Def K mg "pairs_at" zdY ["works","faults","known","wire"] t.f_pairs_at t.fd_pairs_at
 d_paper_shows:Def K mg "paper_shows" zco ["works","faults","paper"] t.f_paper_shows t.fd_paper_shows
 d_is_let_by:Def K mg "is_let_by" zdt ["works","stuck","known","paper"] t.f_is_let_by t.fd_is_let_by
 d_every_pairs:Def K mg "every_pairs" zcr ["works","stuck","known"] t.f_every_pairs t.fd_every_pairs
 d_input_pairs:Def K mg "input_pairs" zcj ["worth"] t.f_input_pairs t.fd_input_pairs
 d_leg_pairs:Def K mg "leg_pairs" zdj ["stuck","gate","wires"] t.f_leg_pairs t.fd_leg_pairs
 d_with_stuck:Def K mg "with_stuck" zcJ ["pairs","stuck","place"] t.f_with_stuck t.fd_with_stuck
 d_gate_pairs:Def K mg "gate_pairs" zcP ["kind","legs"] t.f_gate_pairs t.fd_gate_pairs
 d_every_choice:Def K mg "every_choice" zb6 ["legs"] t.f_every_choice t.fd_every_choice
 d_chosen_pair:Def K mg "chosen_pair" zcl ["kind","choice"] t.f_chosen_pair t.fd_chosen_pair
 d_outputs_alike:Def K mg "outputs_alike" zbW ["works","stuck","known"] t.f_outputs_alike t.fd_outputs_alike
 d_are_alike:Def K mg "are_alike" zdn ["pairs"] t.f_are_alike t.fd_are_alike
 d_outputs_seen:Def K mg "outputs_seen" zb4 ["works","stuck"] t.f_outputs_seen t.fd_outputs_seen
 d_rows_at_once:Def K mg "rows_at_once" zb2 ["inputs"] t.f_rows_at_once t.fd_rows_at_once
 d_first_unlike:Def K mg "first_unlike" zb0 ["works","stuck","others"] t.f_first_unlike t.fd_first_unlike
 d_unlike_numbers:Def K mg "unlike_numbers" zbG ["seen","others"] t.f_unlike_numbers t.fd_unlike_numbers
 d_first_test:Def K mg "first_test" zcR ["works","faults"] t.f_first_test t.fd_first_test
 d_test_told:Def K mg "test_told" zdu ["works","faults"] t.f_test_told t.fd_test_told
 d_paper_behind:Def K mg "paper_behind" zb3 ["works","stuck","known"] t.f_paper_behind t.fd_paper_behind
 d_parted_at:Def K mg "parted_at" zdr ["works","faults","others"] t.f_parted_at t.fd_parted_at
 d_law_cell_at:Def K mg "_law_cell_at" zck ["script","k"] t.f_law_cell_at t.fd_law_cell_at
 d_law_numbers:Def K mg "_law_numbers" zcp ["cell","many","base"] t.f_law_numbers t.fd_law_numbers
 d_law_gate:Def K mg "_law_gate" zdV ["row","wires","two"] t.f_law_gate t.fd_law_gate
 d_law_works:Def K mg "_law_works" zdp ["script","most_inputs","most_gates","most_of_two"] t.f_law_works t.fd_law_works
 d_law_every_fault:Def K mg "_law_every_fault" zbA ["works"] t.f_law_every_fault t.fd_law_every_fault
 d_law_some_faults:Def K mg "_law_some_faults" zbD ["works","row"] t.f_law_some_faults t.fd_law_some_faults
 d_law_asked:Def K mg "_law_asked" zdv ["works","faults","way"] t.f_law_asked t.fd_law_asked
 d_law_refused:Def K mg "_law_refused" zct ["works","faults","way"] t.f_law_refused t.fd_law_refused
 d_law_bad:Def K mg "_law_bad" zeI ["works","faults","row","far"] t.f_law_bad t.fd_law_bad
 d_law_is_good:Def K mg "_law_is_good" zcm ["works","faults"] t.f_law_is_good t.fd_law_is_good
 d_law:Def K mg "law" zio ["script"] t.f_law t.fd_law
 z_ValueError:mg "ValueError" =none
 z_all:mg "all" =none
 z_dict:mg "dict" =none
 z_enumerate:mg "enumerate" =none
 z_int:mg "int" =none
 z_isinstance:mg "isinstance" =none
 z_len:mg "len" =none
 z_list:mg "list" =none
 z_max:mg "max" =none
 z_min:mg "min" =none
 z_range:mg "range" =none
 z_set:mg "set" =none
 z_sorted:mg "sorted" =none
 z_tuple:mg "tuple" =none
 z_zip:mg "zip" =none
 g_FOLDED_KINDS:mg "FOLDED_KINDS" =some (.ref t.c_FOLDED_KINDS)
 k_FOLDED_KINDS:TupK K t.c_FOLDED_KINDS ["and","or","odd"]
 g_StuckError:mg "StuckError" =some (.ref t.x_StuckError)
 k_StuckError:XcOk K t.x_StuckError "ValueError" "ValueError.__new__" [.type "ValueError",.type "Exception",.type "BaseException",.type "object"]
 g_NoWorks:mg "NoWorks" =some (.ref t.x_NoWorks)
 k_NoWorks:XcOk K t.x_NoWorks "ValueError" "ValueError.__new__" [.type "ValueError",.type "Exception",.type "BaseException",.type "object"]
 g_NoRow:mg "NoRow" =some (.ref t.x_NoRow)
 k_NoRow:XcOk K t.x_NoRow "ValueError" "ValueError.__new__" [.type "ValueError",.type "Exception",.type "BaseException",.type "object"]
 g_NoFault:mg "NoFault" =some (.ref t.x_NoFault)
 k_NoFault:XcOk K t.x_NoFault "ValueError" "ValueError.__new__" [.type "ValueError",.type "Exception",.type "BaseException",.type "object"]
 g_NoText:mg "NoText" =some (.ref t.x_NoText)
 k_NoText:XcOk K t.x_NoText "ValueError" "ValueError.__new__" [.type "ValueError",.type "Exception",.type "BaseException",.type "object"]
 g_NoOrder:mg "NoOrder" =some (.ref t.x_NoOrder)
 k_NoOrder:XcOk K t.x_NoOrder "ValueError" "ValueError.__new__" [.type "ValueError",.type "Exception",.type "BaseException",.type "object"]
 g_TooMany:mg "TooMany" =some (.ref t.x_TooMany)
 k_TooMany:XcOk K t.x_TooMany "ValueError" "ValueError.__new__" [.type "ValueError",.type "Exception",.type "BaseException",.type "object"]
 i_none:PySem.W.kitAny K (.ref t.x_NoFault) [.ref t.x_NoOrder,.ref t.x_NoRow,.ref t.x_NoText,.ref t.x_NoWorks,.ref t.x_TooMany]=some false
 i_self:PySem.W.kitOne K (.ref t.x_NoFault) (.ref t.x_NoFault)=some true
 i_value:PySem.W.kitOne K (.ref t.x_NoFault) (.type "ValueError")=some true
 i_in:(zjI K t.x_NoFault).contains (.ref t.x_StuckError)=true
noncomputable def zma (x:Str):Prop:=x="and"∨x="or"∨x="odd"∨x="not"∨x="choose"∨x="zero"∨x="one"
noncomputable def zj3 (K:PySem.W.Frag):Sp:=fun vs H Q _=>∃ (a:Addr) (ns:List Int),vs= [.ref a]∧SqL K H a (ns.map V.int)∧ns.length≤63∧∀ H',Q (.bl true) H'
theorem zpe {A:Prop}{C:V→Prop}{st:V→St}{H:Hp}{P:St→Hp→Prop}(h:(∀ v,C v→P (st v) H)→A)(r:∀ v,C v→P (st v) H):A:=h r
theorem joinX {α :Type}{A:Prop}{C: α→Hp→Prop}{st: α→St}{P:St→Hp→Prop}(h:(∀ v H4,C v H4→P (st v) H4)→A)(r:∀ v H4,C v H4→P (st v) H4):A:=h r
theorem zpd (ns:List Int){m:Nat}:∃ ms:List Int,cutV (ns.map V.int) (some 2) (some (2+(m:Int)))=ms.map V.int∧ms.length≤m:=by
 have e1:HT.sIx (ns.map V.int).length 0 (some 2)=min 2 ns.length:=by
  simp only [HT.sIx,yA]
  rw [if_neg (by decide)]
  omega
 have e2:HT.sIx (ns.map V.int).length (ns.map V.int).length (some (2+(m:Int)))=min (2+m) ns.length:=by
  simp only [HT.sIx,yA]
  rw [if_neg (by omega)]
  omega
 refine ⟨(ns.drop (min 2 ns.length)).take (min (2+m) ns.length - min 2 ns.length),?_,?_⟩
 ·unfold cutV
  rw [e1,e2,wB,wT]
 ·rw [yR]
  omega
theorem zhn (ns:List Int){lo hi:Int}(h0: 0≤lo)(h1:lo≤hi)(h2:hi≤ns.length):cutV (ns.map V.int) (some lo) (some hi)=((ns.drop lo.toNat).take (hi - lo).toNat).map V.int:=by
 have e1:HT.sIx (ns.map V.int).length 0 (some lo)=lo.toNat:=by
  simp only [HT.sIx,yA]
  rw [if_neg (by omega),ybF (by omega)]
 have e2:HT.sIx (ns.map V.int).length (ns.map V.int).length (some hi)=hi.toNat:=by
  simp only [HT.sIx,yA]
  rw [if_neg (by omega),ybF (by omega)]
 unfold cutV
 rw [e1,e2,wB,wT]
 congr 1
 omega
noncomputable def hole (pd:Addr) (H:Hp):Hp:=fun z=>if z=pd then none else H z
theorem zbP {pd z:Addr}{H:Hp}(h:z≠pd):hole pd H z=H z:=if_neg h
theorem znI {pd:Addr}{H:Hp}{o:HO}(e:H pd=some o):Off [pd] (hole pd H) H:=⟨fun b v q=>by
  by_cases z:b=pd
  ·unfold hole at q
   rw [if_pos z] at q
   cases q
  ·rw [zbP z] at q
   exact q,
 fun m hm=>by rw [yF.mp hm];exact if_pos rfl,fun m hm=>by rw [yF.mp hm];exact ⟨o,e⟩⟩
theorem zlw {K:PySem.W.Frag}{H:Hp}{p a:Addr}{xs ts:List V}(h:SqT K H a xs)(e:H p=some (.lst ts)):SqT K (hole p H) a xs:=by
 rcases h with h | h
 ·have ne:a≠p:=by
   rintro rfl
   rcases h with h | ⟨o,h⟩ <;> rw [e] at h <;> cases h
  refine .inl ?_
  rcases h with h | ⟨o,h⟩
  ·exact .inl (by rw [zbP ne];exact h)
  ·exact .inr ⟨o,by rw [zbP ne];exact h⟩
 ·exact .inr h
theorem zlE {K:PySem.W.Frag}{H:Hp}{p a:Addr}{xs:List V}(h:SqL K H a xs)(ne:a≠p):SqL K (hole p H) a xs:=by
 rcases h with h | h
 ·refine .inl ?_
  rcases h with h | ⟨o,h⟩
  ·exact .inl (by rw [zbP ne];exact h)
  ·exact .inr ⟨o,by rw [zbP ne];exact h⟩
 ·exact .inr h
theorem zil {K:PySem.W.Frag}{H:Hp}{p:Addr}{ts:List V}(e:H p=some (.lst ts)):∀ {fs:List Flt} {vs:List V},Reps K H vs (fs.map fltD)→Reps K (hole p H) vs (fs.map fltD)
 | [],_,h=>by cases h;exact .nil
 | f::fs,_,h=>by
  cases h with
  | cons h1 h2=>
   obtain ⟨a,rfl,ha⟩:=zgm h1
   exact .cons (zbY (zlw ha e)) (zil e h2)
theorem ze7.hole {K:PySem.W.Frag}{w:zaA}{m:Nat}{H:Hp}{fa p:Addr}{fs:List Flt}{ts:List V}(h:ze7 K w m H (.ref fa) fs)(ne:fa≠p)(e:H p=some (.lst ts)):ze7 K w m (My.hole p H) (.ref fa) fs:=by
 refine ⟨?_,h.good,h.apart,h.few⟩
 have z:=h.rep
 cases z with
 | lst h r=>exact .lst (zlE h ne) (zil e r)
noncomputable def sp_gw (K:PySem.W.Frag):Sp:=fun vs H Q _=>∃ (x:Str) (p:Addr) (ns:List Int),vs= [.str x,.ref p,.int 1]∧SqL K H p (ns.map V.int)∧Bits ns∧zbh x ns.length∧∀ H',Same H H'→Q (.int (zbq x ns)) H'
noncomputable def sp_gwI (K:PySem.W.Frag):Sp:=fun vs H Q _=>∃ (x:Str) (p:Addr) (ns:List Int) (o:Int),vs= [.str x,.ref p,.int o]∧SqL K H p (ns.map V.int)∧zbh x ns.length∧∀ H',Same H H'→Q (.int (zeJ o x ns)) H'
noncomputable def sp_er (K:PySem.W.Frag):Sp:=fun vs H Q _=>∃ (a ga oa:Addr) (i:Int),vs= [.ref a]∧SqT K H a [.int i,.ref ga,.ref oa]∧0≤i∧i≤6∧∀ (R:Addr) (qs:List Addr) (H':Hp),Rows H R qs (zb9 i.toNat) H'→Q (.ref R) H'
noncomputable def zmp (K:PySem.W.Frag):Sp:=fun vs H Q _=>∃ (x:V) (w:zaA),vs= [x]∧Rep K H x (zbr w)∧WF 20 w∧∀ (r:Addr) (xs:List V) (H':Hp),Bld K H r xs (zbI w) H'→Q (.ref r) H'
noncomputable def sp_lgw (K:PySem.W.Frag):Sp:=fun vs H Q _=>∃ (d p:Addr) (k:Int) (fs:List Flt) (ns:List Int),vs= [.ref d,.int k,.ref p]∧H d=some (.dT (tabV fs))∧SqL K H p (ns.map V.int)∧ns.length≤4∧
 ∀ (r:Addr) (H':Hp),Same H H'→H r=none→H' r=some (.lst ((zc5 fs k ns).map V.int))→Q (.ref r) H'
noncomputable def sp_wwG (K:PySem.W.Frag):Sp:=fun vs H Q _=>∃ (x:V) (d p:Addr) (w:zaA) (fs:List Flt) (row:List Int) (o:Int),vs= [x,.ref d,.ref p,.int o]∧Rep K H x (zbr w)∧WF 20 w∧H d=some (.dT (tabV fs))∧SqL K H p (row.map V.int)∧(row.length:Int)=w.ins∧
 ∀ (r:Addr) (H':Hp),Same H H'→H r=none→H' r=some (.lst ((zcb o fs w.gates row w.gates.length).map V.int))→Q (.ref r) H'
noncomputable def sp_owG (K:PySem.W.Frag):Sp:=fun vs H Q _=>∃ (x:V) (d p:Addr) (w:zaA) (fs:List Flt) (row:List Int) (o:Int),vs= [x,.ref d,.ref p,.int o]∧Rep K H x (zbr w)∧WF 20 w∧H d=some (.dT (tabV fs))∧SqL K H p (row.map V.int)∧(row.length:Int)=w.ins∧
 ∀ (r:Addr) (H':Hp),Same H H'→H r=none→H' r=some (.lst ((zc2 w (zcb o fs w.gates row w.gates.length)).map V.int))→Q (.ref r) H'
noncomputable def sp_ca (K:PySem.W.Frag):Sp:=fun vs H Q _=>∃ (a:Addr) (ns:List Int) (k:Nat),vs= [.ref a,.int k]∧SqL K H a (ns.map V.int)∧∀ r:Int,Q (.int r) H
noncomputable def sp_nu:Sp:=fun vs H Q _=>∃ (c:Int) (many:Nat) (b:Int),vs= [.int c,.int many,.int b]∧many≤100∧0 < b∧b < 1073741824∧
 ∀ (r:Addr) (row:List Int) (H':Hp),Same H H'→H r=none→H' r=some (.lst (row.map V.int))→row.length=many→(∀ z∈row,0≤z∧z < b)→Q (.ref r) H'
noncomputable def sp_ga (K:PySem.W.Frag):Sp:=fun vs H Q _=>∃ (p:Addr) (row:List Int) (wires:Int) (two:Bool),vs= [.ref p,.int wires,.bl two]∧SqL K H p (row.map V.int)∧row.length=6∧(∀ z∈row,0≤z)∧1≤wires∧wires < 1073741824∧
 ∀ (r la:Addr) (x:Str) (ls:List Int) (H':Hp),Same H H'→H r=none→H la=none→H' r=some (.tup [.str x,.ref la])→H' la=some (.tup (ls.map V.int))→zbh x ls.length→(∀ l∈ls,0≤l∧l < wires)→Q (.ref r) H'
noncomputable def sp_wk (K:PySem.W.Frag):Sp:=fun vs H Q _=>∃ (a:Addr) (ns:List Int) (mi mg mt:Nat),vs= [.ref a,.int mi,.int mg,.int mt]∧SqL K H a (ns.map V.int)∧ns.length≤63∧1≤mi∧mi≤6∧mg≤20∧mt≤20∧
 ∀ (r:Addr) (w:zaA) (H':Hp),Same H H'→Rep K H' (.ref r) (zbr w)→WF 20 w→w.ins≤mi→(w.gates.length≤mg∨w.gates.length≤mt)→w.outs.length≤8→Q (.ref r) H'
noncomputable def sp_lef (K:PySem.W.Frag):Sp:=fun vs H Q _=>∃ (x:V) (w:zaA),vs= [x]∧Rep K H x (zbr w)∧WF 20 w∧∀ (r:Addr) (xs:List V) (H':Hp),Same H H'→H r=none→H' r=some (.lst xs)→Reps K H' xs (zbI w)→Q (.ref r) H'
noncomputable def sp_sf (K:PySem.W.Frag):Sp:=fun vs H Q _=>∃ (x:V) (p:Addr) (w:zaA) (row:List Int),vs= [x,.ref p]∧Rep K H x (zbr w)∧WF 20 w∧SqL K H p (row.map V.int)∧row.length=9∧(∀ z∈row,0≤z)∧
 ∀ (r:Addr) (fs:List Flt) (H':Hp),Same H H'→H r=none→ze7 K w 8 H' (.ref r) fs→Q (.ref r) H'
noncomputable def sp_rao:Sp:=fun vs H Q _=>∃ n:Nat,vs= [.int n]∧n≤6∧∀ (r L:Addr) (H':Hp),Same H H'→H r=none→H L=none→H' r=some (.tup [.ref L,.int (zaN (2 ^ n))])→H' L=some (.lst ((zdd n).map V.int))→Q (.ref r) H'
theorem zjS {R:Nat}{x:Int}(h:za2 R x)(hR:R≤64):qG x≤2 ^ 20:=by
 obtain ⟨n,rfl,hn⟩:=zbk h
 have h1:n < 2 ^ 64:=qL hn (xC (by decide) hR)
 exact zfN (k:=64) (by decide) (by omega) (by omega)
theorem pow6 {n:Nat}(h:n≤6): 2 ^ n≤64:=xC (n:=2) (by decide) h
noncomputable def zh3 (u:Int):List Nat:=(qI (qG u)).filter fun j=>decide (bitI j u=1)
noncomputable def sp_un:Sp:=fun vs H Q _=>∃ (a b:Addr) (xs ys:List Int) (R:Nat),vs= [.ref a,.ref b]∧H a=some (.lst (xs.map V.int))∧H b=some (.lst (ys.map V.int))∧xs.length=ys.length∧xs.length≤1000∧R≤64∧(∀ v∈xs,za2 R v)∧(∀ v∈ys,za2 R v)∧
 ∀ (r:Addr) (H':Hp),Same H H'→H r=none→H' r=some (.lst ((zh3 (zds xs ys)).map fun j:Nat=>V.int (j:Int)))→Q (.ref r) H'
theorem zoC {R:Nat}{u:Int}(h:za2 R u)(j:Nat):(V.int (qT (u / 2 ^ ((j:Int)).toNat) 1)=V.int 1)↔bitI j u=1:=by
 obtain ⟨m,rfl,hm⟩:=zbk h
 rw [vO,za8]
 have e:(m:Int) / 2 ^ j=((m / 2 ^ j:Nat):Int):=by
  rw [Int.natCast_ediv]
  congr 1
 have e1:qT ((m / 2 ^ j:Nat):Int) 1=((m / 2 ^ j % 2:Nat):Int):=by
  have:=zjb (m / 2 ^ j) 1
  rw [Nat.and_one_is_mod] at this
  exact this
 rw [e,e1,Nat.testBit_eq_decide_div_mod_eq]
 constructor
 ·intro z
  have:=V.int.inj z
  rw [if_pos (decide_eq_true (by omega))]
 ·intro z
  by_cases c:m / 2 ^ j % 2=1
  ·rw [c]
   rfl
  ·rw [if_neg (by simpa using c)] at z
   cases z
noncomputable def zcA (w:zaA) (fs:List Flt):List Int:=zc2 w (zcb (zaN (2 ^ w.ins.toNat)) (zcg (2 ^ w.ins.toNat) fs) w.gates (zdd w.ins.toNat) w.gates.length)
theorem zku {R:Nat}{fs:List Flt}(h:zcq fs):zcq (zcg R fs):=by
 unfold zcq zcg at *
 rw [wM]
 exact h
theorem zl2 {j:Nat}{w:zaA}{ws:List Int}:(zc2 w ws).map (bitI j)=zc2 w (ws.map (bitI j)):=by
 unfold zc2
 rw [wM]
 refine xO fun o _=>?_
 exact zc1 j ws o.toNat
theorem zeM {fs:List Flt}(fb:∀ f∈fs,f.worth=0∨f.worth=1){m:Nat}{w:zaA}(wf:WF m w):(∀ v∈zcA w fs,za2 (2 ^ w.ins.toNat) v)∧(zcA w fs).length=w.outs.length∧
  ∀ (j:Nat) row,(zb9 w.ins.toNat)[j]? =some row→(zcA w fs).map (bitI j)=zc2 w (zaE fs w.gates row w.gates.length):=by
 have i1:=wf.i1
 obtain ⟨c1,c2,c3⟩:=zep w.ins.toNat
 obtain ⟨w1,w2⟩:=zgY fb wf (cols:=zdd w.ins.toNat) (by rw [c2];omega) c1 w.gates.length (yN _)
 refine ⟨fun v hv=>?_,by unfold zcA zc2;rw [yA],fun j row hj=>?_⟩
 ·unfold zcA zc2 at hv
  obtain ⟨o,_,rfl⟩:=yS.mp hv
  exact ze2 w1 _
 ·have lj:j < 2 ^ w.ins.toNat:=by
   have:=(yG.mp hj).1
   rw [zc0] at this
   exact this
  rw [c3 j lj] at hj
  cases hj
  unfold zcA
  rw [zl2,w2 j lj]
theorem zlc {fs gs:List Flt}(fb:∀ f∈fs,f.worth=0∨f.worth=1)(gb:∀ f∈gs,f.worth=0∨f.worth=1){m:Nat}{w:zaA}(wf:WF m w):
  (zh3 (zds (zcA w fs) (zcA w gs))= []→zey w fs gs=none)∧∀ j js,zh3 (zds (zcA w fs) (zcA w gs))=j::js→∃ row,(zb9 w.ins.toNat)[j]? =some row∧zey w fs gs=some row:=by
 obtain ⟨f1,f2,f3⟩:=zeM fb wf
 obtain ⟨g1,g2,g3⟩:=zeM gb wf
 obtain ⟨u1,u2⟩:=zei (R:=2 ^ w.ins.toNat) (zcA w fs) (zcA w gs) (f2.trans g2.symm) f1 g1 (zdb _)
 obtain ⟨u,eu⟩:∃ u,zds (zcA w fs) (zcA w gs)=u:=⟨_,rfl⟩
 have b0:za2 (2 ^ w.ins.toNat) u:=by rw [← eu];exact u1
 have mem:∀ j,j∈zh3 u↔bitI j u=1:=fun j=>by
  unfold zh3
  rw [kC,qE,decide_eq_true_eq]
  refine ⟨fun z=>z.2,fun z=>⟨?_,z⟩⟩
  obtain ⟨k,rfl,hk⟩:=zbk b0
  have hb:=zoV k
  rcases Nat.lt_or_ge j (qG (k:Int)) with h | h
  ·exact h
  ·rw [za8,ybt (qL hb (xC (by decide) h))] at z
   cases z
 have row_of:∀ (j:Nat) row,(zb9 w.ins.toNat)[j]? =some row→(bitI j u=1↔zc2 w (zaE fs w.gates row w.gates.length)≠zc2 w (zaE gs w.gates row w.gates.length)):=fun j row hj=>by
  rw [← eu]
  have z:=u2 j
  rw [zfu,f3 j row hj,g3 j row hj] at z
  refine z.trans ?_
  simp
 have lt_of:∀ j,bitI j u=1→j < 2 ^ w.ins.toNat:=fun j z=>by
  obtain ⟨k,rfl,hk⟩:=zbk b0
  rcases Nat.lt_or_ge j (2 ^ w.ins.toNat) with h | h
  ·exact h
  ·rw [za8,ybt (qL hk (xC (by decide) h))] at z
   cases z
 rw [eu]
 constructor
 ·intro hn
  unfold zey
  refine vM.mpr fun row hr z=>?_
  obtain ⟨j,hj⟩:=xY hr
  have:=(mem j).mpr ((row_of j row hj).mpr (of_decide_eq_true z))
  rw [hn] at this
  cases this
 ·intro j js hn
  have bj:bitI j u=1:=(mem j).mp (by rw [hn];exact .head _)
  have lj:=lt_of j bj
  obtain ⟨row,hrow⟩:∃ row,(zb9 w.ins.toNat)[j]? =some row:=⟨_,yC (by rw [zc0];exact lj)⟩
  refine ⟨row,hrow,zm4 hrow (decide_eq_true ((row_of j row hrow).mp bj)) fun y hy=>?_⟩
  obtain ⟨i,hi⟩:=xY hy
  have lij:i < j:=by
   have:=(yG.mp hi).1
   rw [yR] at this
   omega
  rw [ya5 lij] at hi
  refine decide_eq_false fun z=>?_
  have bi:=(row_of i y hi).mpr z
  have hm:=(mem i).mpr bi
  have sorted:(zh3 u).Pairwise (· < ·):=by
   unfold zh3
   exact List.Pairwise.filter _ List.pairwise_lt_range
  rw [hn] at hm sorted
  rcases yO.mp hm with e | e
  ·omega
  ·have:=(List.pairwise_cons.mp sorted).1 i e
   omega
noncomputable def sp_osR (K:PySem.W.Frag):Sp:=fun vs H Q _=>∃ (x:V) (d:Addr) (w:zaA) (fs:List Flt) (G:Hp),vs= [x,.ref d]∧Off [d] G H∧Rep K G x (zbr w)∧WF 20 w∧H d=some (.dT (tabV fs))∧(∀ f∈fs,f.worth=0∨f.worth=1)∧zcq fs∧fs.length≤1000∧
 ∀ (r:Addr) (ob:vG) (H':Hp),Same G H'→G r=none→H' d=some (.frz ob (.dT (tabV fs)))→H' r=some (.lst ((zcA w fs).map V.int))→Q (.ref r) H'
noncomputable def sp_osT (K:PySem.W.Frag):Sp:=fun vs H Q _=>∃ (x:V) (d:Addr) (w:zaA) (fs:List Flt),vs= [x,.ref d]∧Rep K H x (zbr w)∧WF 20 w∧H d=some (.dT (tabV fs))∧(∀ f∈fs,f.worth=0∨f.worth=1)∧zcq fs∧fs.length≤1000∧
 ∀ (r:Addr) (H':Hp),Same H H'→H r=none→H' r=some (.lst ((zcA w fs).map V.int))→Q (.ref r) H'
theorem zmv {K:PySem.W.Frag}{H:Hp}{p a:Addr}{xs:List V}{kvs:List (List Key×V)}(h:SqT K H a xs)(e:H p=some (.dT kvs)):SqT K (hole p H) a xs:=by
 rcases h with h | h
 ·left
  rcases h with h | ⟨o,h⟩
  ·exact .inl (by rw [zbP (fun z=>by rw [z,e] at h;cases h)];exact h)
  ·exact .inr ⟨o,by rw [zbP (fun z=>by rw [z,e] at h;cases h)];exact h⟩
 ·exact .inr h
theorem zln {K:PySem.W.Frag}{H:Hp}{p a:Addr}{xs:List V}{kvs:List (List Key×V)}(h:SqL K H a xs)(e:H p=some (.dT kvs)):SqL K (hole p H) a xs:=by
 rcases h with h | h
 ·left
  rcases h with h | ⟨o,h⟩
  ·exact .inl (by rw [zbP (fun z=>by rw [z,e] at h;cases h)];exact h)
  ·exact .inr ⟨o,by rw [zbP (fun z=>by rw [z,e] at h;cases h)];exact h⟩
 ·exact .inr h
mutual
theorem zjZ {K:PySem.W.Frag}{H:Hp}{d:Addr}{kvs:List (List Key×V)}(e:H d=some (.dT kvs)):∀ {v:V} {D:Dat},Rep K H v D→Rep K (hole d H) v D
 | _,_,.non=>.non
 | _,_,.bl b=>.bl b
 | _,_,.int i=>.int i
 | _,_,.str x=>.str x
 | _,_,.tup h r=>.tup (zmv h e) (zgi e r)
 | _,_,.lst h r=>.lst (zln h e) (zgi e r)
theorem zgi {K:PySem.W.Frag}{H:Hp}{d:Addr}{kvs:List (List Key×V)}(e:H d=some (.dT kvs)):∀ {vs:List V} {Ds:List Dat},Reps K H vs Ds→Reps K (hole d H) vs Ds
 | _,_,.nil=>.nil
 | _,_,.cons h r=>.cons (zjZ e h) (zgi e r)
end
noncomputable def zlq (H H':Hp) (o:Option (List Int)) (v:V):Prop:=match o with
 | none=>v= .non
 | some row=>∃ q,v= .ref q∧H q=none∧H' q=some (.lst (row.map V.int))
noncomputable def sp_fu (K:PySem.W.Frag):Sp:=fun vs H Q _=>∃ (x:V) (d e:Addr) (w:zaA) (fs gs:List Flt),vs= [x,.ref d,.ref e]∧Rep K H x (zbr w)∧WF 20 w∧H d=some (.dT (tabV fs))∧H e=some (.dT (tabV gs))∧(∀ f∈fs,f.worth=0∨f.worth=1)∧(∀ f∈gs,f.worth=0∨f.worth=1)∧zcq fs∧zcq gs∧fs.length≤1000∧gs.length≤1000∧
 ∀ (v:V) (H':Hp),Same H H'→zlq H H' (zey w fs gs) v→Q v H'
noncomputable def ziu (H':Hp) (o:Option (List Int)) (v:V):Prop:=match o with
 | none=>v= .non
 | some row=>∃ q,v= .ref q∧H' q=some (.lst (row.map V.int))
theorem ziu.mono {H H':Hp}{o:Option (List Int)}{v:V}(h:ziu H o v)(s:Same H H'):ziu H' o v:=by
 unfold ziu at *
 cases o with
 | none=>exact h
 | some row=>
  obtain ⟨q,a,b⟩:=h
  exact ⟨q,a,s _ _ b⟩
theorem ziu.hole {H:Hp}{o:Option (List Int)}{v:V}{p:Addr}{ts:List V}(h:ziu H o v)(ne:∀ row,o=some row→row≠[])(e:H p=some (.lst ts))(rf:∀ t∈ts,∃ a,t= .ref a):ziu (My.hole p H) o v:=by
 unfold ziu at *
 cases o with
 | none=>exact h
 | some row=>
  obtain ⟨q,a,b⟩:=h
  refine ⟨q,a,?_⟩
  by_cases z:q=p
  ·subst z
   rw [e] at b
   have b2:ts=row.map V.int:=HO.lst.inj (qF b)
   cases row with
   | nil=>exact absurd rfl (ne [] rfl)
   | cons n row=>
    obtain ⟨a2,e2⟩:=rf (.int n) (by rw [b2];exact .head _)
    cases e2
  ·rw [zbP z]
   exact b
theorem zlq.any {G H':Hp}{o:Option (List Int)}{v:V}{H:Hp}(h:zlq H H' o v)(s:Same G H):zlq G H' o v:=by
 unfold zlq at *
 cases o with
 | none=>exact h
 | some row=>
  obtain ⟨q,a,b,c⟩:=h
  exact ⟨q,a,s.free b,c⟩
noncomputable def PL (H:Hp) (v:V) (cs:List Nat):Prop:=∃ (l:Addr) (ps:List (Nat×Addr)),v= .ref l∧H l=some (.lst (ps.map fun p=>V.ref p.2))∧ps.map yZ=cs∧∀ p∈ps,p.1 < 4∧H p.2=some (zek p.1)
theorem PL.mono {H H':Hp}{v:V}{cs:List Nat}(h:PL H v cs)(s:Same H H'):PL H' v cs:=by
 obtain ⟨l,ps,a,b,c,d⟩:=h
 exact ⟨l,ps,a,s _ _ b,c,fun p hp=>⟨(d p hp).1,s _ _ (d p hp).2⟩⟩
noncomputable def inP:Option Int→List Nat
 | none=>[0,3]
 | some b=>[zbw b b]
noncomputable def optV:Option Int→V
 | none=>.non
 | some b=>.int b
theorem hpO (c:Nat):zek c= .tup [.int (hiV c),.int (loV c)]:=rfl
theorem zmw:zek 0= .tup [.int 0,.int 0]:=rfl
theorem zmN:zek 3= .tup [.int 1,.int 1]:=rfl
noncomputable def PLn (H H':Hp) (v:V) (cs:List Nat):Prop:=∃ (l:Addr) (ps:List (Nat×Addr)),v= .ref l∧H l=none∧H' l=some (.lst (ps.map fun p=>V.ref p.2))∧ps.map yZ=cs∧∀ p∈ps,p.1 < 4∧H p.2=none∧H' p.2=some (zek p.1)
noncomputable def sp_ip:Sp:=fun vs H Q _=>∃ (o:Option Int),vs= [optV o]∧(∀ b,o=some b→b=0∨b=1)∧∀ (v:V) (H':Hp),Same H H'→PLn H H' v (inP o)→Q v H'
noncomputable def sp_cp (K:PySem.W.Frag):Sp:=fun vs H Q _=>∃ (k:Str) (l:Addr) (ps:List (Nat×Addr)),vs= [.str k,.ref l]∧H l=some (.lst (ps.map fun p=>V.ref p.2))∧(∀ p∈ps,p.1 < 4∧H p.2=some (zek p.1))∧zbh k ps.length∧
 ∀ (r:Addr) (H':Hp),Same H H'→H r=none→H' r=some (zek (zbL k (ps.map yZ)))→Q (.ref r) H'
noncomputable def zfn:Option Int→List Nat→List Nat
 | none,cs=>cs
 | some b,cs=>zaY (cs.map fun c=>zbw (hiV c) b)
noncomputable def zex (G H H':Hp):Hp:=fun b=>match H b with
 | none=>H' b
 | some _=>G b
theorem zdW {G H H':Hp}{b:Addr}(h:H b=none):zex G H H' b=H' b:=by unfold zex;rw [h]
theorem zcz {G H H':Hp}(f:Same G H):Same G (zex G H H'):=fun b o e=>by unfold zex;rw [f _ _ e];exact e
theorem zc8 {M:List Addr}{G H H':Hp}(f:Off M G H)(s:Same H H'):Off M (zex G H H') H':=by
 refine ⟨fun b o e=>?_,fun m hm=>?_,fun m hm=>?_⟩
 ·unfold zex at e
  cases hb:H b with
  | none=>rw [hb] at e;exact e
  | some u=>rw [hb] at e;exact s _ _ (f.same _ _ e)
 ·obtain ⟨o,e⟩:=f.there m hm
  unfold zex
  rw [e]
  exact f.out m hm
 ·obtain ⟨o,e⟩:=f.there m hm
  exact ⟨o,s _ _ e⟩
theorem PLn.pl {G H H':Hp}{v:V}{cs:List Nat}(h:PLn H H' v cs):PL (zex G H H') v cs:=by
 obtain ⟨l,ps,a,b,c,d,e⟩:=h
 exact ⟨l,ps,a,by rw [zdW b];exact c,d,fun p hp=>⟨(e p hp).1,by rw [zdW (e p hp).2.1];exact (e p hp).2.2⟩⟩
theorem PLn.here {H H':Hp}{v:V}{cs:List Nat}(h:PLn H H' v cs):PL H' v cs:=by
 obtain ⟨l,ps,a,b,c,d,e⟩:=h
 exact ⟨l,ps,a,c,d,fun p hp=>⟨(e p hp).1,(e p hp).2.2⟩⟩
noncomputable def sp_ws:Sp:=fun vs H Q _=>∃ (v:V) (d pl:Addr) (cs:List Nat) (fs:List Flt) (place:List Key),vs= [v,.ref d,.ref pl]∧PL H v cs∧cs.length≤16∧H d=some (.dT (tabV fs))∧H pl=some (.tup (place.map kV))∧(∀ f∈fs,f.worth=0∨f.worth=1)∧
 ∀ (v':V) (H':Hp),Same H H'→(v'=v∧look fs place=none∨PLn H H' v' (zfn (look fs place) cs))→Q v' H'
noncomputable abbrev PLs (H:Hp):List V→List (List Nat)→Prop:=Paired fun x cs=>PL H x cs
theorem PLs.mono {H H':Hp}(s:Same H H'):∀ {xs:List V} {css:List (List Nat)},PLs H xs css→PLs H' xs css
 | _,_,.nil=>.nil
 | _,_,.cons h t=>.cons (PL.mono h s) (PLs.mono s t)
theorem PLs.append {H:Hp}:∀ {xs ys:List V} {as bs:List (List Nat)},PLs H xs as→PLs H ys bs→PLs H (xs++ys) (as++bs)
 | _,_,_,_,.nil,h=>h
 | _,_,_,_,.cons a t,h=>.cons a (PLs.append t h)
theorem PLs.get {H:Hp}:∀ {xs:List V} {css:List (List Nat)} {i:Nat} {x:V},PLs H xs css→xs[i]? =some x→∃ cs,css[i]? =some cs∧PL H x cs
 | _,_,0,_,.cons (b:=c) h _,e=>by cases e;exact ⟨c,rfl,h⟩
 | _,_,i+1,_,.cons _ t,e=>PLs.get (i:=i) t e
theorem PLs.len {H:Hp}{xs:List V}{css:List (List Nat)}(h:PLs H xs css):xs.length=css.length:=vV h
theorem zjg {cs:List Nat}(h:cs.length≤4):∀ rows:List (List Nat),(rows.flatMap fun r=>cs.map fun p=>r++ [p]).length≤rows.length * 4
 | []=>yN _
 | r::rows=>by
  have:=zjg h rows
  rw [ybb,yJ,yA,qP]
  omega
theorem zdc:∀ (legs acc:List (List Nat)),(∀ l∈legs,l.length≤4)→(zbj acc legs).length≤acc.length * 4 ^ legs.length
 | [],acc,_=>by show acc.length≤acc.length * 1;omega
 | l::ls,acc,h=>by
  have h1:=zdc ls (acc.flatMap fun r=>l.map fun p=>r++ [p]) fun m hm=>h m (.tail _ hm)
  have h2:=zjg (h l (.head _)) acc
  have h3:=Nat.mul_le_mul_right (4 ^ ls.length) h2
  rw [Nat.mul_assoc,← Nat.pow_succ'] at h3
  exact qX h1 h3
theorem zhq (acc legs:List (List Nat))(l:List Nat):zbj acc (legs++ [l])=(zbj acc legs).flatMap fun r=>l.map fun p=>r++ [p]:=by
 unfold zbj
 rw [wR]
 rfl
noncomputable def NewR (H:Hp) (y:V):Prop:=∃ l,y= .ref l∧H l=none
noncomputable def sp_ec:Sp:=fun vs H Q _=>∃ (a:Addr) (xs:List V) (css:List (List Nat)),vs= [.ref a]∧H a=some (.lst xs)∧PLs H xs css∧css.length≤4∧(∀ cs∈css,cs.length≤4)∧
 ∀ (R:Addr) (ys:List V) (H':Hp),Same H H'→H R=none→H' R=some (.lst ys)→PLs H' ys (choices css)→(∀ y∈ys,NewR H y)→Q (.ref R) H'
noncomputable def zef (fs:List Flt) (k:Int) (css:List (List Nat)):List (List Nat):=css.mapIdx fun i cs=>zfn (look fs (legK k i)) cs
theorem zkJ (fs:List Flt)(k:Int)(css:List (List Nat))(cs:List Nat):zef fs k (css++ [cs])=zef fs k css++ [zfn (look fs (legK k css.length)) cs]:=by
 unfold zef
 rw [yam]
noncomputable def sp_lp:Sp:=fun vs H Q _=>∃ (d p:Addr) (k:Int) (fs:List Flt) (xs:List V) (css:List (List Nat)),vs= [.ref d,.int k,.ref p]∧H d=some (.dT (tabV fs))∧(∀ f∈fs,f.worth=0∨f.worth=1)∧H p=some (.lst xs)∧PLs H xs css∧css.length≤4∧(∀ cs∈css,cs.length≤4)∧
 ∀ (R:Addr) (ys:List V) (H':Hp),Same H H'→H R=none→H' R=some (.lst ys)→PLs H' ys (zef fs k css)→Q (.ref R) H'
noncomputable def zn6 (m:Nat):Sp:=fun vs H Q _=>∃ (k:Str) (a:Addr) (xs:List V) (css:List (List Nat)),vs= [.str k,.ref a]∧H a=some (.lst xs)∧PLs H xs css∧zbh k css.length∧(zfm k→css.length≤m)∧(∀ cs∈css,cs.length≤4)∧∀ (v':V) (H':Hp),Same H H'→PLn H H' v' (zfi k css)→Q v' H'
noncomputable def zl7 (m:Nat):Sp:=fun vs H Q _=>∃ (k:Str) (a:Addr) (xs:List V) (css:List (List Nat)),vs= [.str k,.ref a]∧H a=some (.lst xs)∧PLs H xs css∧zfm k∧2≤css.length∧css.length≤m∧css.length≤4∧(∀ cs∈css,cs.length≤4)∧∀ (v':V) (H':Hp),Same H H'→PLn H H' v' (zfi k css)→Q v' H'
theorem zlf {k:Str}(h:zfm k){n:Nat}(a: 2≤n)(b:n≤4):zbh k n:=.inl ⟨h,a,b⟩
theorem zon {m:Nat}{vs:List V}{H:Hp}{Q:VK}{E:XK}(h:zl7 m vs H Q E):zn6 m vs H Q E:=by
 obtain ⟨k,a,xs,css,e,ha,hx,fk,l2,lm,l4,c4,q⟩:=h
 exact ⟨k,a,xs,css,e,ha,hx,zlf fk l2 l4,fun _=>lm,c4,q⟩
noncomputable def sp_gp:Sp:=fun vs H Q _=>∃ (k:Str) (a:Addr) (xs:List V) (css:List (List Nat)),vs= [.str k,.ref a]∧H a=some (.lst xs)∧PLs H xs css∧zbh k css.length∧(∀ cs∈css,cs.length≤4)∧∀ (v':V) (H':Hp),Same H H'→PLn H H' v' (zfi k css)→Q v' H'
theorem zlZ (k:Str):inV (.str k) ((["and","or","odd"]:List Str).map V.str)=true↔zfm k:=by
 unfold inV zfm
 rw [ycf]
 constructor
 ·rintro ⟨y,hy,e⟩
  have hy':y= .str "and"∨y= .str "or"∨y= .str "odd" :=by simpa using hy
  rcases hy' with rfl | rfl | rfl
  ·exact .inl (eq_of_beq (show (("and" :Str)==k)=true from e)).symm
  ·exact .inr (.inl (eq_of_beq (show (("or" :Str)==k)=true from e)).symm)
  ·exact .inr (.inr (eq_of_beq (show (("odd" :Str)==k)=true from e)).symm)
 ·rintro (rfl | rfl | rfl)
  ·exact ⟨.str "and",by simp,by decide+kernel⟩
  ·exact ⟨.str "or",by simp,by decide+kernel⟩
  ·exact ⟨.str "odd",by simp,by decide+kernel⟩
theorem PLs.back {F:Addr}{H:Hp}{o:HO}:∀ {xs:List V} {css:List (List Nat)},PLs H xs css→H F=some o→(∀ c,o≠zek c)→(∀ y∈xs,∀ l,y= .ref l→l≠F)→PLs (hole F H) xs css
 | _,_,.nil,_,_,_=>.nil
 | _,_,.cons h t,e,no,n=>by
  obtain ⟨l,ps,rfl,hl,rfl,hp⟩:=h
  refine .cons ⟨l,ps,rfl,by rw [zbP (n _ (.head _) l rfl)];exact hl,rfl,fun p hp'=>⟨(hp p hp').1,?_⟩⟩ (PLs.back t e no fun y hy=>n y (.tail _ hy))
  rw [zbP]
  ·exact (hp p hp').2
  ·intro z
   have:=(hp p hp').2
   rw [z,e] at this
   exact no _ (qF this)
theorem PL.codes {H:Hp}{v:V}{cs:List Nat}(h:PL H v cs):zch cs:=by
 obtain ⟨l,ps,_,_,rfl,d⟩:=h
 intro c hc
 obtain ⟨p,hp,rfl⟩:=yS.mp hc
 exact (d p hp).1
theorem PLs.codes {H:Hp}:∀ {xs:List V} {css:List (List Nat)},PLs H xs css→∀ cs∈css,zch cs
 | _,_,.cons h t,cs,hc=>by
  rcases yO.mp hc with rfl | hc
  ·exact PL.codes h
  ·exact PLs.codes t cs hc
theorem PLs.split {H:Hp}:∀ {xs:List V} {as:List (List Nat)} {b:List Nat},PLs H xs (as++ [b])→∃ ys y,xs=ys++ [y]∧PLs H ys as∧PL H y b
 | _,[],_,.cons h .nil=>⟨[],_,rfl,.nil,h⟩
 | _,a::as,_,.cons h t=>by
  obtain ⟨ys,y,rfl,h1,h2⟩:=PLs.split t
  exact ⟨_::ys,y,rfl,.cons h h1,h2⟩
theorem PLn.older {H0 H H':Hp}{v:V}{cs:List Nat}(s:Same H0 H)(h:PLn H H' v cs):PLn H0 H' v cs:=by
 obtain ⟨l,ps,a,b,c,d,e⟩:=h
 exact ⟨l,ps,a,s.free b,c,d,fun p hp=>⟨(e p hp).1,s.free (e p hp).2.1,(e p hp).2.2⟩⟩
theorem zfX {k:Str}{r:List Nat}(hr:zch r)(lk:zbh k r.length):zbL k r < 4:=
 zcZ (zcO hr.hi (by rw [yA];exact lk)) (zcO hr.lo (by rw [yA];exact lk))
theorem zdl (cs:List Nat):(zaY cs).length≤4:=by
 unfold zaY
 exact qX (wO _ _) (by decide)
theorem PLn.mono {H G G':Hp}{v:V}{cs:List Nat}(h:PLn H G v cs)(s:Same G G'):PLn H G' v cs:=by
 obtain ⟨l,ps,a,b,c,d,e⟩:=h
 exact ⟨l,ps,a,b,s _ _ c,d,fun p hp=>⟨(e p hp).1,(e p hp).2.1,s _ _ (e p hp).2.2⟩⟩
theorem PLn.news {H0 G H H':Hp}{v:V}{cs:List Nat}(s:Same H0 H)(h:PLn H H' v cs):PLn H0 (zex G H H') v cs:=by
 obtain ⟨l,ps,a,b,c,d,e⟩:=h
 exact ⟨l,ps,a,s.free b,by rw [zdW b];exact c,d,fun p hp=>⟨(e p hp).1,s.free (e p hp).2.1,by rw [zdW (e p hp).2.1];exact (e p hp).2.2⟩⟩
noncomputable abbrev PLN (H G:Hp):List V→List (List Nat)→Prop:=Paired fun x cs=>PLn H G x cs
theorem PLN.mono {H G G':Hp}(s:Same G G'):∀ {xs:List V} {css:List (List Nat)},PLN H G xs css→PLN H G' xs css
 | _,_,.nil=>.nil
 | _,_,.cons h t=>.cons (PLn.mono h s) (PLN.mono s t)
theorem PLN.append {H G:Hp}:∀ {xs ys:List V} {as bs:List (List Nat)},PLN H G xs as→PLN H G ys bs→PLN H G (xs++ys) (as++bs)
 | _,_,_,_,.nil,h=>h
 | _,_,_,_,.cons a t,h=>.cons a (PLN.append t h)
theorem PLN.get {H G:Hp}:∀ {xs:List V} {css:List (List Nat)} {i:Nat} {x:V},PLN H G xs css→xs[i]? =some x→∃ cs,css[i]? =some cs∧PLn H G x cs
 | _,_,0,_,.cons (b:=c) h _,e=>by cases e;exact ⟨c,rfl,h⟩
 | _,_,i+1,_,.cons _ t,e=>PLN.get (i:=i) t e
theorem PLN.len {H G:Hp}{xs:List V}{css:List (List Nat)}(h:PLN H G xs css):xs.length=css.length:=vV h
theorem PLN.pls {H G:Hp}:∀ {xs:List V} {css:List (List Nat)},PLN H G xs css→PLs G xs css
 | _,_,.nil=>.nil
 | _,_,.cons h t=>.cons (PLn.here h) (PLN.pls t)
theorem PLs.pick {G:Hp}{ys:List V}{css:List (List Nat)}(h:PLs G ys css):∀ {ls:List Int},(∀ l∈ls,0≤l∧l < ys.length)→PLs G (ls.map fun l=>ys.getD l.toNat V.non) (ls.map fun l=>css.getD l.toNat [])
 | [],_=>.nil
 | l::ls,hl=>by
  have b:=hl l (.head _)
  have hy:ys[l.toNat]? =some (ys.getD l.toNat V.non):=by rw [yK,yC (by omega)];rfl
  obtain ⟨cs,hc,hp⟩:=h.get hy
  refine .cons ?_ (PLs.pick h fun z hz=>hl z (.tail _ hz))
  have e:css.getD l.toNat []=cs:=by rw [yK,hc];rfl
  show PL G _ (css.getD l.toNat [])
  rw [e]
  exact hp
noncomputable def rowP (fs:List Flt) (ks:List (Option Int)):List (List Nat):=ks.mapIdx fun i o=>zfn (look fs (zbd i)) (inP o)
theorem zmZ (fs:List Flt)(ks:List (Option Int))(o:Option Int):rowP fs (ks++ [o])=rowP fs ks++ [zfn (look fs (zbd ks.length)) (inP o)]:=by unfold rowP;rw [yam]
theorem zj0 (fs:List Flt)(ks:List (Option Int)):(rowP fs ks).length=ks.length:=by unfold rowP;rw [wJ]
noncomputable def zaQ (fs:List Flt) (gs:List (Str×List Int)) (ks:List (Option Int)):Nat→List (List Nat)
 | 0=>rowP fs ks
 | n+1=>zaQ fs gs ks n++ [zfn (look fs (zbd ((ks.length+n:Nat):Int))) (match gs[n]? with
   | some g=>zfi g.1 (zef fs n (g.2.map fun l=>(zaQ fs gs ks n).getD l.toNat []))
   | none=>[])]
theorem zc6 (fs:List Flt)(gs:List (Str×List Int))(ks:List (Option Int)):∀ n,(zaQ fs gs ks n).length=ks.length+n
 | 0=>zj0 fs ks
 | n+1=>by rw [zaQ,yJ,zc6 fs gs ks n];simp;omega
theorem zhf {o:Option Int}{cs:List Nat}(h:cs.length≤4):(zfn o cs).length≤4:=by
 cases o with
 | none=>exact h
 | some b=>exact zdl _
theorem zn4 (o:Option Int):(inP o).length≤4:=by cases o <;> simp [inP]
theorem zfL (fs:List Flt)(gs:List (Str×List Int))(ks:List (Option Int)):∀ n,∀ cs∈zaQ fs gs ks n,cs.length≤4
 | 0=>fun cs hc=>by
  obtain ⟨i,h,e⟩:=vI.mp (show cs∈ks.mapIdx _ from hc)
  rw [← e]
  exact zhf (zn4 _)
 | n+1=>fun cs hc=>by
  rw [zaQ] at hc
  rcases yP.mp hc with hc | hc
  ·exact zfL fs gs ks n cs hc
  ·rw [yF.mp hc]
   refine zhf ?_
   split
   ·exact zdl _
   ·exact qN _
theorem zhV (fs:List Flt)(k:Int)(css:List (List Nat)):(zef fs k css).length=css.length:=by unfold zef;rw [wJ]
theorem znv {fs:List Flt}{k:Int}{css:List (List Nat)}(h:∀ cs∈css,cs.length≤4):∀ cs∈zef fs k css,cs.length≤4:=fun cs hc=>by
 obtain ⟨i,hi,e⟩:=vI.mp (show cs∈css.mapIdx _ from hc)
 rw [← e]
 exact zhf (h _ (jO hi))
noncomputable def sp_ep (K:PySem.W.Frag):Sp:=fun vs H Q _=>∃ (x:V) (d p:Addr) (w:zaA) (fs:List Flt) (ks:List (Option Int)),vs= [x,.ref d,.ref p]∧Rep K H x (zbr w)∧WF 20 w∧H d=some (.dT (tabV fs))∧(∀ f∈fs,f.worth=0∨f.worth=1)∧H p=some (.lst (ks.map optV))∧(ks.length:Int)=w.ins∧(∀ o∈ks,∀ b,o=some b→b=0∨b=1)∧
 ∀ (R:Addr) (ys:List V) (H':Hp),Same H H'→H R=none→H' R=some (.lst ys)→PLN H H' ys (zaQ fs w.gates ks w.gates.length)→Q (.ref R) H'
theorem zjR {fs:List Flt}{k:List Key}{b:Int}(fb:∀ f∈fs,f.worth=0∨f.worth=1)(h:look fs k=some b):b=0∨b=1:=by
 unfold look at h
 obtain ⟨f,hf,rfl⟩:=jQ.mp h
 exact fb f (vZ hf)
theorem zfU {fs:List Flt}{key:List Key}{cs:List Nat}(fb:∀ f∈fs,f.worth=0∨f.worth=1)(hc:zch cs){c:Nat}(h:c∈cs):zbw (hiV c) (pick fs key (loV c))∈zfn (look fs key) cs:=by
 unfold pick
 cases e:look fs key with
 | none=>
  show zbw (hiV c) (loV c)∈cs
  rw [zpc (hc c h)]
  exact h
 | some v=>
  have hv:=zjR fb e
  show zbw (hiV c) v∈zaY (cs.map fun c=>zbw (hiV c) v)
  rw [zeh]
  ·exact yS.mpr ⟨c,h,rfl⟩
  ·intro d hd
   obtain ⟨c2,h2,rfl⟩:=yS.mp hd
   exact zcZ (zg8 (hc c2 h2)) hv
theorem zdH (cs:List Nat):zch (zaY cs):=fun c hc=>by
 unfold zaY at hc
 have:=(kC.mp hc).1
 simp at this
 omega
theorem zeT {o:Option Int}{cs:List Nat}(h:zch cs):zch (zfn o cs):=by
 cases o with
 | none=>exact h
 | some b=>exact zdH _
theorem zjO {o:Option Int}(h:∀ b,o=some b→b=0∨b=1):zch (inP o):=by
 cases o with
 | none=>
  intro c hc
  have:c=0∨c=3:=by simpa [inP] using hc
  omega
 | some b=>
  intro c hc
  rw [yF.mp hc]
  exact zcZ (h b rfl) (h b rfl)
theorem ze9 {fs:List Flt}{gs:List (Str×List Int)}{ks:List (Option Int)}(kb:∀ o∈ks,∀ b,o=some b→b=0∨b=1):∀ n,∀ cs∈zaQ fs gs ks n,zch cs
 | 0=>fun cs hc=>by
  obtain ⟨i,h,e⟩:=vI.mp (show cs∈ks.mapIdx _ from hc)
  rw [← e]
  exact zeT (zjO (kb _ (jO h)))
 | n+1=>fun cs hc=>by
  rw [zaQ] at hc
  rcases yP.mp hc with hc | hc
  ·exact ze9 kb n cs hc
  ·rw [yF.mp hc]
   refine zeT ?_
   split
   ·exact zdH _
   ·exact fun _ z=>(qJ z).elim
theorem zgH {α :Type}:∀ (ls:List α) (f:Nat→α→Nat) (g:Nat→α→List Nat),(∀ i a,a∈ls→f i a∈g i a)→zbN (ls.mapIdx f) (ls.mapIdx g)
 | [],_,_,_=>.nil
 | a::ls,f,g,h=>by
  rw [ych,ych]
  exact .cons (h 0 a (.head _)) (zgH ls _ _ fun i b hb=>h (i+1) b (.tail _ hb))
theorem zfF {α β γ :Type}(f:Nat→β→γ)(F: α→β)(ls:List α):(ls.map F).mapIdx f=ls.mapIdx fun i a=>f i (F a):=by
 refine xH fun i=>?_
 rw [jF,jF,yE]
 cases ls[i]? <;> rfl
theorem zf1 {α β γ :Type}(f:Nat→α→β)(F: β→γ)(ls:List α):(ls.mapIdx f).map F=ls.mapIdx fun i a=>F (f i a):=by
 refine xH fun i=>?_
 rw [yE,jF,jF]
 cases ls[i]? <;> rfl
theorem zhQ {α β :Type}(F: α→β)(ls:List α):ls.mapIdx (fun _ a=>F a)=ls.map F:=by
 refine xH fun i=>?_
 rw [jF,yE]
theorem zeF {α β :Type}{f g:Nat→α→β}{ls:List α}(h:∀ i a,a∈ls→f i a=g i a):ls.mapIdx f=ls.mapIdx g:=by
 refine xH fun i=>?_
 rw [jF,jF]
 cases e:ls[i]? with
 | none=>rfl
 | some a=>exact congrArg some (h i a (yI e))
theorem zfZ {α :Type}{xs:List α}{y d: α}{i:Nat}(h:i < xs.length):(xs++ [y]).getD i d=xs.getD i d:=by
 rw [yK,yK,qY h]
theorem zf4 {α :Type}{xs:List α}{y d: α}{i:Nat}(h:i=xs.length):(xs++ [y]).getD i d=y:=by
 subst h
 rw [yK,qR (yN _),yaf]
 rfl
noncomputable def Agree (row:List Int) (ks:List (Option Int)):Prop:=∀ (i:Nat) b,ks[i]? =some (some b)→row[i]? =some b
theorem zgq {fs:List Flt}(fb:∀ f∈fs,f.worth=0∨f.worth=1){m:Nat}{w:zaA}{row:List Int}{ks:List (Option Int)}(wf:WF m w)(hl:(row.length:Int)=w.ins)(lk:ks.length=row.length)(b:Bits row)(kb:∀ o∈ks,∀ b,o=some b→b=0∨b=1)(ag:Agree row ks):
  ∀ n,n≤w.gates.length→∀ i,i < row.length+n→zbw ((zbc w.gates row n).getD i 0) ((zaE fs w.gates row n).getD i 0)∈(zaQ fs w.gates ks n).getD i []
 | 0,_,i,hi=>by
  have hi':i < row.length:=hi
  have hk:i < ks.length:=by omega
  have bi:=b _ (jO hi')
  have e1:(zbc w.gates row 0).getD i 0=row[i]:=by show row.getD i 0=_;rw [yK,yC hi'];rfl
  have e2:(zaE fs w.gates row 0).getD i 0=pick fs (zbd (i:Int)) row[i]:=by
   show (row.mapIdx _).getD i 0=_
   rw [yK,jF,yC hi']
   rfl
  have e3:(zaQ fs w.gates ks 0).getD i []=zfn (look fs (zbd (i:Int))) (inP ks[i]):=by
   show (ks.mapIdx _).getD i []=_
   rw [yK,jF,yC hk]
   rfl
  have hm:zbw row[i] row[i]∈inP ks[i]:=by
   cases e:ks[i] with
   | none=>
    show _∈[0,3]
    rcases bi with z | z <;> rw [z] <;> decide
   | some v=>
    have:=ag i v (by rw [yC hk,e])
    rw [yC hi'] at this
    rw [qF this]
    exact yF.mpr rfl
  have z:=zfU (key:=zbd (i:Int)) fb (zjO (kb _ (jO hk))) hm
  rw [zdQ bi bi,zdG bi bi] at z
  rw [e1,e2,e3]
  exact z
 | n+1,hn,i,hi=>by
  have ih:=zgq fb wf hl lk b kb ag n (by omega)
  have l1:=zcw w.gates row n
  have l2:=zcu fs w.gates row n
  have l3:=zc6 fs w.gates ks n
  rw [zbc,zaE,zaQ]
  by_cases hlt:i < row.length+n
  ·rw [zfZ (by omega),zfZ (by omega),zfZ (by omega)]
   exact ih i hlt
  have hi':i=row.length+n:=by omega
  obtain ⟨g,hg⟩:∃ g,w.gates[n]? =some g:=⟨_,yC (by omega)⟩
  obtain ⟨lkg,lb⟩:=wf.legs n g hg
  rw [zf4 (by omega),zf4 (by omega),zf4 (by omega),hg,lk]
  have bV:=zee wf hl b n (by omega)
  have bS:=zdf fb wf hl b n (by omega)
  have cQ:=ze9 (fs:=fs) (gs:=w.gates) kb n
  have hk:∀ l∈g.2,l.toNat < row.length+n:=fun l hl'=>by have:=lb l hl';omega
  have bv:∀ l∈g.2,(zbc w.gates row n).getD l.toNat 0=0∨(zbc w.gates row n).getD l.toNat 0=1:=fun l hl'=>zbu bV (by have:=hk l hl';omega)
  have bs:∀ l∈g.2,(zaE fs w.gates row n).getD l.toNat 0=0∨(zaE fs w.gates row n).getD l.toNat 0=1:=fun l hl'=>zbu bS (by have:=hk l hl';omega)
  have cq:∀ l∈g.2,zch ((zaQ fs w.gates ks n).getD l.toNat []):=fun l hl'=>by
   have h1:l.toNat < (zaQ fs w.gates ks n).length:=by have:=hk l hl';omega
   rw [yK,yC h1]
   exact cQ _ (jO h1)
  have bp:∀ (i:Nat) l,l∈g.2→pick fs (legK (n:Int) (i:Int)) ((zaE fs w.gates row n).getD l.toNat 0)=0∨pick fs (legK (n:Int) (i:Int)) ((zaE fs w.gates row n).getD l.toNat 0)=1:=fun i l hl'=>zft fb (bs l hl')
  obtain ⟨rl,erl⟩:∃ rl,g.2.mapIdx (fun i l=>zbw ((zbc w.gates row n).getD l.toNat 0) (pick fs (legK (n:Int) (i:Int)) ((zaE fs w.gates row n).getD l.toNat 0)))=rl:=⟨_,rfl⟩
  have ch:zbN rl (zef fs n (g.2.map fun l=>(zaQ fs w.gates ks n).getD l.toNat [])):=by
   unfold zef
   rw [zfF,← erl]
   refine zgH _ _ _ fun i l hl'=>?_
   have z:=zfU (key:=legK (n:Int) (i:Int)) fb (cq l hl') (ih l.toNat (hk l hl'))
   rw [zdQ (bv l hl') (bs l hl'),zdG (bv l hl') (bs l hl')] at z
   exact z
  have h1:rl.map hiV=g.2.map fun l=>(zbc w.gates row n).getD l.toNat 0:=by
   rw [← erl,zf1,← zhQ]
   exact zeF fun i l hl'=>zdQ (bv l hl') (bp i l hl')
  have h2:rl.map loV=zc5 fs n (g.2.map fun l=>(zaE fs w.gates row n).getD l.toNat 0):=by
   unfold zc5
   rw [← erl,zf1,zfF]
   exact zeF fun i l hl'=>zdG (bv l hl') (bp i l hl')
  have cl:∀ cs∈zef fs n (g.2.map fun l=>(zaQ fs w.gates ks n).getD l.toNat []),zch cs:=fun cs hc=>by
   obtain ⟨i,hi2,e⟩:=vI.mp (show cs∈(g.2.map _).mapIdx _ from hc)
   rw [← e]
   refine zeT ?_
   obtain ⟨l,hl',e2⟩:=yS.mp (jO hi2)
   rw [← e2]
   exact cq l hl'
  have lkr:∀ r,zbN r (zef fs n (g.2.map fun l=>(zaQ fs w.gates ks n).getD l.toNat []))→zbh g.1 r.length:=fun r hr=>by
   rw [hr.length,zhV,yA]
   exact lkg
  have hmem:zbw (zbq g.1 (rl.map hiV)) (zbq g.1 (rl.map loV))∈zfi g.1 (zef fs n (g.2.map fun l=>(zaQ fs w.gates ks n).getD l.toNat [])):=by
   unfold zfi
   rw [zeh]
   ·exact yS.mpr ⟨rl,zaP.mpr ch,rfl⟩
   ·intro c hc
    obtain ⟨r,hr,rfl⟩:=yS.mp hc
    exact zfX ((zaP.mp hr).codes cl) (lkr r (zaP.mp hr))
  have crl:=ch.codes cl
  have g1:=zcO crl.hi (by rw [yA];exact lkr rl ch)
  have g2:=zcO crl.lo (by rw [yA];exact lkr rl ch)
  have z:=zfU (key:=zbd ((row.length+n:Nat):Int)) fb (zdH _) hmem
  rw [zdQ g1 g2,zdG g1 g2,h1,h2] at z
  exact z
theorem zgT {cs:List Nat}(h:cs.length≤1):(zaY cs).length≤1:=by
 match cs,h with
 | [],_=>decide
 | [x],_=>
  unfold zaY
  by_cases h0:x=0
  ·subst h0;decide
  by_cases h1:x=1
  ·subst h1;decide
  by_cases h2:x=2
  ·subst h2;decide
  by_cases h3:x=3
  ·subst h3;decide
  rw [List.filter_eq_nil_iff.mpr]
  ·exact qN _
  ·intro y hy z
   rw [qU,yF] at z
   have:y=0∨y=1∨y=2∨y=3:=by simpa using hy
   omega
theorem zhE {o:Option Int}{cs:List Nat}(h:cs.length≤1):(zfn o cs).length≤1:=by
 cases o with
 | none=>exact h
 | some b=>exact zgT (by rw [yA];exact h)
theorem zjQ {cs:List Nat}(h:cs.length≤1):∀ rows:List (List Nat),(rows.flatMap fun r=>cs.map fun p=>r++ [p]).length≤rows.length
 | []=>yN _
 | r::rows=>by
  have:=zjQ h rows
  rw [ybb,yJ,yA,qP]
  omega
theorem zgs:∀ (legs acc:List (List Nat)),(∀ l∈legs,l.length≤1)→(zbj acc legs).length≤acc.length
 | [],acc,_=>yN _
 | l::ls,acc,h=>qX (zgs ls (acc.flatMap fun r=>l.map fun p=>r++ [p]) fun m hm=>h m (.tail _ hm)) (zjQ (h l (.head _)) acc)
theorem zgZ {fs:List Flt}{m:Nat}{w:zaA}{row:List Int}:∀ n,∀ cs∈zaQ fs w.gates (row.map some) n,cs.length≤1
 | 0=>fun cs hc=>by
  obtain ⟨i,h,e⟩:=vI.mp (show cs∈(row.map some).mapIdx _ from hc)
  rw [← e]
  refine zhE ?_
  rw [List.getElem_map]
  exact yN _
 | n+1=>fun cs hc=>by
  rw [zaQ] at hc
  have ih:=zgZ (fs:=fs) (m:=m) (w:=w) (row:=row) n
  rcases yP.mp hc with hc | hc
  ·exact ih cs hc
  ·rw [yF.mp hc]
   refine zhE ?_
   split
   ·refine zgT ?_
    rw [yA]
    refine zgs _ [[]] fun l hl=>?_
    obtain ⟨i,hi,e⟩:=vI.mp (show l∈List.mapIdx _ _ from hl)
    rw [← e]
    refine zhE ?_
    obtain ⟨l2,hl2,e2⟩:=yS.mp (jO hi)
    rw [← e2,yK]
    cases hz:(zaQ fs w.gates (row.map some) n)[l2.toNat]? with
    | none=>exact qN _
    | some c2=>exact ih c2 (yI hz)
   ·exact qN _
theorem zi9 {fs:List Flt}(fb:∀ f∈fs,f.worth=0∨f.worth=1){m:Nat}{w:zaA}{row:List Int}(wf:WF m w)(hl:(row.length:Int)=w.ins)(b:Bits row){i:Nat}(hi:i < row.length+w.gates.length):
  (zaQ fs w.gates (row.map some) w.gates.length).getD i []= [zbw ((zbc w.gates row w.gates.length).getD i 0) ((zaE fs w.gates row w.gates.length).getD i 0)]:=by
 have h1:=zgq fb wf hl (ks:=row.map some) (by rw [yA]) b (fun o ho v hv=>by obtain ⟨n,hn,rfl⟩:=yS.mp ho;cases hv;exact b _ hn) (fun i v h=>by rw [yE] at h;cases hz:row[i]? with | none=>rw [hz] at h;cases h | some n=>rw [hz] at h;cases h;rfl) w.gates.length (yN _) i hi
 have h2:((zaQ fs w.gates (row.map some) w.gates.length).getD i []).length≤1:=by
  rw [yK]
  cases hz:(zaQ fs w.gates (row.map some) w.gates.length)[i]? with
  | none=>exact qN _
  | some cs=>exact zgZ (m:=m) _ cs (yI hz)
 generalize (zaQ fs w.gates (row.map some) w.gates.length).getD i []=cs at h1 h2
 match cs,h2,h1 with
 | [x],_,h=>rw [yF.mp h]
noncomputable def zkc (w:zaA) (fs:List Flt) (ks:List (Option Int)):Bool:=w.outs.all fun o=>((zaQ fs w.gates ks w.gates.length).getD o.toNat []).all fun c=>decide (hiV c=loV c)
inductive Ppr where
 | same:Ppr
 | split:Int→Ppr→Ppr→Ppr
noncomputable def pprD:Ppr→Dat
 | .same=>.tuple [.str "same"]
 | .split i l h=>.tuple [.str "split",.int i,pprD l,pprD h]
noncomputable def dep:Ppr→Nat
 | .same=>0
 | .split _ l h=>max (dep l) (dep h)+1
theorem dep_l {i:Int}{l h:Ppr}{n:Nat}(z:dep (.split i l h) < n+1):dep l < n:=by
 have z':max (dep l) (dep h)+1 < n+1:=z
 omega
theorem dep_h {i:Int}{l h:Ppr}{n:Nat}(z:dep (.split i l h) < n+1):dep h < n:=by
 have z':max (dep l) (dep h)+1 < n+1:=z
 omega
noncomputable def zf5 (w:zaA) (fs:List Flt):List (Option Int)→Ppr→Bool
 | ks,.same=>zkc w fs ks
 | ks,.split i l h=>decide (0≤i∧i < w.ins∧ks.getD i.toNat none=none) && (zf5 w fs (ks.set i.toNat (some 0)) l && zf5 w fs (ks.set i.toNat (some 1)) h)
noncomputable def zjz (ks:List (Option Int)):Prop:=∀ o∈ks,∀ b,o=some b→b=0∨b=1
theorem zjz.set {ks:List (Option Int)}(h:zjz ks){b:Int}(hb:b=0∨b=1)(i:Nat):zjz (ks.set i (some b)):=fun o ho v hv=>by
 rcases List.mem_or_eq_of_mem_set ho with z | z
 ·exact h o z v hv
 ·rw [z] at hv
  cases hv
  exact hb
theorem zpz {a b:Int}(ha:a=0∨a=1)(hb:b=0∨b=1):hiV (zbw a b)=loV (zbw a b)↔a=b:=by
 rw [zdQ ha hb,zdG ha hb]
noncomputable def zev:List Int→Ppr
 | []=>.same
 | i::is=>.split i (zev is) (zev is)
theorem zik {fs:List Flt}(fb:∀ f∈fs,f.worth=0∨f.worth=1){m:Nat}{w:zaA}(wf:WF m w)(never:∀ row:List Int,(row.length:Int)=w.ins→Bits row→zc2 w (zaE fs w.gates row w.gates.length)=zc2 w (zbc w.gates row w.gates.length)):
  ∀ (is:List Int) (ks:List (Option Int)),(ks.length:Int)=w.ins→zjz ks→(∀ i∈is,0≤i∧i < w.ins∧ks.getD i.toNat none=none)→is.Nodup→(∀ i:Nat,i < ks.length→ks.getD i none=none→(i:Int)∈is)→zf5 w fs ks (zev is)=true
 | [],ks,lk,kb,_,_,al=>by
  have e:ks=(ks.map fun o=>o.getD 0).map some:=by
   refine xH fun i=>?_
   rw [yE,yE]
   cases hz:ks[i]? with
   | none=>rfl
   | some o=>
    cases o with
    | some v=>rfl
    | none=>
     have:=al i (yG.mp hz).1 (by rw [yK,hz];rfl)
     cases this
  have br:Bits (ks.map fun o=>o.getD 0):=fun v hv=>by
   obtain ⟨o,ho,rfl⟩:=yS.mp hv
   cases o with
   | none=>exact .inl rfl
   | some v=>exact kb _ ho v rfl
  have lr:(((ks.map fun o=>o.getD 0).length:Nat):Int)=w.ins:=by rw [yA];exact lk
  generalize (ks.map fun o=>o.getD 0)=row at e br lr
  subst e
  have nv:=never row lr br
  refine yX.mpr fun o ho=>yX.mpr fun c hc=>?_
  obtain ⟨o0,o1⟩:=wf.outs o ho
  have hi:o.toNat < row.length+w.gates.length:=by omega
  rw [zi9 fb wf lr br hi] at hc
  rw [yF.mp hc]
  have lV:=zcw w.gates row w.gates.length
  have lS:=zcu fs w.gates row w.gates.length
  have bV:=zbu (zee wf lr br w.gates.length (yN _)) (i:=o.toNat) (by omega)
  have bS:=zbu (zdf fb wf lr br w.gates.length (yN _)) (i:=o.toNat) (by omega)
  refine decide_eq_true ((zpz bV bS).mpr ?_)
  have:=(List.map_inj_left.mp nv) o ho
  exact this.symm
 | i::is,ks,lk,kb,ok,nd,al=>by
  obtain ⟨i0,i1,ik⟩:=ok i (.head _)
  obtain ⟨ni,nd'⟩:=jV.mp nd
  have rest:∀ b:Int,b=0∨b=1→zf5 w fs (ks.set i.toNat (some b)) (zev is)=true:=fun b hb=>by
   refine zik fb wf never is _ (by rw [ybG];exact lk) (kb.set hb _) (fun j hj=>?_) nd' (fun j hj hn=>?_)
   ·obtain ⟨j0,j1,jk⟩:=ok j (.tail _ hj)
    have ne:i.toNat≠j.toNat:=fun e=>ni (by rw [show i=j by omega];exact hj)
    refine ⟨j0,j1,?_⟩
    rw [yK,xX ne,← yK]
    exact jk
   ·rw [ybG] at hj
    by_cases e:i.toNat=j
    ·subst e
     rw [yK,wF hj] at hn
     cases hn
    ·rw [yK,xX e,← yK] at hn
     rcases yO.mp (al j hj hn) with z | z
     ·omega
     ·exact z
  show (decide (0≤i∧i < w.ins∧ks.getD i.toNat none=none) && (zf5 w fs (ks.set i.toNat (some 0)) (zev is) && zf5 w fs (ks.set i.toNat (some 1)) (zev is)))=true
  rw [rest 0 (.inl rfl),rest 1 (.inr rfl),decide_eq_true ⟨i0,i1,ik⟩]
  rfl
theorem znr {K:PySem.W.Frag}{H:Hp}{v:V}(h:Rep K H v (pprD .same)):∃ a,v= .ref a∧SqT K H a [.str "same"]:=by
 have h':Rep K H v (.tuple [.str "same"]):=h
 cases h' with
 | tup h r=>
  cases r with
  | cons a b=>
   cases a
   cases b
   exact ⟨_,rfl,h⟩
theorem zli {K:PySem.W.Frag}{H:Hp}{v:V}{i:Int}{l h:Ppr}(z:Rep K H v (pprD (.split i l h))):∃ a lv hv,v= .ref a∧SqT K H a [.str "split",.int i,lv,hv]∧Rep K H lv (pprD l)∧Rep K H hv (pprD h):=by
 have z':Rep K H v (.tuple [.str "split",.int i,pprD l,pprD h]):=z
 cases z' with
 | tup h r=>
  cases r with
  | cons a b=>
   cases a
   cases b with
   | cons a b=>
    cases a
    cases b with
    | cons c b=>
     cases b with
     | cons d b=>
      cases b
      exact ⟨_,_,_,rfl,h,c,d⟩
theorem ziF (xs:List V){k:Int}(h: 0≤k)(hk:k≤xs.length):cutV xs none (some k)=xs.take k.toNat:=by
 have e1:HT.sIx xs.length 0 none=0:=rfl
 have e2:HT.sIx xs.length xs.length (some k)=k.toNat:=by
  simp only [HT.sIx]
  rw [if_neg (by omega)]
  omega
 unfold cutV
 rw [e1,e2,List.drop_zero,Nat.sub_zero]
theorem zh6 (xs:List V){k:Int}(h: 0≤k)(hk:k≤xs.length):cutV xs (some k) none=xs.drop k.toNat:=by
 have e1:HT.sIx xs.length 0 (some k)=k.toNat:=by
  simp only [HT.sIx]
  rw [if_neg (by omega)]
  omega
 have e2:HT.sIx xs.length xs.length none=xs.length:=rfl
 unfold cutV
 rw [e1,e2]
 exact jR (by rw [jW];exact yN _)
theorem zjN (ks:List (Option Int)){i:Int}(h: 0≤i)(hi:i < ks.length)(b:Int):(ks.map optV).take i.toNat++ [V.int b]++(ks.map optV).drop (i+1).toNat=(ks.set i.toNat (some b)).map optV:=by
 rw [show (i+1).toNat=i.toNat+1 by omega,List.set_eq_take_append_cons_drop,if_pos (by omega),yM,qW,wB,wT,jH]
 rfl
theorem ziO:∀ (r:List Int),Bits r→r∈zb9 r.length
 | [],_=>yF.mpr rfl
 | x::r,b=>by
  have ih:=ziO r fun n hn=>b n (.tail _ hn)
  rcases b x (.head _) with rfl | rfl
  ·exact yP.mpr (.inl (yS.mpr ⟨r,ih,rfl⟩))
  ·exact yP.mpr (.inr (yS.mpr ⟨r,ih,rfl⟩))
theorem zl0 {m:Nat}{w:zaA}(wf:WF m w){fs:List Flt}:zey w fs []=none↔∀ row:List Int,(row.length:Int)=w.ins→Bits row→zc2 w (zaE fs w.gates row w.gates.length)=zc2 w (zbc w.gates row w.gates.length):=by
 have i1:=wf.i1
 constructor
 ·intro h row hl b
  have hm:=ziO row b
  rw [show row.length=w.ins.toNat by omega] at hm
  have:=vM.mp h row hm
  rw [← zc3]
  by_cases e:zc2 w (zaE fs w.gates row w.gates.length)=zc2 w (zaE [] w.gates row w.gates.length)
  ·exact e
  ·exact absurd (decide_eq_true e) this
 ·intro h
  refine zjr fun row hl b=>?_
  rw [zc3]
  exact h row (by omega) b
theorem zjo (n i:Nat):(qH n (none:Option Int)).getD i none=none:=by
 rw [yK,yak]
 split <;> rfl
noncomputable def sp_aa:Sp:=fun vs H Q _=>∃ (v:V) (cs:List Nat),vs= [v]∧PL H v cs∧cs.length≤16∧∀ H',Same H H'→Q (.bl (cs.all fun c=>decide (hiV c=loV c))) H'
noncomputable def sp_oal (K:PySem.W.Frag):Sp:=fun vs H Q _=>∃ (x:V) (d p:Addr) (w:zaA) (fs:List Flt) (ks:List (Option Int)),vs= [x,.ref d,.ref p]∧Rep K H x (zbr w)∧WF 20 w∧H d=some (.dT (tabV fs))∧(∀ f∈fs,f.worth=0∨f.worth=1)∧H p=some (.lst (ks.map optV))∧(ks.length:Int)=w.ins∧zjz ks∧
 ∀ H',Same H H'→Q (.bl (zkc w fs ks)) H'
noncomputable def zjT (K:PySem.W.Frag) (n:Nat):Sp:=fun vs H Q _=>∃ (x v:V) (d p:Addr) (w:zaA) (fs:List Flt) (ks:List (Option Int)) (pp:Ppr),vs= [x,.ref d,.ref p,v]∧Rep K H x (zbr w)∧WF 20 w∧H d=some (.dT (tabV fs))∧(∀ f∈fs,f.worth=0∨f.worth=1)∧H p=some (.lst (ks.map optV))∧(ks.length:Int)=w.ins∧zjz ks∧Rep K H v (pprD pp)∧dep pp < n∧
 ∀ H',Same H H'→Q (.bl (zf5 w fs ks pp)) H'
noncomputable def pad (n:Nat) (bs:List Int):List (Option Int):=bs.map some++qH n none
theorem zmD (n:Nat)(bs:List Int):(pad n bs).length=bs.length+n:=by
 unfold pad
 rw [yJ,yA,xQ]
theorem zkk {n:Nat}{bs:List Int}(b:Bits bs):zjz (pad n bs):=fun o ho v hv=>by
 unfold pad at ho
 rcases yP.mp ho with h | h
 ·obtain ⟨z,hz,rfl⟩:=yS.mp h
  cases hv
  exact b _ hz
 ·rw [(yb2.mp h).2] at hv
  cases hv
theorem zh2 {bs:List Int}{b:Int}(h:Bits bs)(hb:b=0∨b=1):Bits (bs++ [b]):=fun z hz=>by
 rcases yP.mp hz with h' | h'
 ·exact h z h'
 ·rw [yF.mp h']
  exact hb
noncomputable def zdo (w:zaA) (fs:List Flt):Nat→List Int→Ppr
 | 0,_=>.same
 | n+1,bs=>if zkc w fs (pad (n+1) bs)=true then .same else .split bs.length (zdo w fs n (bs++ [0])) (zdo w fs n (bs++ [1]))
theorem zji {fs:List Flt}(fb:∀ f∈fs,f.worth=0∨f.worth=1){m:Nat}{w:zaA}(wf:WF m w)(nv:zey w fs []=none){bs:List Int}(b:Bits bs)(hl:(bs.length:Int)=w.ins):zkc w fs (pad 0 bs)=true:=by
 refine zik fb wf ((zl0 wf).mp nv) [] (pad 0 bs) (by rw [zmD];exact hl) (zkk b) (fun _ z=>nomatch z) xG (fun i hi hn=>?_)
 unfold pad at hn hi
 rw [List.replicate_zero,vQ] at hn hi
 rw [yA] at hi
 rw [yK,yE,yC hi] at hn
 cases hn
theorem zjL (bs:List Int):bs.map V.int=(bs.map some).map optV:=by
 rw [wM]
 rfl
theorem znZ (n:Nat):(qH n [V.non]).flatten=(qH n (none:Option Int)).map optV:=by
 rw [yb3]
 induction n with
 | zero=>rfl
 | succ n ih=>rw [xE,kN,ih,xE];rfl
noncomputable def zkt (K:PySem.W.Frag) (m:Nat):Sp:=fun vs H Q _=>∃ (x:V) (d p:Addr) (w:zaA) (fs:List Flt) (bs:List Int) (n:Nat),vs= [x,.ref d,.ref p]∧Rep K H x (zbr w)∧WF 20 w∧H d=some (.dT (tabV fs))∧(∀ f∈fs,f.worth=0∨f.worth=1)∧zey w fs []=none∧H p=some (.lst (bs.map V.int))∧Bits bs∧((bs.length+n:Nat):Int)=w.ins∧n < m∧
 ∀ (v:V) (H':Hp),Same H H'→Rep K H' v (pprD (zdo w fs n bs))→Q v H'
noncomputable def Rz (H:Hp) (E:XK):Prop:=∀ (H':Hp) (x:Addr),Same H H'→H' x=none→E (.ref x) (some x) H'
theorem Rz.mono {H H1:Hp}{E:XK}(h:Rz H E)(s:Same H H1):Rz H1 E:=fun H' x k n=>h H' x (s.trans k) n
structure Fs4 (K:PySem.W.Frag) (H:Hp) (y:V) (fs:List Flt):Prop where
 rep:Rep K H y (.list (fs.map fltD))
 form:∀ f∈fs,zes f
 few:fs.length≤1000
theorem Fs4.mono {K:PySem.W.Frag}{H H':Hp}{y:V}{fs:List Flt}(h:Fs4 K H y fs)(s:Same H H'):Fs4 K H' y fs:=⟨h.rep.mono s,h.form,h.few⟩
noncomputable def All4 (w:zaA) (fs:List Flt):Prop:=(∀ f∈fs,zd7 w f)∧zcq fs
noncomputable def sp_sp4 (K:PySem.W.Frag):Sp:=fun vs H Q E=>∃ (x y:V) (w:zaA) (fs:List Flt),vs= [x,y]∧Rep K H x (zbr w)∧WF 20 w∧Rep K H y (.list (fs.map fltD))∧(∀ f∈fs,zes f)∧fs.length≤1000∧(¬All4 w fs→Rz H E)∧
 ((∀ f∈fs,zd7 w f)→zcq fs→∀ (d:Addr) (H':Hp),Same H H'→H d=none→H' d=some (.dT (tabV fs))→Q (.ref d) H')
noncomputable def zn7 (K:PySem.W.Frag):Sp:=fun vs H Q E=>∃ (x y:V) (w:zaA) (fs:List Flt),vs= [x,y]∧Rep K H x (zbr w)∧WF 20 w∧Fs4 K H y fs∧(¬All4 w fs→Rz H E)∧(All4 w fs→∀ (v:V) (H':Hp),Same H H'→Q v H')
noncomputable def sp_pa4 (K:PySem.W.Frag):Sp:=fun vs H Q E=>∃ (x y:V) (p:Addr) (w:zaA) (fs:List Flt),vs= [x,y,.ref p,.int 0]∧Rep K H x (zbr w)∧WF 20 w∧Fs4 K H y fs∧H p=some (.lst ((qH w.ins.toNat (none:Option Int)).map optV))∧(¬All4 w fs→Rz H E)∧(All4 w fs→∀ (v:V) (H':Hp),Same H H'→Q v H')
noncomputable def sp_ps4 (K:PySem.W.Frag):Sp:=fun vs H Q E=>∃ (x y v:V) (w:zaA) (fs:List Flt),vs= [x,y,v]∧Rep K H x (zbr w)∧WF 20 w∧Fs4 K H y fs∧Rep K H v (pprD .same)∧(¬All4 w fs→Rz H E)∧(All4 w fs→∀ (v:V) (H':Hp),Same H H'→Q v H')
noncomputable def sp_pt4 (K:PySem.W.Frag):Sp:=fun vs H Q E=>∃ (x y z:V) (w:zaA) (fs gs:List Flt),vs= [x,y,z]∧Rep K H x (zbr w)∧WF 20 w∧Fs4 K H y fs∧Fs4 K H z gs∧(¬(All4 w fs∧All4 w gs)→Rz H E)∧(All4 w fs→All4 w gs→∀ (v:V) (H':Hp),Same H H'→Q v H')
noncomputable def sp_as4 (K:PySem.W.Frag):Sp:=fun vs H Q E=>∃ (x y:V) (way:Nat) (w:zaA) (fs:List Flt),vs= [x,y,.int way]∧Rep K H x (zbr w)∧WF 20 w∧Fs4 K H y fs∧(¬All4 w fs→Rz H E)∧(All4 w fs→∀ (v:V) (H':Hp),Same H H'→Q v H')
noncomputable def sp_rf4 (K:PySem.W.Frag):Sp:=fun vs H Q _=>∃ (x y:V) (way:Nat) (w:zaA) (fs:List Flt),vs= [x,y,.int way]∧Rep K H x (zbr w)∧WF 20 w∧Fs4 K H y fs∧
 ∀ (r:Addr) (bs:List Bool) (H':Hp),Same H H'→H' r=some (.lst (bs.map V.bl))→(¬All4 w fs→bs= [true,true,false])→(All4 w fs→bs= [])→Q (.ref r) H'
theorem twice4 {fs:List Flt}{i:Nat}{f:Flt}{c:Int}(hz:fs[i]? =some f)(el:look (fs.take i) f.place=some c)(ap:zcq fs):False:=by
 have m:=zkh el
 unfold zcq at ap
 rw [← wN i fs,yM] at ap
 have hd:f∈fs.drop i:=yI (i:=0) (by rw [ybY,Nat.add_zero];exact hz)
 exact (wS.mp ap).2.2 _ (yS.mpr ⟨_,m,rfl⟩) _ (yS.mpr ⟨f,hd,rfl⟩) rfl
theorem zh5 (n:Nat):(qH n [V.non]).flatten=(qH n (none:Option Int)).map optV:=by
 rw [yb3]
 induction n with
 | zero=>rfl
 | succ n ih=>rw [xE,kN,ih,xE];rfl
theorem zkr (n:Nat):∀ o∈qH n (none:Option Int),∀ b,o=some b→b=0∨b=1:=by
 intro o ho b hb
 rw [(yb2.mp ho).2] at hb
 cases hb
noncomputable def sp_bd4 (K:PySem.W.Frag):Sp:=fun vs H Q _=>∃ (x y:V) (p:Addr) (far:Int) (w:zaA) (fs:List Flt) (row:List Int),vs= [x,y,.ref p,.int far]∧Rep K H x (zbr w)∧WF 20 w∧ze7 K w 8 H y fs∧SqL K H p (row.map V.int)∧row.length=5∧(∀ z∈row,0≤z)∧0≤far∧far < 10 ^ 20∧
 ∀ (r:Addr) (bs:List Flt) (H':Hp),Same H H'→Rep K H' (.ref r) (.list (bs.map fltD))→(∀ f∈bs,zes f)→bs.length≤9→Q (.ref r) H'
noncomputable def sp_gd4 (K:PySem.W.Frag):Sp:=fun vs H Q _=>∃ (x y:V) (w:zaA) (fs:List Flt),vs= [x,y]∧Rep K H x (zbr w)∧WF 20 w∧Rep K H y (.list (fs.map fltD))∧(∀ f∈fs,zes f)∧fs.length≤9∧∀ (b:Bool) (H':Hp),Same H H'→(b=true↔All4 w fs)→Q (.bl b) H'
theorem at4 {H:Hp}{a:Addr}{o:HO}(_:H a=none):(upd H a o) a=some o:=zab
theorem le4 {α :Type}[DecidableEq α]:∀ {xs ys:List α},xs.Nodup→(∀ x∈xs,x∈ys)→xs.length≤ys.length
 | [],_,_,_=>qN _
 | a::t,ys,nd,h=>by
  obtain ⟨n1,n2⟩:=jV.mp nd
  have m:=h a (.head _)
  have l:=le4 (xs:=t) (ys:=ys.erase a) n2 fun x hx=>(List.mem_erase_of_ne (fun e=>n1 (by rw [← e];exact hx))).mpr (h x (.tail _ hx))
  rw [List.length_erase_of_mem m] at l
  have:=List.length_pos_of_mem m
  rw [qP]
  omega
theorem nd4 {α :Type}[DecidableEq α]:∀ {ys xs:List α},xs.Nodup→(∀ x∈xs,x∈ys)→ys.length≤xs.length→ys.Nodup
 | [],_,_,_,_=>xG
 | a::t,xs,nd,h,l=>by
  rw [qP] at l
  by_cases c:a∈t
  ·have:=le4 nd fun x hx=>by
    rcases yO.mp (h x hx) with rfl | e
    ·exact c
    ·exact e
   omega
  ·refine jV.mpr ⟨c,nd4 (xs:=xs.erase a) (nd.erase a) (fun x hx=>?_) ?_⟩
   ·obtain ⟨e1,e2⟩:=(ycv.mem_erase_iff nd).mp hx
    rcases yO.mp (h x e2) with e | e
    ·exact absurd e e1
    ·exact e
   ·rw [List.length_erase]
    split <;> omega
theorem joinI4 {A:Prop}{P:Int→Prop}(h:(∀ l,P l)→A)(r:∀ l,P l):A:=h r
theorem joinV4 {A:Prop}{C P:Addr→Flt→Hp→Prop}(h:(∀ a f H,C a f H→P a f H)→A)(r:∀ a f H,C a f H→P a f H):A:=h r
theorem zgV {K:PySem.W.Frag}{H:Hp}:∀ {vs:List V} {ds:List Dat},Reps K H vs ds→∀ n,Reps K H (vs.take n) (ds.take n)
 | _,_,.nil,n=>by simp;exact .nil
 | _,_,.cons _ _,0=>.nil
 | _,_,.cons h r,n+1=>.cons h (zgV r n)
theorem zha {K:PySem.W.Frag}{H:Hp}:∀ {vs:List V} {ds:List Dat},Reps K H vs ds→∀ n,Reps K H (vs.drop n) (ds.drop n)
 | _,_,.nil,n=>by simp;exact .nil
 | _,_,.cons h r,0=>.cons h r
 | _,_,.cons _ r,n+1=>zha r n
theorem zn5 {K:PySem.W.Frag}{H:Hp}{vs:List V}{fs:List Flt}(h:Reps K H vs (fs.map fltD)){c:Int}(c0: 0≤c)(c1:c < fs.length):∃ a f,atI vs c=some (.ref a)∧Rep K H (.ref a) (fltD f)∧f∈fs:=by
 have l:vs.length=fs.length:=by rw [h.length,yA]
 obtain ⟨v,hv⟩:∃ v,vs[c.toNat]? =some v:=⟨_,yC (by omega)⟩
 obtain ⟨dd,hdd,rv⟩:=h.get hv
 rw [yE] at hdd
 cases hz:fs[c.toNat]? with
 | none=>rw [hz] at hdd;cases hdd
 | some f=>
  rw [hz] at hdd
  cases hdd
  obtain ⟨a,rfl,_⟩:=zgm rv
  exact ⟨a,f,by rw [show c=(c.toNat:Int) by omega];exact zcf hv,rv,yI hz⟩
theorem joinF4 {A:Prop}{C P:Addr→List Flt→Hp→Prop}(h:(∀ a f H,C a f H→P a f H)→A)(r:∀ a f H,C a f H→P a f H):A:=h r
theorem joinB4 {A:Prop}{C P:Addr→List Bool→Hp→Prop}(h:(∀ a f H,C a f H→P a f H)→A)(r:∀ a f H,C a f H→P a f H):A:=h r
section
variable {P:Program} {w:World} {K:PySem.W.Frag} {mg:Str→Option Value} {base:Heap} {t:Adr}
theorem zbC:zav ["kind","worths","ones","told","worth"] ["kind","worths","ones"] (zaj zb8):=⟨rfl,rfl,rfl,by decide+kernel,rfl,by decide+kernel,by decide+kernel⟩
theorem zec (T:Txt K mg t):FnOk P w K mg base CX0 1 t.f_gate_worth t.fd_gate_worth ["kind","worths","ones"] (sp_gwI K):=by
 refine T.d_gate_worth.F.okB zbC (fun vs H Q E h=>?_) (fun cdv A outer s H vs Q E hr h=>?_)
 ·obtain ⟨x,p,ns,o,rfl,_⟩:=h
  rfl
 obtain ⟨x,p,ns,o,rfl,hS,lk,q⟩:=h
 refine ⟨_,(zaf (zaT (zay zdg (bpv 0) zar (zaX _)) (zag (zap (zah zkm (bpv 2) (zan zaC (bpv 1) zad (fun _ _=>rfl))))) zaB)
  (zaf (zaT (zay zdg (bpv 0) zar (zaX _)) (zag (zap (zah zo2 (zah zko (zan zaC (bpv 1) zad (fun _ _=>rfl)) (zan zaC (bpv 1) zad (fun _ _=>rfl))) (zah zko (zah zkm (bpv 2) (zan zaC (bpv 1) zad (fun _ _=>rfl))) (zan zaC (bpv 1) zad (fun _ _=>rfl)))))) zaB)
  (zaf (zai (k:=3) zbC.nd rfl (Or.inl rfl) (zi7 (zay zin (bpv 0) (zax (zaa zar (zaa zar (zac)))) rfl) (bpv 2) zad))
  (zaf (za4 qV rfl (zaJ (bpv 1)) (zam (k:=4) zbC.nd rfl (Or.inl rfl)) (zag (zaT (zay zdg (bpv 0) zar (zaX _)) (zag (zai (k:=3) zbC.nd rfl (Or.inl rfl) (zah zko (bpv 3) (bpv 4)))) (zag (zaT (zay zdg (bpv 0) zar (zaX _)) (zag (zai (k:=3) zbC.nd rfl (Or.inl rfl) (zah zo2 (bpv 3) (bpv 4)))) (zag (zai (k:=3) zbC.nd rfl (Or.inl rfl) (zah zkm (bpv 3) (bpv 4)))))))))
  (zag (zap (bpv 3))))))),?_⟩
 by_cases hn:x="not"
 ·subst hn
  have l1:=znj lk
  refine ⟨_,rfl,rfl,_,rfl,ifY rfl ⟨_,rfl,_,rfl,p,_,0,_,rfl,rfl,hS,zce (ybN 0) (by omega),_,_,rfl,rfl,?_⟩⟩
  rw [gi_not] at q
  exact q H (.refl H)
 refine ⟨_,rfl,rfl,_,rfl,ifN hn ?_⟩
 by_cases hc:x="choose"
 ·subst hc
  have l1:=zjq lk
  refine ⟨_,rfl,rfl,_,rfl,ifY rfl ?_⟩
  rw [zmd] at q
  exact ⟨_,rfl,p,_,0,_,rfl,rfl,hS,zce (ybN 0) (by omega),_,rfl,p,_,1,_,rfl,rfl,hS,zce (by decide) (by omega),_,_,rfl,rfl,_,rfl,_,rfl,p,_,0,_,rfl,rfl,hS,zce (ybN 0) (by omega),_,_,rfl,rfl,
   _,rfl,p,_,2,_,rfl,rfl,hS,zce (by decide) (by omega),_,_,rfl,rfl,_,_,rfl,rfl,q H (.refl H)⟩
 refine ⟨_,rfl,rfl,_,rfl,ifN hc ?_⟩
 rw [zpD hn hc] at q
 refine ⟨_,rfl,(by show 2≤yL;decide),fun T1 h1=>⟨T1,_,rfl,.inr (.of zab),rfl,rfl,?_⟩⟩
 have s1:=zae h1 (.tup [.str "and",.str "one"])
 refine ⟨_,rfl,?_⟩
 have hin:(if false=true then !inV (V.str x) [.str "and",.str "one"] else inV (V.str x) [.str "and",.str "one"])=decide (x="and"∨x="one"):=in_two x "and" "one"
 rw [hin]
 generalize hf:(fun a b:Int=>if x="and" then qT a b else if x="or" then jE a b else qS a b)=f at q
 have hf1:x="and"→∀ a b,f a b=qT a b:=fun e a b=>by rw [← hf];exact if_pos e
 have hf2:x≠"and"→x="or"→∀ a b,f a b=jE a b:=fun e e2 a b=>by rw [← hf];show (if x="and" then _ else _)=_;rw [if_neg e,if_pos e2]
 have hf3:x≠"and"→x≠"or"→∀ a b,f a b=qS a b:=fun e e2 a b=>by rw [← hf];show (if x="and" then _ else _)=_;rw [if_neg e,if_neg e2]
 refine ite2 (fun c=>?_) (fun c=>?_)
 ·rw [if_pos (of_decide_eq_true c)] at q
  refine ⟨_,rfl,?_⟩
  refine ⟨_,rfl,p,rfl,⟨_,s1.seq hS⟩,zcn (K:=K) (a:=p) (xs:=ns.map V.int)
   (fun i σ H3=>∃ o4:Option V,σ = [some (.str x),some (.ref p),some (.int o),some (.int ((ns.take i).foldl f o)),o4]∧Same H H3) ⟨_,rfl,s1⟩ (fun i σ H3 _ ⟨_,_,s3⟩=>s3.seq hS) ?_ ?_⟩
  ·rintro i y σ H3 hy ⟨o4,rfl,s3⟩
   rw [yE] at hy
   cases hz:ns[i]? with
   | none=>rw [hz] at hy;cases hy
   | some n=>
    rw [hz] at hy
    cases hy
    have ef:(ns.take (i+1)).foldl f o=f ((ns.take i).foldl f o) n:=by rw [yV,hz];show (ns.take i++ [n]).foldl f o=_;rw [wR];rfl
    rw [ef]
    refine ⟨_,rfl,rfl,_,rfl,?_⟩
    by_cases e1:x="and"
    ·rw [hf1 e1]
     exact ifY e1 ⟨_,rfl,_,rfl,_,_,rfl,rfl,_,rfl,s3⟩
    ·refine ifN e1 ⟨_,rfl,rfl,_,rfl,?_⟩
     by_cases e2:x="or"
     ·rw [hf2 e1 e2]
      exact ifY e2 ⟨_,rfl,_,rfl,_,_,rfl,rfl,_,rfl,s3⟩
     ·rw [hf3 e1 e2]
      exact ifN e2 ⟨_,rfl,_,rfl,_,_,rfl,rfl,_,rfl,s3⟩
  ·rintro σ H3 ⟨o4,rfl,s3⟩
   have et:ns.take (ns.map V.int).length=ns:=by rw [yA,qB]
   rw [et]
   exact ⟨_,rfl,q H3 s3⟩
 ·rw [if_neg (fun z=>c (decide_eq_true z))] at q
  refine ⟨_,rfl,p,rfl,⟨_,s1.seq hS⟩,zcn (K:=K) (a:=p) (xs:=ns.map V.int)
   (fun i σ H3=>∃ o4:Option V,σ = [some (.str x),some (.ref p),some (.int o),some (.int ((ns.take i).foldl f 0)),o4]∧Same H H3) ⟨_,rfl,s1⟩ (fun i σ H3 _ ⟨_,_,s3⟩=>s3.seq hS) ?_ ?_⟩
  ·rintro i y σ H3 hy ⟨o4,rfl,s3⟩
   rw [yE] at hy
   cases hz:ns[i]? with
   | none=>rw [hz] at hy;cases hy
   | some n=>
    rw [hz] at hy
    cases hy
    have ef:(ns.take (i+1)).foldl f 0=f ((ns.take i).foldl f 0) n:=by rw [yV,hz];show (ns.take i++ [n]).foldl f 0=_;rw [wR];rfl
    rw [ef]
    refine ⟨_,rfl,rfl,_,rfl,?_⟩
    by_cases e1:x="and"
    ·rw [hf1 e1]
     exact ifY e1 ⟨_,rfl,_,rfl,_,_,rfl,rfl,_,rfl,s3⟩
    ·refine ifN e1 ⟨_,rfl,rfl,_,rfl,?_⟩
     by_cases e2:x="or"
     ·rw [hf2 e1 e2]
      exact ifY e2 ⟨_,rfl,_,rfl,_,_,rfl,rfl,_,rfl,s3⟩
     ·rw [hf3 e1 e2]
      exact ifN e2 ⟨_,rfl,_,rfl,_,_,rfl,rfl,_,rfl,s3⟩
  ·rintro σ H3 ⟨o4,rfl,s3⟩
   have et:ns.take (ns.map V.int).length=ns:=by rw [yA,qB]
   rw [et]
   exact ⟨_,rfl,q H3 s3⟩
theorem zeu (T:Txt K mg t):FnOk P w K mg base CX0 1 t.f_gate_worth t.fd_gate_worth ["kind","worths","ones"] (sp_gw K):=(zec T).imp fun vs H Q E ⟨x,p,ns,e,hS,b,lk,q⟩=>⟨x,p,ns,1,e,hS,lk,by rw [zhT b lk];exact q⟩
theorem zcN:zav ["works","rows","place"] ["works"] (zaj zdm):=⟨rfl,rfl,rfl,by decide+kernel,rfl,by decide+kernel,by decide+kernel⟩
theorem zij (T:Txt K mg t):FnOk P w K mg base CX0 1 t.f_every_row t.fd_every_row ["works"] (sp_er K):=by
 refine T.d_every_row.F.okB zcN (fun vs H Q E h=>?_) (fun cdv A outer s H vs Q E hr h=>?_)
 ·obtain ⟨a,ga,oa,i,rfl,_⟩:=h
  rfl
 obtain ⟨a,ga,oa,i,rfl,ha,i0,i6,q⟩:=h
 refine ⟨_,(zaf (zai (k:=1) zcN.nd rfl (Or.inl rfl) (zat (zaa (zat zac) (zac))))
  (zaf (za4 qV rfl (zaU rfl T.z_range (zaa (zan zaM (bpv 0) zad (fun _ _=>rfl)) (zac))) (zam (k:=2) zcN.nd rfl (Or.inl rfl)) (zag (zai (k:=1) zcN.nd rfl (Or.inl rfl) (zah zca (zaO rfl (N:=["row"]) (n:=1) (cap:=[]) (zbt rfl rfl) (zaJ (bpv 1)) (zaL (by decide)) (fun _ _ _ _=>(zam (k:=0) (show (["row"]:List Str).Nodup by decide+kernel) rfl (Or.inl rfl))) (fun _ _ _ _=>zaI) (fun _ _ _ _=>(zah zca (zat (zaa zad (zac))) (bpv 0)))) (zaO rfl (N:=["row"]) (n:=1) (cap:=[]) (zbt rfl rfl) (zaJ (bpv 1)) (zaL (by decide)) (fun _ _ _ _=>(zam (k:=0) (show (["row"]:List Str).Nodup by decide+kernel) rfl (Or.inl rfl))) (fun _ _ _ _=>zaI) (fun _ _ _ _=>(zah zca (zat (zaa zad (zac))) (bpv 0))))))))
  (zag (zap (bpv 1))))),?_⟩
 refine ⟨(by show 0≤yL;decide),fun e0 he0=>⟨(by show 1≤yL;decide),fun R0 hR0=>?_⟩⟩
 have s0:Same H (upd H e0 (.lst [])):=zae he0 _
 have start:Rows H R0 [e0] (zb9 0) (upd (upd H e0 (.lst [])) R0 (.lst [.ref e0])):=by
  have ne:e0≠R0:=zao zab hR0
  refine ⟨s0.upd hR0 _,s0.free hR0,zab,.cons (by rw [zak ne,zab];rfl) .nil,jV.mpr ⟨(fun z=>nomatch z),xG⟩,fun z hz=>?_⟩
  rw [yF.mp hz]
  exact ⟨he0,ne⟩
 refine ⟨_,rfl,a,_,_,_,rfl,rfl,start.same.seqT ha,rfl,_,rfl,by omega,by omega,zbR (fun j σ H3=>∃ (R:Addr) (qs:List Addr) (o2:Option V),σ = [some (.ref a),some (.ref R),o2]∧Rows H R qs (zb9 j) H3) ⟨_,_,_,rfl,start⟩ ?_ ?_⟩
 ·rintro i σ H3 hi ⟨R,qs,o2,rfl,rw3⟩
  have few:(zb9 i).length≤64:=znJ (by omega)
  have lq:=rw3.rows.len
  have comp:∀ (c:Int) (Ha:Hp) (D:Addr) (j:Nat) (x:V) (H4:Hp),Same H3 Ha→(qs.map V.ref)[j]? =some x→(∃ ps,Rows Ha D ps (((zb9 i).take j).map (c:: ·)) H4)→∃ (q:Addr) (row:List Int) (ps:List Addr),x= .ref q∧H4 q=some (.lst (row.map V.int))∧row.length=i∧Rows Ha D ps (((zb9 i).take j).map (c:: ·)) H4∧ps.length≤64∧(∀ (T r':Addr) (vs:List V),H4 T=none→(upd H4 T (.lst [.int c])) r'=none→vs= .int c::row.map V.int→Rows Ha D (ps++ [r']) (((zb9 i).take (j+1)).map (c:: ·)) (upd (upd (upd H4 T (.lst [.int c])) r' (.lst vs)) D (.lst (ps.map V.ref++ [.ref r'])))):=by
   rintro c Ha D j x H4 sa hx ⟨ps,rw4⟩
   rw [yE] at hx
   cases hz:qs[j]? with
   | none=>rw [hz] at hx;cases hx
   | some q=>
    rw [hz] at hx
    cases hx
    obtain ⟨row,hrow,hq⟩:=rw3.rows.get hz
    have lp:=rw4.rows.len
    refine ⟨q,row,ps,rfl,rw4.same _ _ (sa _ _ hq),(zeQ i row (yI hrow)).1,rw4,?_,fun T r' vs hT hr' e=>?_⟩
    ·rw [lp,yA,yR]
     omega
    ·rw [zhK _ hrow]
     exact rw4.push hT hr' e
  refine ⟨_,rfl,R,rfl,⟨_,rw3.sq⟩,fun D hD=>za0 (K:=K) (a:=R) (xs:=qs.map V.ref) (fun j H4=>∃ ps,Rows H3 D ps (((zb9 i).take j).map (0:: ·)) H4) ⟨[],Rows.start (Same.refl _) hD⟩ (fun j H4 _ ⟨ps,z⟩=>z.same.seq rw3.sq) ?_ ?_⟩
  ·intro j x H4 hx h4
   obtain ⟨q,row,ps,rfl,hq,lr,rw4,lp,push⟩:=comp 0 H3 D j x H4 (Same.refl _) hx h4
   refine ⟨(by show 1≤yL;decide),fun T hT=>⟨_,rfl,T,q,_,_,rfl,rfl,zab,by rw [zak (zao hq hT)];exact hq,bigE (by rw [qO,yA];omega),fun r' hr'=>?_⟩⟩
   have eD:(upd (upd H4 T (.lst [.int 0])) r' (.lst ([.int 0]++row.map V.int))) D=some (.lst (ps.map V.ref)):=(((zae hT _).upd hr' _) _ _ rw4.at_)
   exact ⟨_,eD,big (by rw [yA];omega),_,push T r' _ hT hr' rfl⟩
  rintro H4 ⟨ps,rw4⟩
  have et:(zb9 i).take (qs.map V.ref).length=zb9 i:=by rw [yA,lq,qB]
  rw [et] at rw4
  refine ⟨_,rfl,R,rfl,⟨_,rw4.same.seq rw3.sq⟩,fun D2 hD2=>za0 (K:=K) (a:=R) (xs:=qs.map V.ref) (fun j H5=>∃ ps',Rows H4 D2 ps' (((zb9 i).take j).map (1:: ·)) H5) ⟨[],Rows.start (Same.refl _) hD2⟩ (fun j H5 _ ⟨ps',z⟩=>(rw4.same.trans z.same).seq rw3.sq) ?_ ?_⟩
  ·intro j x H5 hx h5
   obtain ⟨q,row,ps',rfl,hq,lr,rw5,lp,push⟩:=comp 1 H4 D2 j x H5 rw4.same hx h5
   refine ⟨(by show 1≤yL;decide),fun T hT=>⟨_,rfl,T,q,_,_,rfl,rfl,zab,by rw [zak (zao hq hT)];exact hq,bigE (by rw [qO,yA];omega),fun r' hr'=>?_⟩⟩
   have eD:(upd (upd H5 T (.lst [.int 1])) r' (.lst ([.int 1]++row.map V.int))) D2=some (.lst (ps'.map V.ref)):=(((zae hT _).upd hr' _) _ _ rw5.at_)
   exact ⟨_,eD,big (by rw [yA];omega),_,push T r' _ hT hr' rfl⟩
  rintro H5 ⟨ps',rw5⟩
  rw [et] at rw5
  have l1:=rw4.rows.len
  have l2:=rw5.rows.len
  rw [yA] at l1 l2
  refine ⟨D,D2,_,_,rfl,rfl,rw5.same _ _ rw4.at_,rw5.at_,bigE (by rw [yA,yA];omega),fun R' hR'=>?_⟩
  have c:=rw4.cat rw5 hR'
  exact ⟨R',ps++ps',_,rfl,⟨rw3.same.trans c.same,rw3.same.free c.out,c.at_,c.rows,c.nd,fun q hq=>⟨rw3.same.free (c.new q hq).1,(c.new q hq).2⟩⟩⟩
 ·rintro σ H3 ⟨R,qs,o2,rfl,rw3⟩
  exact ⟨_,rfl,q R qs H3 rw3⟩
theorem za9:zav ["works","places","faults","place","gate","body","leg"] ["works"] (zaj zci):=⟨rfl,rfl,rfl,by decide+kernel,rfl,by decide+kernel,by decide+kernel⟩
theorem zgv (T:Txt K mg t):FnOk P w K mg base CX0 1 t.f_every_fault t.fd_every_fault ["works"] (zmp K):=by
 refine T.d_every_fault.F.okB za9 (fun vs H Q E h=>?_) (fun cdv A outer s H vs Q E hr h=>?_)
 ·obtain ⟨x,w,rfl,_⟩:=h
  rfl
 obtain ⟨x,w,rfl,hx,wf,q⟩:=h
 obtain ⟨a,ga,oa,gs,os,rfl,ha,hg,ho,rg,ro⟩:=zbs hx
 have lg:gs.length=w.gates.length:=by rw [rg.length,yA]
 have i1:=wf.i1
 have i6:=wf.i6
 have few:=wf.few
 refine ⟨_,(zaf (zfp (k:=1) rfl (N:=["wire"]) (n:=1) (cap:=[]) (zbt rfl rfl) za9.nd rfl rfl (zaU rfl T.z_range (zaa (zah zaZ (zan zaM (bpv 0) zad (fun _ _=>rfl)) (zaw zau rfl T.z_len jJ (zaa (zan zaM (bpv 0) zad (fun _ _=>rfl)) (zac)))) (zac))) (zaL (by decide)) (fun _ _ _ _=>(zam (k:=0) (show (["wire"]:List Str).Nodup by decide+kernel) rfl (Or.inl rfl))) (fun _ _ _ _=>zaI) (fun _ _ _ _=>(zax (zaa zar (zaa (bpv 0) (zac))))) rfl)
  (zaf (za4 qV rfl (zdi rfl T.z_enumerate (zaa (zan zaM (bpv 0) zad (fun _ _=>rfl)) (zac))) (zeW rfl (zaz (zam (k:=4) za9.nd rfl (Or.inl rfl)) (zaz (zam (k:=5) za9.nd rfl (Or.inl rfl)) zbH))) (zag (za4 qV rfl (zaU rfl T.z_range (zaa (zaw zau rfl T.z_len jJ (zaa (zan zaM (bpv 5) zad (fun _ _=>rfl)) (zac))) (zac))) (zam (k:=6) za9.nd rfl (Or.inl rfl)) (zag (zbv (zcG qQ jC jD zbl (bpv 1) (zaa (zax (zaa zar (zaa (bpv 4) (zaa (bpv 6) (zac))))) (zac))))))))
  (zaf (zai (k:=2) za9.nd rfl (Or.inl rfl) (zat zac))
  (zaf (za4 qV rfl (zaJ (bpv 1)) (zam (k:=3) za9.nd rfl (Or.inl rfl)) (zaf (zbv (zcG qQ jC jD zbl (bpv 2) (zaa (zah zju (bpv 3) (zax (zaa zad (zac)))) (zac))))
  (zag (zbv (zcG qQ jC jD zbl (bpv 2) (zaa (zah zju (bpv 3) (zax (zaa zad (zac)))) (zac)))))))
  (zag (zap (bpv 2))))))),?_⟩
 refine ⟨_,rfl,a,_,_,_,rfl,rfl,ha,rfl,_,rfl,a,_,_,_,rfl,rfl,ha,rfl,ga,_,rfl,.inl hg,_,_,rfl,rfl,_,rfl,by omega,by omega,fun pl hpl=>?_⟩
 refine zd2 (fun i H2=>∃ xs,Bld K H pl xs ((zcI i).map .tuple) H2) ⟨[],.start hpl⟩ ?_ ?_
 ·rintro i H2 hi ⟨xs,b⟩
  rw [vX]
  have lx:=b.len
  rw [yA,zdX] at lx
  refine ⟨_,rfl,(by show 2≤yL;decide),fun T1 h1=>⟨xs,(b.new h1 _).at_,big (by omega),xs++ [.ref T1],?_⟩⟩
  have:=b.pushT (es:=[.str "wire",.int i]) h1 (.cons (.str _) (.cons (.int _) .nil))
  simpa [zcI,zlk] using this
 rintro H2 ⟨xs,b⟩
 have e2:(w.ins+(gs.length:Int)).toNat=w.ins.toNat+w.gates.length:=by omega
 rw [e2] at b
 refine ⟨_,rfl,a,_,_,_,rfl,rfl,b.same.seqT ha,rfl,ga,rfl,⟨_,b.same.seq hg⟩,zfs (K:=K) (a:=ga) (xs:=gs)
  (fun i σ H2=>∃ (xs:List V) (o1 o2 o3 o4 o5:Option V),σ = [some (.ref a),some (.ref pl),o1,o2,o3,o4,o5]∧Bld K H pl xs ((zcI (w.ins.toNat+w.gates.length)++zcM w.gates i).map .tuple) H2)
  ⟨xs,_,_,_,_,_,rfl,by simpa [zcM] using b⟩ (fun i σ H2 _ ⟨_,_,_,_,_,_,_,b⟩=>b.same.seq hg) ?_ ?_⟩
 ·rintro i x σ H2 T1 hx ⟨xs,o1,o2,o3,o4,o5,rfl,b⟩ h1
  have hi:i < gs.length:=(yG.mp hx).1
  obtain ⟨g,hgk⟩:∃ g,w.gates[i]? =some g:=⟨_,yC (by omega)⟩
  obtain ⟨d,hd,rv⟩:=rg.get hx
  rw [yE,hgk] at hd
  cases hd
  obtain ⟨a1,la,rfl,hA,hL⟩:=zfW rv
  have lk:=(wf.legs i g hgk).1.le
  have ll:((g.2.map V.int).length:Int)=g.2.length:=by rw [yA]
  have b':=b.new h1 (.tup [.int i,.ref a1])
  refine ⟨T1,_,rfl,.of zab,rfl,_,_,rfl,_,_,rfl,rfl,?_⟩
  refine ⟨_,rfl,a1,_,_,_,rfl,rfl,b'.same.seqT hA,rfl,la,_,rfl,.inr (b'.same.seqT hL),_,rfl,by omega,by omega,?_⟩
  refine zbR (fun j σ H3=>∃ (xs:List V) (o1 o2 o5:Option V),σ = [some (.ref a),some (.ref pl),o1,o2,some (.int i),some (.ref a1),o5]∧
   Bld K H pl xs ((zcI (w.ins.toNat+w.gates.length)++zcM w.gates i++zeV i j).map .tuple) H3) ⟨xs,_,_,_,rfl,by simpa [zeV] using b'⟩ ?_ ?_
  ·rintro j σ H3 hj ⟨xs,o1,o2,o5,rfl,b⟩
   rw [vX]
   have lx:=b.len
   have g1:=zeZ wf i
   rw [yA,yJ,yJ,zgb,zdX] at lx
   refine ⟨_,rfl,.inl ⟨rfl,_,b.sq⟩,_,rfl,_,rfl,(by show 3≤yL;decide),fun T2 h2=>?_⟩
   refine ⟨pl,xs,_,rfl,rfl,(b.new h2 _).at_,big (by omega),xs++ [.ref T2],_,_,_,rfl,?_⟩
   have:=b.pushT (es:=[.str "leg",.int i,.int j]) h2 (.cons (.str _) (.cons (.int _) (.cons (.int _) .nil)))
   simpa [zeV,legP] using this
  ·rintro σ H3 ⟨xs,o1,o2,o5,rfl,b⟩
   have e3:((g.2.map V.int).length:Int).toNat=g.2.length:=by omega
   rw [e3] at b
   exact ⟨xs,_,_,_,_,_,rfl,by simpa [zcM,hgk,jH] using b⟩
 rintro σ H2 ⟨xs,o1,o2,o3,o4,o5,rfl,b⟩
 rw [lg] at b
 have lp:(zbg w).length≤200:=by
  have g1:=zeZ wf w.gates.length
  unfold zbg
  rw [yJ,zdX]
  omega
 have rp:Reps K H2 xs ((zbg w).map .tuple):=b.reps
 refine ⟨(by show 0≤yL;decide),fun f hf=>?_⟩
 have s1:Same H2 (upd H2 f (.lst [])):=zae hf _
 refine ⟨_,rfl,pl,rfl,⟨_,s1.seq b.sq⟩,zcn (K:=K) (a:=pl) (xs:=xs)
  (fun i σ H3=>∃ (ys:List V) (o2 o3 o4 o5:Option V),σ = [some (.ref a),some (.ref pl),some (.ref f),o2,o3,o4,o5]∧Bld K H2 f ys (zdO ((zbg w).take i)) H3)
  ⟨[],_,_,_,_,rfl,.start hf⟩ (fun i σ H3 _ ⟨_,_,_,_,_,_,b3⟩=>b3.same.seq b.sq) ?_ ?_⟩
 ·rintro i x σ H3 hx ⟨ys,o2,o3,o4,o5,rfl,b3⟩
  obtain ⟨d,hd,rx⟩:=rp.get hx
  rw [yE] at hd
  cases hp:(zbg w)[i]? with
  | none=>rw [hp] at hd;cases hd
  | some p=>
   rw [hp] at hd
   cases hd
   cases rx with
   | @tup a1 vs _ h1 r1=>
    have hi:i < (zbg w).length:=(yG.mp hp).1
    have et:(zbg w).take (i+1)=(zbg w).take i++ [p]:=by
     rw [yV,hp]
     rfl
    have pne:vs≠[]:=by
     intro z
     subst z
     cases r1
     exact zl4 hp
    have lv:vs.length≤3:=by
     rw [r1.length]
     exact zmo hp
    have ly:=b3.len
    rw [ziL,yR] at ly
    refine ⟨_,rfl,.inl ⟨rfl,_,b3.sq⟩,_,rfl,(by show 1≤yL;decide),fun T1 n1=>?_⟩
    have c1:=b3.new n1 (.tup [.int 0])
    refine ⟨a1,T1,vs,_,rfl,rfl,c1.same.seqT h1,.of zab,pne,bigE (by simp;omega),(fun z=>nomatch z),fun _ T2 n2=>?_⟩
    have c2:=c1.pushT n2 (r1.snoc (.int 0))
    refine ⟨f,ys,_,rfl,rfl,(c1.new n2 _).at_,big (by omega),?_⟩
    refine ⟨_,rfl,.inl ⟨rfl,_,c2.sq⟩,_,rfl,(by show 1≤yL;decide),fun T3 n3=>?_⟩
    have c3:=c2.new n3 (.tup [.int 1])
    refine ⟨a1,T3,vs,_,rfl,rfl,c3.same.seqT h1,.of zab,pne,bigE (by simp;omega),(fun z=>nomatch z),fun _ T4 n4=>?_⟩
    have c4:=c3.pushT n4 (r1.snoc (.int 1))
    refine ⟨f,_,_,rfl,rfl,(c3.new n4 _).at_,big (by simp;omega),ys++ [.ref T2]++ [.ref T4],_,_,_,_,rfl,?_⟩
    rw [et,zbM,zeD]
    simpa [jH] using c4
 ·rintro σ H3 ⟨ys,o2,o3,o4,o5,rfl,b3⟩
  have e5:(zbg w).take xs.length=zbg w:=by
   rw [b.len]
   show (zbg w).take ((zbg w).map Dat.tuple).length=_
   rw [yA,qB]
  rw [e5,zcd] at b3
  exact ⟨_,rfl,q f ys H3 ⟨by
   obtain ⟨G,g1,g2,g3,g4⟩:=b3.ex
   exact ⟨G,b.same.trans g1,g2,g3,g4⟩,b3.at_⟩⟩
theorem zhg:zav ["stuck","gate","worths"] ["stuck","gate","worths"] (zaj zcF):=⟨rfl,rfl,rfl,by decide+kernel,rfl,by decide+kernel,by decide+kernel⟩
theorem zhJ (T:Txt K mg t):FnOk P w K mg base CX0 1 t.f_leg_worths t.fd_leg_worths ["stuck","gate","worths"] (sp_lgw K):=by
 refine T.d_leg_worths.F.okB zhg (fun vs H Q E h=>?_) (fun cdv A outer s H vs Q E hr h=>?_)
 ·obtain ⟨d,p,k,fs,ns,rfl,_⟩:=h
  rfl
 obtain ⟨d,p,k,fs,ns,rfl,hd,hS,l4,q⟩:=h
 have hu1:=zkA hr
 refine ⟨_,(zag (zap (zaO rfl (N:=["leg","worth","stuck","gate"]) (n:=2) (cap:=[0,1]) (zbt rfl rfl) (zdi rfl T.z_enumerate (zaa (bpv 2) (zac))) (zc9 (by decide) (by decide)) (fun _ _ _ _=>(zd6 (K:=K) (n:=2) rfl (zaz (zam (k:=0) (show (["leg","worth","stuck","gate"]:List Str).Nodup by decide+kernel) rfl (Or.inl rfl)) (zaz (zam (k:=1) (show (["leg","worth","stuck","gate"]:List Str).Nodup by decide+kernel) rfl (Or.inl rfl)) zbH)))) (fun _ _ _ _=>zaI) (fun _ _ _ _=>(zgu hu1 (bpv 2) (zax (zaa zar (zaa (bpv 3) (zaa (bpv 0) (zac))))) (bpv 1) ⟨rfl,rfl,rfl,rfl⟩))))),?_⟩
 refine ⟨_,rfl,p,rfl,⟨_,hS⟩,fun D hD=>zfJ (K:=K) (a:=p) (xs:=ns.map V.int) (fun j H2=>Same H H2∧H2 D=some (.lst ((zc5 fs k (ns.take j)).map V.int))) ⟨zae hD _,zab⟩ (fun j H2 _ z=>z.1.seq hS) ?_ ?_⟩
 ·rintro j y H2 T1 hy ⟨s2,eD⟩ h1
  rw [yE] at hy
  cases hz:ns[j]? with
  | none=>rw [hz] at hy;cases hy
  | some n=>
   rw [hz] at hy
   cases hy
   have lj:j < ns.length:=(yG.mp hz).1
   have s3:=s2.upd h1 (.tup [.int j,.int n])
   refine ⟨T1,_,rfl,.of zab,rfl,_,_,rfl,_,_,rfl,rfl,?_⟩
   refine ⟨_,rfl,d,rfl,.inr ⟨_,.inl (s3 _ _ hd)⟩,_,rfl,_,rfl,(by show 3≤yL;decide),fun T2 h2=>?_⟩
   have s4:=s3.upd h2 (.tup [.str "leg",.int k,.int j])
   refine ⟨_,rfl,_,DGet.t (k:=legK k j) (s4 _ _ hd) zab,?_⟩
   have eD4:=((zae h1 (.tup [.int j,.int n])).upd h2 (.tup [.str "leg",.int k,.int j])) _ _ eD
   refine ⟨_,eD4,big (by rw [yA,zeN,yR];omega),s4.write hD _,?_⟩
   have lt:(ns.take j).length=j:=by rw [yR];omega
   rw [zab,yV,hz]
   show _=some (HO.lst ((zc5 fs k (ns.take j++ [n])).map V.int))
   rw [zk6,yM,lt,zhC]
   rfl
 ·rintro H2 ⟨s2,eD⟩
  have et:ns.take (ns.map V.int).length=ns:=by rw [yA,qB]
  rw [et] at eD
  exact q D H2 s2 hD eD
theorem zbo:zav ["works","stuck","row","ones","worths","gate","body","read","worth"] ["works","stuck","row","ones"] (zaj zbV):=⟨rfl,rfl,rfl,by decide+kernel,rfl,by decide+kernel,by decide+kernel⟩
theorem zf6 (T:Txt K mg t):FnOk P w K mg base CX0 2 t.f_worths_with t.fd_worths_with ["works","stuck","row","ones"] (sp_wwG K):=by
 refine T.d_worths_with.F.okB zbo (fun vs H Q E h=>?_) (fun cdv A outer s H vs Q E hr h=>?_)
 ·obtain ⟨x,d,p,w,fs,row,o,rfl,_⟩:=h
  rfl
 obtain ⟨x,d,p,w,fs,row,o,rfl,hx,wf,hd,hS,hl,q⟩:=h
 obtain ⟨a,ga,oa,gs,os,rfl,ha,hg,ho,rg,ro⟩:=zbs hx
 have hu1:=zkA hr
 have lg:gs.length=w.gates.length:=by rw [rg.length,yA]
 have i1:=wf.i1
 have i6:=wf.i6
 have few:=wf.few
 refine ⟨_,(zaf (zai (k:=4) zbo.nd rfl (Or.inr rfl) (zaO rfl (N:=["wire","worth","stuck"]) (n:=2) (cap:=[1]) (zbt rfl rfl) (zdi rfl T.z_enumerate (zaa (bpv 2) (zac))) (zc9 (by decide) (by decide)) (fun _ _ _ _=>(zd6 (K:=K) (n:=2) rfl (zaz (zam (k:=0) (show (["wire","worth","stuck"]:List Str).Nodup by decide+kernel) rfl (Or.inl rfl)) (zaz (zam (k:=1) (show (["wire","worth","stuck"]:List Str).Nodup by decide+kernel) rfl (Or.inl rfl)) zbH)))) (fun _ _ _ _=>zaI) (fun _ _ _ _=>(zgu hu1 (bpv 2) (zax (zaa zar (zaa (bpv 0) (zac)))) (bpv 1) ⟨rfl,rfl,rfl,rfl⟩))))
  (zaf (za4 qV rfl (zdi rfl T.z_enumerate (zaa (zan zaM (bpv 0) zad (fun _ _=>rfl)) (zac))) (zeW rfl (zaz (zam (k:=5) zbo.nd rfl (Or.inl rfl)) (zaz (zam (k:=6) zbo.nd rfl (Or.inl rfl)) zbH))) (zaf (zai (k:=7) zbo.nd rfl (Or.inl rfl) (zal (zhJ T) (hr.mono (by decide)) rfl T.d_leg_worths.m T.d_leg_worths.F.kp T.d_leg_worths.b .nil zaR (zaa (bpv 1) (zaa (bpv 5) (zaa (zaO rfl (N:=["leg","worths"]) (n:=1) (cap:=[4]) (zbt rfl rfl) (zmb (zan zaM (bpv 6) zad (fun _ _=>rfl))) (zaL (by decide)) (fun _ _ _ _=>(zam (k:=0) (show (["leg","worths"]:List Str).Nodup by decide+kernel) rfl (Or.inl rfl))) (fun _ _ _ _=>zaI) (fun _ _ _ _=>(zan (zew (K:=K)) (bpv 1) (bpv 0) (fun _ _=>rfl)))) (zac))))))
  (zaf (zai (k:=8) zbo.nd rfl (Or.inl rfl) (zal (zec T) (hr.mono (by decide)) rfl T.d_gate_worth.m T.d_gate_worth.F.kp T.d_gate_worth.b .nil zaR (zaa (zan zaM (bpv 6) zad (fun _ _=>rfl)) (zaa (bpv 7) (zaa (bpv 3) (zac))))))
  (zag (zbv (zcG qQ jC jD zbl (bpv 4) (zaa (zgu hu1 (bpv 1) (zax (zaa zar (zaa (zah zaZ (zan zaM (bpv 0) zad (fun _ _=>rfl)) (bpv 5)) (zac)))) (bpv 8) ⟨rfl,rfl,rfl,rfl⟩) (zac))))))))
  (zag (zap (bpv 4))))),?_⟩
 refine ⟨_,rfl,p,rfl,⟨_,hS⟩,fun r hr1=>zfJ (K:=K) (a:=p) (xs:=row.map V.int) (fun j H2=>Same H H2∧H2 r=some (.lst ((rowS fs (row.take j)).map V.int))) ⟨zae hr1 _,zab⟩ (fun j H2 _ z=>z.1.seq hS) ?_ ?_⟩
 ·rintro j y H2 T1 hy ⟨s2,eD⟩ h1
  rw [yE] at hy
  cases hz:row[j]? with
  | none=>rw [hz] at hy;cases hy
  | some n=>
   rw [hz] at hy
   cases hy
   have lj:j < row.length:=(yG.mp hz).1
   have s3:=s2.upd h1 (.tup [.int j,.int n])
   refine ⟨T1,_,rfl,.of zab,rfl,_,_,rfl,_,_,rfl,rfl,?_⟩
   refine ⟨_,rfl,d,rfl,.inr ⟨_,.inl (s3 _ _ hd)⟩,_,rfl,(by show 2≤yL;decide),fun T2 h2=>?_⟩
   have s4:=s3.upd h2 (.tup [.str "wire",.int j])
   refine ⟨_,rfl,_,DGet.t (k:=zbd j) (s4 _ _ hd) zab,?_⟩
   have eD4:=((zae h1 (.tup [.int j,.int n])).upd h2 (.tup [.str "wire",.int j])) _ _ eD
   refine ⟨_,eD4,big (by rw [yA,zho,yR];omega),s4.write hr1 _,?_⟩
   have lt:(row.take j).length=j:=by rw [yR];omega
   rw [zab,yV,hz]
   show _=some (HO.lst ((rowS fs (row.take j++ [n])).map V.int))
   rw [zl5,yM,lt,zhC]
   rfl
 rintro H1 ⟨s1,e1⟩
 have et:row.take (row.map V.int).length=row:=by rw [yA,qB]
 rw [et] at e1
 refine ⟨_,rfl,a,_,_,_,rfl,rfl,s1.seqT ha,rfl,ga,rfl,⟨_,s1.seq hg⟩,zfs (K:=K) (a:=ga) (xs:=gs)
  (fun i σ H3=>∃ (o4 o5 o6 o7:Option V),σ = [some (.ref a),some (.ref d),some (.ref p),some (.int o),some (.ref r),o4,o5,o6,o7]∧Same H H3∧H3 r=some (.lst ((zcb o fs w.gates row i).map V.int)))
  ⟨_,_,_,_,rfl,s1,e1⟩ (fun i σ H3 _ ⟨_,_,_,_,_,s3,_⟩=>s3.seq hg) ?_ ?_⟩
 ·rintro i x σ H3 T1 hx ⟨o4,o5,o6,o7,rfl,s3,e3⟩ h1
  have hi:i < gs.length:=(yG.mp hx).1
  obtain ⟨g,hgk⟩:∃ g,w.gates[i]? =some g:=⟨_,yC (by omega)⟩
  obtain ⟨dd,hdd,rv⟩:=rg.get hx
  rw [yE,hgk] at hdd
  cases hdd
  obtain ⟨a1,la,rfl,hA,hL⟩:=zfW rv
  obtain ⟨lk,lb⟩:=wf.legs i g hgk
  have lw:=zeU o fs w.gates row i
  have l4:=lk.le
  refine ⟨T1,_,rfl,.of zab,rfl,_,_,rfl,_,_,rfl,rfl,?_⟩
  have k1:=zae h1 (.tup [.int i,.ref a1])
  have s4:=s3.trans k1
  have e4:=k1 _ _ e3
  generalize upd H3 T1 (.tup [.int i,.ref a1])=H4 at k1 s4 e4
  refine ⟨_,rfl,_,rfl,_,rfl,a1,_,_,_,rfl,rfl,s4.seqT hA,rfl,la,rfl,⟨_,s4.seqT hL⟩,fun D hD=>zjV (K:=K) (a:=la) (xs:=g.2.map V.int)
   (fun j H5=>Same H4 H5∧H5 D=some (.lst (((g.2.take j).map fun l=>(zcb o fs w.gates row i).getD l.toNat 0).map V.int))) ⟨zae hD _,zab⟩ (fun j H5 _ z=>(s4.trans z.1).seqT hL) ?_ ?_⟩
  ·rintro j y H5 hy ⟨s5,eD⟩
   rw [yE] at hy
   cases hz:g.2[j]? with
   | none=>rw [hz] at hy;cases hy
   | some l=>
    rw [hz] at hy
    cases hy
    have lj:j < g.2.length:=(yG.mp hz).1
    have bl:=lb l (yI hz)
    refine ⟨_,rfl,_,rfl,r,_,_,_,rfl,rfl,.of (s5 _ _ e4),zce bl.1 (by rw [lw];omega),?_⟩
    refine ⟨_,eD,big (by simp;omega),s5.write hD _,?_⟩
    rw [zab,yV,hz]
    simp
  rintro H5 ⟨s5,eD⟩
  have et:g.2.take (g.2.map V.int).length=g.2:=by rw [yA,qB]
  rw [et] at eD
  have s45:=s4.trans s5
  refine ⟨d,D,_,fs,g.2.map fun l=>(zcb o fs w.gates row i).getD l.toNat 0,rfl,s45 _ _ hd,.of eD,by rw [yA];exact l4,fun R H6 s6 nR eR=>?_⟩
  have s46:=s45.trans s6
  refine ⟨_,rfl,a1,_,_,_,rfl,rfl,s46.seqT hA,rfl,_,rfl,_,rfl,g.1,R,_,o,rfl,.of eR,by rw [zeN,yA];exact lk,fun H7 s7=>?_⟩
  replace s46:=s46.trans s7
  have e6:=((s5.trans s6).trans s7) _ _ e4
  refine ⟨_,rfl,.inl ⟨rfl,_,.of e6⟩,_,rfl,d,rfl,.inr ⟨_,.inl (s46 _ _ hd)⟩,_,rfl,a,_,_,_,rfl,rfl,s46.seqT ha,rfl,_,rfl,_,_,rfl,rfl,(by show 2≤yL;decide),fun T2 h2=>?_⟩
  have rT:r≠T2:=zao e6 h2
  have ei:w.ins+(i:Int)=((row.length+i:Nat):Int):=by omega
  refine ⟨_,rfl,_,DGet.t (k:=zbd ((row.length+i:Nat):Int)) ((s46.upd h2 _) _ _ hd) (by rw [zab];show some (HO.tup [V.str "wire",V.int (w.ins+(i:Int))])=_;rw [ei];rfl),?_⟩
  refine ⟨r,_,_,rfl,rfl,by rw [zak rT];exact e6,big (by rw [yA,lw];omega),_,_,_,_,rfl,(s46.upd h2 _).write hr1 _,?_⟩
  rw [zab,zcb,hgk,yM,zhC]
  rfl
 ·rintro σ H3 ⟨o4,o5,o6,o7,rfl,s3,e3⟩
  rw [lg] at e3
  exact ⟨_,rfl,q r H3 s3 hr1 e3⟩
theorem zdI:zav ["works","stuck","row","ones","worths"] ["works","stuck","row","ones"] (zaj zbF):=⟨rfl,rfl,rfl,by decide+kernel,rfl,by decide+kernel,by decide+kernel⟩
theorem zfl (T:Txt K mg t):FnOk P w K mg base CX0 3 t.f_outputs_with t.fd_outputs_with ["works","stuck","row","ones"] (sp_owG K):=by
 refine T.d_outputs_with.F.okB zdI (fun vs H Q E h=>?_) (fun cdv A outer s H vs Q E hr h=>?_)
 ·obtain ⟨x,d,p,w,fs,row,o,rfl,_⟩:=h
  rfl
 obtain ⟨x,d,p,w,fs,row,o,rfl,hx,wf,hd,hS,hl,q⟩:=h
 refine ⟨_,(zaf (zai (k:=4) zdI.nd rfl (Or.inr rfl) (zal (zf6 T) (hr.mono (by decide)) rfl T.d_worths_with.m T.d_worths_with.F.kp T.d_worths_with.b .nil zaR (zaa (bpv 0) (zaa (bpv 1) (zaa (bpv 2) (zaa (bpv 3) (zac)))))))
  (zag (zap (zaO rfl (N:=["wire","worths"]) (n:=1) (cap:=[4]) (zbt rfl rfl) (zaJ (zan zaM (bpv 0) zad (fun _ _=>rfl))) (zaL (by decide)) (fun _ _ _ _=>(zam (k:=0) (show (["wire","worths"]:List Str).Nodup by decide+kernel) rfl (Or.inl rfl))) (fun _ _ _ _=>zaI) (fun _ _ _ _=>(zan (zew (K:=K)) (bpv 1) (bpv 0) (fun _ _=>rfl))))))),?_⟩
 refine ⟨_,rfl,_,rfl,_,rfl,_,rfl,x,d,p,w,fs,row,o,rfl,hx,wf,hd,hS,hl,fun r H1 s1 n1 e1=>?_⟩
 obtain ⟨a,ga,oa,gs,os,rfl,ha,hg,ho,rg,ro⟩:=zbs (hx.mono s1)
 have eo:=zga ro
 subst eo
 have lw:=zeU o fs w.gates row w.gates.length
 have o3:=wf.o3
 refine ⟨_,rfl,a,_,_,_,rfl,rfl,ha,rfl,oa,rfl,⟨_,ho⟩,fun D hD=>za0 (K:=K) (a:=oa) (xs:=w.outs.map V.int)
   (fun j H4=>Same H1 H4∧H4 D=some (.lst (((w.outs.take j).map fun u=>(zcb o fs w.gates row w.gates.length).getD u.toNat 0).map V.int))) ⟨zae hD _,zab⟩ (fun j H4 _ z=>z.1.seq ho) ?_ ?_⟩
 ·rintro j y H4 hy ⟨s4,eD⟩
  rw [yE] at hy
  cases hz:w.outs[j]? with
  | none=>rw [hz] at hy;cases hy
  | some ou=>
   rw [hz] at hy
   cases hy
   have lj:j < w.outs.length:=(yG.mp hz).1
   have bo:=wf.outs ou (yI hz)
   refine ⟨_,rfl,_,rfl,r,_,_,_,rfl,rfl,.of (s4 _ _ e1),zce bo.1 (by rw [lw];omega),?_⟩
   refine ⟨_,eD,big (by simp;omega),s4.write hD _,?_⟩
   rw [zab,yV,hz]
   simp
 ·rintro H4 ⟨s4,eD⟩
  have et:w.outs.take (w.outs.map V.int).length=w.outs:=by rw [yA,qB]
  rw [et] at eD
  exact q D H4 (s1.trans s4) (s1.free hD) eD
theorem zgy:zav ["script","k"] ["script","k"] (zaj zck):=⟨rfl,rfl,rfl,by decide+kernel,rfl,by decide+kernel,by decide+kernel⟩
theorem zcW (T:Txt K mg t):FnOk P w K mg base CX0 1 t.f_law_cell_at t.fd_law_cell_at ["script","k"] (sp_ca K):=by
 refine T.d_law_cell_at.F.okB zgy (fun vs H Q E h=>?_) (fun cdv A outer s H vs Q E hr h=>?_)
 ·obtain ⟨a,ns,k,rfl,_⟩:=h
  rfl
 obtain ⟨a,ns,k,rfl,hS,q⟩:=h
 refine ⟨_,(zaf (zaT (zay op_lt (bpv 1) (zaw zau rfl T.z_len jJ (zaa (bpv 0) (zac))) (zaX _)) (zag (zap (zan zaC (bpv 0) (bpv 1) (fun _ _=>rfl)))) zaB)
  (zag (zap zad))),?_⟩
 refine ⟨_,rfl,_,rfl,a,_,rfl,.inl hS,_,_,rfl,rfl,_,rfl,ite2 (fun c=>?_) (fun c=>q _)⟩
 have c':=of_decide_eq_true c
 rw [yA] at c'
 exact ⟨_,rfl,_,rfl,a,_,_,_,rfl,rfl,hS,zce (by omega) (by omega),q _⟩
theorem zaG:zav ["cell","many","base","row","rest","k","stir"] ["cell","many","base"] (zaj zcp):=⟨rfl,rfl,rfl,by decide+kernel,rfl,by decide+kernel,by decide+kernel⟩
theorem bits40 {n:Int}(h: 0≤n∧n < 2 ^ 40):qG n≤2 ^ 20:=zfN (k:=40) (by decide) (by omega) (by omega)
noncomputable def cM (c:Int):Int:=c % (10 ^ (45:Int).toNat * 10 ^ (45:Int).toNat)
noncomputable def znm (cc j:Int):Int:=(cc+977 * j+1) * 48271 % 2147483647
noncomputable def stir3 (cc j:Int):Int:=(znm cc j * znm cc j % 2147483629+40692 * (j+3)) * 69621 % 2147483563 / 8
theorem zcT (T:Txt K mg t):FnOk P w K mg base CX0 1 t.f_law_numbers t.fd_law_numbers ["cell","many","base"] sp_nu:=by
 refine T.d_law_numbers.F.okB zaG (fun vs H Q E h=>?_) (fun cdv A outer s H vs Q E hr h=>?_)
 ·obtain ⟨c,many,b,rfl,_⟩:=h
  rfl
 obtain ⟨c,many,b,rfl,hm,b0,b1,q⟩:=h
 refine ⟨_,(zaf (zai (k:=0) zaG.nd rfl (Or.inl rfl) (zah zbb (bpv 0) (zah ze3 (zah zg0 zad zad) (zah zg0 zad zad))))
  (zaf (zai (k:=3) zaG.nd rfl (Or.inl rfl) (zat zac))
  (zaf (zai (k:=4) zaG.nd rfl (Or.inl rfl) (zah zfd (bpv 0) (zah zg0 zad zad)))
  (zaf (za4 qV rfl (zaU rfl T.z_range (zaa (bpv 1) (zac))) (zam (k:=5) zaG.nd rfl (Or.inl rfl)) (zaf (zai (k:=6) zaG.nd rfl (Or.inl rfl) (zah zbb (zah zdN (zah zaZ (zah zaZ (bpv 0) (zah zdN zad (bpv 5))) zad) zad) zad))
  (zaf (zai (k:=6) zaG.nd rfl (Or.inl rfl) (zah zbb (zah ze3 (bpv 6) (bpv 6)) zad))
  (zaf (zai (k:=6) zaG.nd rfl (Or.inl rfl) (zah zfM (zah zbb (zah zdN (zah zaZ (bpv 6) (zah zdN zad (zah zaZ (bpv 5) zad))) zad) zad) zad))
  (zaf (zaT (zay op_ge (bpv 0) (zah zg0 zad zad) (zaX _)) (zaf (zai (k:=6) zaG.nd rfl (Or.inl rfl) (bpv 4))
  (zag (zai (k:=4) zaG.nd rfl (Or.inl rfl) (zah zfM (bpv 4) (bpv 2))))) zaB)
  (zag (zbv (zcG qQ jC jD zbl (bpv 3) (zaa (zah zbb (bpv 6) (bpv 2)) (zac))))))))))
  (zag (zap (bpv 3))))))),?_⟩
 have pw:∀ i j:Int,i.natAbs < 2 ^ 64→0≤j→j≤1000000→CPow i j:=fun i j a b c=>⟨b,c,a⟩
 have b45:qG ((10:Int) ^ (45:Int).toNat)≤2 ^ 20:=zfN (k:=160) (by decide) (by decide) (by decide)
 refine ⟨_,rfl,_,_,rfl,rfl,pw _ _ (by decide) (by decide) (by decide),_,_,rfl,rfl,pw _ _ (by decide) (by decide) (by decide),_,_,rfl,rfl,⟨b45,b45⟩,_,_,rfl,rfl,(by show (0:Int) < 10 ^ (45:Int).toNat * 10 ^ (45:Int).toNat;decide),?_⟩
 refine ⟨(by show 0≤yL;decide),fun R hR=>?_⟩
 refine ⟨_,rfl,_,_,rfl,rfl,pw _ _ (by decide) (by decide) (by decide),_,_,rfl,rfl,?_⟩
 refine ⟨_,rfl,_,rfl,by omega,by omega,zbR (fun j σ H2=>∃ (rest:Int) (o5 o6:Option V) (row:List Int),σ = [some (.int (cM c)),some (.int many),some (.int b),some (.ref R),some (.int rest),o5,o6]∧row.length=j∧(∀ z∈row,0≤z∧z < b)∧Same H H2∧H2 R=some (.lst (row.map V.int)))
  ⟨_,_,_,[],rfl,rfl,(fun _ z=>nomatch z),zae hR _,zab⟩ ?_ ?_⟩
 ·rintro j σ H2 hj ⟨rest,o5,o6,row,rfl,lr,br,s2,eR⟩
  rw [vX]
  have j100:j < many:=by omega
  generalize cM c=cc
  have last:∀ (st:Int),(∀ z∈row++ [st % b],0≤z∧z < b):=fun st z hz=>by
   rcases yP.mp hz with hz | hz
   ·exact br z hz
   ·rw [yF.mp hz]
    exact ⟨jX _ (by omega),jI _ b0⟩
  refine ⟨_,rfl,_,rfl,_,_,rfl,rfl,.inl ⟨by decide,by decide⟩,_,_,rfl,rfl,_,_,rfl,rfl,_,_,rfl,rfl,.inr ⟨by decide,by decide⟩,_,_,rfl,rfl,(by show (0:Int) < 2147483647;decide),?_⟩
  have bs1:qG (znm cc j)≤2 ^ 20:=bits40 (by unfold znm;omega)
  refine ⟨_,rfl,_,rfl,_,_,rfl,rfl,⟨bs1,bs1⟩,_,_,rfl,rfl,(by show (0:Int) < 2147483629;decide),?_⟩
  refine ⟨_,rfl,_,rfl,_,_,rfl,rfl,_,_,rfl,rfl,.inl ⟨by decide,by decide⟩,_,_,rfl,rfl,_,_,rfl,rfl,.inr ⟨by decide,by decide⟩,_,_,rfl,rfl,(by show (0:Int) < 2147483563;decide),_,_,rfl,rfl,⟨by decide,by decide⟩,?_⟩
  refine ⟨_,rfl,_,_,rfl,rfl,pw _ _ (by decide) (by decide) (by decide),_,_,rfl,rfl,_,rfl,ite2 (fun _=>?_) (fun _=>?_)⟩
  ·refine ⟨_,rfl,_,rfl,_,rfl,_,_,rfl,rfl,⟨b0,b1⟩,?_⟩
   refine ⟨_,rfl,.inl ⟨rfl,_,.of eR⟩,_,rfl,_,rfl,_,_,rfl,rfl,b0,R,_,_,rfl,rfl,eR,big (by rw [yA];omega),?_⟩
   exact ⟨_,_,_,row++ [rest % b],rfl,by simp [lr],last rest,s2.write hR _,by rw [zab,yM];rfl⟩
  ·refine ⟨_,rfl,.inl ⟨rfl,_,.of eR⟩,_,rfl,_,rfl,_,_,rfl,rfl,b0,R,_,_,rfl,rfl,eR,big (by rw [yA];omega),?_⟩
   exact ⟨_,_,_,row++ [stir3 cc j % b],rfl,by simp [lr],last _,s2.write hR _,by rw [zab,yM];rfl⟩
 ·rintro σ H2 ⟨rest,o5,o6,row,rfl,lr,br,s2,eR⟩
  exact ⟨_,rfl,q R row H2 s2 hR eR (by omega) br⟩
theorem za1:zav ["row","wires","two","kinds","kind","many","legs","number","leg"] ["row","wires","two"] (zaj zdV):=⟨rfl,rfl,rfl,by decide+kernel,rfl,by decide+kernel,by decide+kernel⟩
theorem zoT {c:Int}(h0: 0≤c)(h1:c < 10):∃ x,atI [V.str "and",V.str "or",V.str "odd",V.str "not",V.str "choose",V.str "and",V.str "or",V.str "zero",V.str "one",V.str "odd"] c=some (.str x)∧zma x:=by
 have:c=0∨c=1∨c=2∨c=3∨c=4∨c=5∨c=6∨c=7∨c=8∨c=9:=by omega
 unfold zma
 rcases this with rfl | rfl | rfl | rfl | rfl | rfl | rfl | rfl | rfl | rfl
 ·exact ⟨_,rfl,.inl rfl⟩
 ·exact ⟨_,rfl,.inr (.inl rfl)⟩
 ·exact ⟨_,rfl,.inr (.inr (.inl rfl))⟩
 ·exact ⟨_,rfl,.inr (.inr (.inr (.inl rfl)))⟩
 ·exact ⟨_,rfl,.inr (.inr (.inr (.inr (.inl rfl))))⟩
 ·exact ⟨_,rfl,.inl rfl⟩
 ·exact ⟨_,rfl,.inr (.inl rfl)⟩
 ·exact ⟨_,rfl,.inr (.inr (.inr (.inr (.inr (.inl rfl)))))⟩
 ·exact ⟨_,rfl,.inr (.inr (.inr (.inr (.inr (.inr rfl)))))⟩
 ·exact ⟨_,rfl,.inr (.inr (.inl rfl))⟩
theorem zoU {x:Str}(k:zma x){m0 m1 m2 m3:Int}(h0: 2≤m0∧m0≤4)(e1:m1=if x="not" then 1 else m0)(e2:m2=if x="choose" then 3 else m1)(e3:m3=if x="zero"∨x="one" then 0 else m2):∃ n:Nat,m3=(n:Int)∧zbh x n:=by
 unfold zbh
 rcases k with rfl | rfl | rfl | rfl | rfl | rfl | rfl
 ·refine ⟨m3.toNat,?_⟩
  rw [if_neg (by decide+kernel)] at e1 e2 e3
  exact ⟨by omega,.inl ⟨.inl rfl,by omega,by omega⟩⟩
 ·refine ⟨m3.toNat,?_⟩
  rw [if_neg (by decide+kernel)] at e1 e2 e3
  exact ⟨by omega,.inl ⟨.inr (.inl rfl),by omega,by omega⟩⟩
 ·refine ⟨m3.toNat,?_⟩
  rw [if_neg (by decide+kernel)] at e1 e2 e3
  exact ⟨by omega,.inl ⟨.inr (.inr rfl),by omega,by omega⟩⟩
 ·refine ⟨1,?_,.inr (.inl ⟨rfl,rfl⟩)⟩
  rw [if_pos rfl] at e1
  rw [if_neg (by decide+kernel)] at e2 e3
  omega
 ·refine ⟨3,?_,.inr (.inr (.inl ⟨rfl,rfl⟩))⟩
  rw [if_pos rfl] at e2
  rw [if_neg (by decide+kernel)] at e3
  omega
 ·refine ⟨0,?_,.inr (.inr (.inr ⟨.inl rfl,rfl⟩))⟩
  rw [if_pos (.inl rfl)] at e3
  omega
 ·refine ⟨0,?_,.inr (.inr (.inr ⟨.inr rfl,rfl⟩))⟩
  rw [if_pos (.inr rfl)] at e3
  omega
theorem zjm (T:Txt K mg t):FnOk P w K mg base CX0 1 t.f_law_gate t.fd_law_gate ["row","wires","two"] (sp_ga K):=by
 refine T.d_law_gate.F.okB za1 (fun vs H Q E h=>?_) (fun cdv A outer s H vs Q E hr h=>?_)
 ·obtain ⟨p,row,wires,two,rfl,_⟩:=h
  rfl
 obtain ⟨p,row,wires,two,rfl,hS,lr,br,w1,w2,q⟩:=h
 refine ⟨_,(zaf (zai (k:=3) za1.nd rfl (Or.inl rfl) (zat (zaa zar (zaa zar (zaa zar (zaa zar (zaa zar (zaa zar (zaa zar (zaa zar (zaa zar (zaa zar (zac)))))))))))))
  (zaf (zai (k:=4) za1.nd rfl (Or.inl rfl) (zan zaC (bpv 3) (zah zbb (zan zaC (bpv 0) zad (fun _ _=>rfl)) zad) (fun _ _=>rfl)))
  (zaf (zai (k:=5) za1.nd rfl (Or.inl rfl) (zah zaZ zad (zah zdN (zah zbb (zan zaC (bpv 0) zad (fun _ _=>rfl)) zad) (zcx zfQ rfl T.z_int yaA (zaa (zpk (bpv 2)) (zac))))))
  (zaf (zaT (zay zdg (bpv 4) zar (zaX _)) (zag (zai (k:=5) za1.nd rfl (Or.inl rfl) zad)) zaB)
  (zaf (zaT (zay zdg (bpv 4) zar (zaX _)) (zag (zai (k:=5) za1.nd rfl (Or.inl rfl) zad)) zaB)
  (zaf (zaT (zh7 (zmr (zay zdg (bpv 4) zar (zaX _)) (zjt (zay zdg (bpv 4) zar (zaX _))))) (zag (zai (k:=5) za1.nd rfl (Or.inl rfl) zad)) zaB)
  (zaf (zai (k:=6) za1.nd rfl (Or.inl rfl) (zat zac))
  (zaf (za4 qV rfl (zaJ (zaK zbX (bpv 0) (zaH zad) (zaH (zah zaZ zad (bpv 5))))) (zam (k:=7) za1.nd rfl (Or.inl rfl)) (zaf (zai (k:=8) za1.nd rfl (Or.inl rfl) (zah zbb (zah zfM (bpv 7) zad) (bpv 1)))
  (zaf (zaT (zay zdg (zah zbb (bpv 7) zad) zad (zaX _)) (zag (zai (k:=8) za1.nd rfl (Or.inl rfl) (zah zfd (zah zfd (bpv 1) zad) (zah zbb (zah zfM (bpv 7) zad) (zaw (zm0 rfl) rfl T.z_min PyProof.Rows.boot_min (zaa (bpv 1) (zaa zad (zac)))))))) zaB)
  (zag (zbv (zcG qQ jC jD zbl (bpv 6) (zaa (bpv 8) (zac))))))))
  (zag (zap (zax (zaa (bpv 4) (zaa (zcx zhD rfl T.z_tuple PyProof.Rows.boot_tuple (zaa (bpv 6) (zac))) (zac)))))))))))))),?_⟩
 refine ⟨(by show 10≤yL;decide),fun Kd hK=>?_⟩
 have s1:=zae hK (.lst [.str "and",.str "or",.str "odd",.str "not",.str "choose",.str "and",.str "or",.str "zero",.str "one",.str "odd"])
 have eK:(upd H Kd (.lst [.str "and",.str "or",.str "odd",.str "not",.str "choose",.str "and",.str "or",.str "zero",.str "one",.str "odd"])) Kd=some (.lst [.str "and",.str "or",.str "odd",.str "not",.str "choose",.str "and",.str "or",.str "zero",.str "one",.str "odd"]):=zab
 generalize upd H Kd (.lst [.str "and",.str "or",.str "odd",.str "not",.str "choose",.str "and",.str "or",.str "zero",.str "one",.str "odd"])=H1 at s1 eK
 obtain ⟨x,hx,kx⟩:=zoT (c:=row.getD (0:Int).toNat 0 % 10) (by omega) (by omega)
 refine ⟨_,rfl,_,rfl,p,_,_,_,rfl,rfl,s1.seq hS,zce (by decide) (by rw [lr];decide),_,_,rfl,rfl,(by show (0:Int) < 10;decide),Kd,_,_,_,rfl,rfl,.of eK,hx,?_⟩
 obtain ⟨r1,er1⟩:∃ r1,row.getD (1:Int).toNat 0=r1:=⟨_,rfl⟩
 have h20: 2≤2+r1 % 3 * (if (!two)=true then 1 else 0)∧2+r1 % 3 * (if (!two)=true then 1 else 0)≤4:=by
  split <;> omega
 refine ⟨_,rfl,p,_,_,_,rfl,rfl,s1.seq hS,zce (by decide) (by rw [lr];decide),_,_,rfl,rfl,(by show (0:Int) < 3;decide),_,rfl,_,rfl,.inr ⟨_,rfl,_,_,rfl,rfl,.inr (by split <;> exact ⟨by decide,by decide⟩),_,_,rfl,rfl,?_⟩⟩
 rw [er1]
 refine' zpe (C:=fun v=>∃ m:Int,v= .int m∧m=if x="not" then 1 else 2+r1 % 3 * (if (!two)=true then 1 else 0)) (st:=fun v=>[some (.ref p),some (.int wires),some (.bl two),some (.ref Kd),some (.str x),some v,none,none,none]) (H:=H1) (fun rest=>_) _
 rotate_left
 ·refine ⟨_,rfl,rfl,_,rfl,ite2 (fun c=>?_) (fun c=>rest (.int (2+r1 % 3 * (if (!two)=true then 1 else 0))) ⟨_,rfl,(if_neg (fun z=>c (decide_eq_true (congrArg V.str z)))).symm⟩)⟩
  exact rest (.int 1) ⟨_,rfl,(if_pos (V.str.inj (of_decide_eq_true c))).symm⟩
 rintro _ ⟨m1,rfl,e1⟩
 refine' zpe (C:=fun v=>∃ m:Int,v= .int m∧m=if x="choose" then 3 else m1) (st:=fun v=>[some (.ref p),some (.int wires),some (.bl two),some (.ref Kd),some (.str x),some v,none,none,none]) (H:=H1) (fun rest=>_) _
 rotate_left
 ·refine ⟨_,rfl,rfl,_,rfl,ite2 (fun c=>?_) (fun c=>rest (.int m1) ⟨_,rfl,(if_neg (fun z=>c (decide_eq_true (congrArg V.str z)))).symm⟩)⟩
  exact rest (.int 3) ⟨_,rfl,(if_pos (V.str.inj (of_decide_eq_true c))).symm⟩
 rintro _ ⟨m2,rfl,e2⟩
 refine' zpe (C:=fun v=>∃ m:Int,v= .int m∧m=if x="zero"∨x="one" then 0 else m2) (st:=fun v=>[some (.ref p),some (.int wires),some (.bl two),some (.ref Kd),some (.str x),some v,none,none,none]) (H:=H1) (fun rest=>_) _
 rotate_left
 ·refine ⟨_,rfl,rfl,_,rfl,ite2 (fun c=>iteT ?_) (fun c=>⟨_,rfl,rfl,_,rfl,ite2 (fun c2=>?_) (fun c2=>rest (.int m2) ⟨_,rfl,(if_neg (fun z=>z.elim (fun z=>c (decide_eq_true (congrArg V.str z))) (fun z=>c2 (decide_eq_true (congrArg V.str z))))).symm⟩)⟩)⟩
  ·exact rest (.int 0) ⟨_,rfl,(if_pos (.inl (V.str.inj (of_decide_eq_true c)))).symm⟩
  ·exact rest (.int 0) ⟨_,rfl,(if_pos (.inr (V.str.inj (of_decide_eq_true c2)))).symm⟩
 rintro _ ⟨m3,rfl,e3⟩
 obtain ⟨n,rfl,lk⟩:=zoU kx h20 e1 e2 e3
 have n4:=lk.le
 refine ⟨(by show 0≤yL;decide),fun L hL=>?_⟩
 have s2:=s1.upd hL (.lst [])
 refine ⟨_,rfl,_,rfl,_,rfl,_,_,rfl,rfl,_,rfl,p,_,rfl,s2.seq hS,fun S hS2=>?_⟩
 rw [zhn row (by decide) (by omega) (by omega)]
 have s3:=s2.upd hS2 (.lst (((row.drop (2:Int).toNat).take (2+(n:Int) - 2).toNat).map V.int))
 have eL:=zae hS2 (.lst (((row.drop (2:Int).toNat).take (2+(n:Int) - 2).toNat).map V.int)) _ _ (zab (H:=H1) (a:=L) (o:=.lst []))
 have eS:=zab (H:=upd H1 L (.lst [])) (a:=S) (o:=.lst (((row.drop (2:Int).toNat).take (2+(n:Int) - 2).toNat).map V.int))
 obtain ⟨zs,ezs⟩:∃ zs,(row.drop (2:Int).toNat).take (2+(n:Int) - 2).toNat=zs:=⟨_,rfl⟩
 have lz:zs.length=n:=by
  rw [← ezs,yR,jW,lr]
  have:(2:Int).toNat=2:=rfl
  omega
 have bz:∀ z∈zs,0≤z:=fun z hz=>br z (by rw [← ezs] at hz;exact kA (xJ hz))
 rw [ezs] at s3 eL eS ⊢
 generalize upd (upd H1 L (.lst [])) S (.lst (zs.map V.int))=H2 at s3 eL eS
 have hL0:H L=none:=s1.free hL
 refine ⟨S,rfl,⟨_,.of eS⟩,zcn (K:=K) (a:=S) (xs:=zs.map V.int)
  (fun i σ H5=>∃ (ls:List Int) (o7 o8:Option V),σ = [some (.ref p),some (.int wires),some (.bl two),some (.ref Kd),some (.str x),some (.int n),some (.ref L),o7,o8]∧ls.length=i∧(∀ l∈ls,0≤l∧l < wires)∧Same H H5∧H5 S=some (.lst (zs.map V.int))∧S≠L∧H5 L=some (.lst (ls.map V.int)))
  ⟨[],_,_,rfl,rfl,(fun _ z=>nomatch z),s3,eS,(by rintro rfl;rw [zab] at hS2;cases hS2),eL⟩ (fun i σ H5 _ ⟨_,_,_,_,_,_,_,e,_⟩=>.of e) ?_ ?_⟩
 ·rintro i y σ H5 hy ⟨ls,o7,o8,rfl,lls,bl,s5,eS5,SL,eL5⟩
  rw [yE] at hy
  cases hz:zs[i]? with
  | none=>rw [hz] at hy;cases hy
  | some z=>
   rw [hz] at hy
   cases hy
   have z0:=bz z (yI hz)
   have iz:i < zs.length:=(yG.mp hz).1
   have fin:∀ v:Int,0≤v∧v < wires→∀ l∈ls++ [v],0≤l∧l < wires:=fun v hv l hl=>by
    rcases yP.mp hl with hl | hl
    ·exact bl l hl
    ·rw [yF.mp hl];exact hv
   refine ⟨_,rfl,_,_,rfl,rfl,⟨by decide,by decide⟩,_,rfl,_,_,rfl,rfl,(by show 0 < wires;omega),?_⟩
   refine ⟨_,rfl,_,_,rfl,rfl,(by show (0:Int) < 2;decide),rfl,_,rfl,ite2 (fun c=>?_) (fun c=>?_)⟩
   ·refine ⟨_,rfl,_,_,rfl,rfl,_,rfl,_,_,rfl,rfl,⟨by decide,by decide⟩,_,rfl,_,_,rfl,_,_,rfl,rfl,(by show (0:Int) < if (3:Int) < wires then 3 else wires;split <;> omega),_,_,rfl,rfl,?_⟩
    refine ⟨_,rfl,.inl ⟨rfl,_,.of eL5⟩,_,rfl,L,_,_,rfl,rfl,eL5,big (by rw [yA];omega),?_⟩
    refine ⟨ls++ [wires - 1 - z / 2 % (if (3:Int) < wires then 3 else wires)],_,_,rfl,by simp [lls],fin _ ?_,s5.write hL0 _,by rw [zak SL];exact eS5,SL,by rw [zab,yM];rfl⟩
    split
    ·omega
    ·have:=jX (z / 2) (show wires≠0 by omega)
     have:=jI (z / 2) (show 0 < wires by omega)
     omega
   ·refine ⟨_,rfl,.inl ⟨rfl,_,.of eL5⟩,_,rfl,L,_,_,rfl,rfl,eL5,big (by rw [yA];omega),?_⟩
    exact ⟨ls++ [z / 2 % wires],_,_,rfl,by simp [lls],fin _ ⟨jX _ (by omega),jI _ (by omega)⟩,s5.write hL0 _,by rw [zak SL];exact eS5,SL,by rw [zab,yM];rfl⟩
 ·rintro σ H5 ⟨ls,o7,o8,rfl,lls,bl,s5,eS5,SL,eL5⟩
  rw [yA,lz] at lls
  refine ⟨_,rfl,_,rfl,L,_,rfl,.inl ⟨.of eL5,fun T1 h1=>⟨(by show 2≤yL;decide),fun T2 h2=>?_⟩⟩⟩
  have k1:=zae h1 (.tup (ls.map V.int))
  have k2:=zae h2 (.tup [.str x,.ref T1])
  exact q T2 T1 x ls _ ((s5.trans k1).trans k2) ((s5.trans k1).free h2) (s5.free h1) zab (k2 _ _ zab) (by rw [lls];exact lk) bl
theorem zaF:zav ["script","most_inputs","most_gates","most_of_two","first","row","inputs","two","most","cells","gates","cell","wires","outputs","far"] ["script","most_inputs","most_gates","most_of_two"] (zaj zdp):=⟨rfl,rfl,rfl,by decide+kernel,rfl,by decide+kernel,by decide+kernel⟩
theorem ziN (T:Txt K mg t):FnOk P w K mg base CX0 2 t.f_law_works t.fd_law_works ["script","most_inputs","most_gates","most_of_two"] (sp_wk K):=by
 refine T.d_law_works.F.okB zaF (fun vs H Q E h=>?_) (fun cdv A outer s H vs Q E hr h=>?_)
 ·obtain ⟨a,ns,mi,mg,mt,rfl,_⟩:=h
  rfl
 obtain ⟨a,ns,mi,mg',mt,rfl,hS,h63,m1,m6,g20,t20,q⟩:=h
 have hu64:=hr.units
 refine ⟨_,(zaf (zai (k:=4) zaF.nd rfl (Or.inl rfl) (zal (zcW T) (hr.mono (by decide)) rfl T.d_law_cell_at.m T.d_law_cell_at.F.kp T.d_law_cell_at.b .nil zaR (zaa (bpv 0) (zaa zad (zac)))))
  (zaf (zai (k:=5) zaF.nd rfl (Or.inr rfl) (zal (zcT T) (hr.mono (by decide)) rfl T.d_law_numbers.m T.d_law_numbers.F.kp T.d_law_numbers.b .nil zaR (zaa (bpv 4) (zaa zad (zaa zad (zac))))))
  (zaf (zai (k:=6) zaF.nd rfl (Or.inl rfl) (zah zaZ zad (zah zbb (zan zaC (bpv 5) zad (fun _ _=>rfl)) (bpv 1))))
  (zaf (zai (k:=7) zaF.nd rfl (Or.inl rfl) (zfr zdg (zah zbb (zan zaC (bpv 5) zad (fun _ _=>rfl)) zad) zad (zaX _)))
  (zaf (zai (k:=8) zaF.nd rfl (Or.inl rfl) (zan zaC (zat (zaa (bpv 2) (zaa (bpv 3) (zac)))) (zcx zfQ rfl T.z_int yaA (zaa (bpv 7) (zac))) (fun _ _=>rfl)))
  (zaf (zai (k:=9) zaF.nd rfl (Or.inl rfl) (zaK zbX (bpv 0) (zaH zad) (zaH (zah zaZ zad (bpv 8)))))
  (zaf (zaT (zay (op_eqD hu64) (bpv 9) (zat zac) (zaX _)) (zaf (zai (k:=14) zaF.nd rfl (Or.inr rfl) (zah zbb (bpv 4) (zah zg0 zad zad)))
  (zag (zfp (k:=9) rfl (N:=["k","far"]) (n:=1) (cap:=[14]) (zbt rfl rfl) zaF.nd rfl rfl (zaU rfl T.z_range (zaa (zah zbb (zan zaC (bpv 5) zad (fun _ _=>rfl)) (zah zaZ (bpv 8) zad)) (zac))) (zaL (by decide)) (fun _ _ _ _=>(zam (k:=0) (show (["k","far"]:List Str).Nodup by decide+kernel) rfl (Or.inl rfl))) (fun _ _ _ _=>zaI) (fun _ _ _ _=>(zah zaZ (bpv 1) (zah zdN zad (bpv 0)))) rfl))) zaB)
  (zaf (zai (k:=10) zaF.nd rfl (Or.inl rfl) (zat zac))
  (zaf (za4 qV rfl (zaJ (bpv 9)) (zam (k:=11) zaF.nd rfl (Or.inl rfl)) (zag (zbv (zcG qQ jC jD zbl (bpv 10) (zaa (zal (zjm T) (hr.mono (by decide)) rfl T.d_law_gate.m T.d_law_gate.F.kp T.d_law_gate.b .nil zaR (zaa (zal (zcT T) (hr.mono (by decide)) rfl T.d_law_numbers.m T.d_law_numbers.F.kp T.d_law_numbers.b .nil zaR (zaa (bpv 11) (zaa zad (zaa zad (zac))))) (zaa (zah zaZ (bpv 6) (zaw zau rfl T.z_len jJ (zaa (bpv 10) (zac)))) (zaa (bpv 7) (zac))))) (zac))))))
  (zaf (zai (k:=12) zaF.nd rfl (Or.inr rfl) (zah zaZ (bpv 6) (zaw zau rfl T.z_len jJ (zaa (bpv 10) (zac)))))
  (zaf (zfp (k:=13) rfl (N:=["k","wires","row"]) (n:=1) (cap:=[12,5]) (zbt rfl rfl) zaF.nd rfl rfl (zaU rfl T.z_range (zaa (zan zaC (zat (zaa zad (zaa zad (zaa zad (zaa zad (zac)))))) (zah zbb (zan zaC (bpv 5) zad (fun _ _=>rfl)) zad) (fun _ _=>rfl)) (zac))) (zaL (by decide)) (fun _ _ _ _=>(zam (k:=0) (show (["k","wires","row"]:List Str).Nodup by decide+kernel) rfl (Or.inl rfl))) (fun _ _ _ _=>zaI) (fun _ _ _ _=>(zah zfd (zah zfd (bpv 1) zad) (zah zbb (zan (zew (K:=K)) (bpv 2) (zah zaZ zad (bpv 0)) (fun _ _=>rfl)) (bpv 1)))) rfl)
  (zag (zap (zax (zaa (bpv 6) (zaa (bpv 10) (zaa (zah zca (bpv 13) (zaK zbX (bpv 13) zbE (zaH (zcx zfQ rfl T.z_int yaA (zaa (zfr zdg (zah zbb (zah zfM (zan zaC (bpv 5) zad (fun _ _=>rfl)) zad) zad) zad (zaX _)) (zac)))))) (zac)))))))))))))))))),?_⟩
 have pw:∀ i j:Int,i.natAbs < 2 ^ 64→0≤j→j≤1000000→CPow i j:=fun i j a b c=>⟨b,c,a⟩
 refine ⟨_,rfl,a,ns,0,rfl,hS,fun first=>?_⟩
 refine ⟨_,rfl,first,12,60,rfl,by decide,by decide,by decide,fun R row H1 s1 nR eR lr br=>?_⟩
 have b0:∀ i:Nat,0≤row.getD i 0:=fun i=>by
  rw [yK]
  cases e:row[i]? with
  | none=>exact ybN 0
  | some z=>exact (br z (yI e)).1
 have atR:∀ (i:Nat),i < 12→atI (row.map V.int) (i:Int)=some (.int (row.getD i 0)):=fun i hi=>by
  have:=zce (ns:=row) (i:=(i:Int)) (by omega) (by omega)
  simpa using this
 refine ⟨_,rfl,R,_,_,_,rfl,rfl,.of eR,atR 0 (by decide),_,rfl,_,_,rfl,rfl,(by show (0:Int) < (mi:Int);omega),_,_,rfl,rfl,?_⟩
 obtain ⟨inp,einp,i1,i6⟩:∃ inp:Int,1+row.getD 0 0 % (mi:Int)=inp∧1≤inp∧inp≤mi:=by
  have:=jX (row.getD 0 0) (show (mi:Int)≠0 by omega)
  have:=jI (row.getD 0 0) (show 0 < (mi:Int) by omega)
  exact ⟨_,rfl,by omega,by omega⟩
 refine ⟨_,rfl,R,_,_,_,rfl,rfl,.of eR,atR 11 (by decide),_,_,rfl,rfl,(by show (0:Int) < 4;decide),rfl,?_⟩
 obtain ⟨two,etwo⟩:∃ two:Bool,decide (V.int (row.getD 11 0 % 4)=V.int 1)=two:=⟨_,rfl⟩
 refine ⟨_,rfl,_,rfl,(by show 2≤yL;decide),fun L hL=>?_⟩
 have s2:=s1.upd hL (.lst [.int mg',.int mt])
 have eR2:=zae hL (.lst [.int mg',.int mt]) _ _ eR
 obtain ⟨most,emost,hmost⟩:∃ most:Nat,atI [V.int mg',.int mt] (if two=true then 1 else 0)=some (.int most)∧(most=mg'∨most=mt):=by
  cases two
  ·exact ⟨mg',rfl,.inl rfl⟩
  ·exact ⟨mt,rfl,.inr rfl⟩
 refine ⟨_,rfl,.inr ⟨two,congrArg (fun z=>[V.bl z]) etwo,L,_,_,_,rfl,rfl,.of zab,emost,?_⟩⟩
 have most20:most≤20:=by omega
 refine ⟨_,rfl,_,rfl,_,rfl,_,_,rfl,rfl,_,rfl,a,_,rfl,s2.seq hS,fun C hC=>?_⟩
 obtain ⟨cs,ecs,lcs⟩:=zpd ns (m:=most)
 rw [ecs]
 have s3:=s2.upd hC (.lst (cs.map V.int))
 have eR3:=zae hC (.lst (cs.map V.int)) _ _ eR2
 have eC:=zab (H:=upd H1 L (.lst [.int mg',.int mt])) (a:=C) (o:=.lst (cs.map V.int))
 generalize upd (upd H1 L (.lst [.int mg',.int mt])) C (.lst (cs.map V.int))=H3 at s3 eR3 eC
 refine' joinX (α :=Addr×Option V) (C:=fun v H4=>Same H H4∧H4 R=some (.lst (row.map V.int))∧∃ ds:List Int,H4 v.1=some (.lst (ds.map V.int))∧ds.length≤most) (st:=fun v=>[some (.ref a),some (.int mi),some (.int mg'),some (.int mt),some (.int first),some (.ref R),some (.int (1+row.getD 0 0 % (mi:Int))),some (.bl (decide (V.int (row.getD 11 0 % 4)=V.int 1))),some (.int most),some (.ref v.1),none,none,none,none,v.2]) (fun rest=>_) _
 rotate_left
 ·refine ⟨_,rfl,(by show 0≤yL;decide),fun E0 hE0=>?_⟩
  have k4:=zae hE0 (.lst [])
  refine ⟨.list (cs.map Dat.int),.list [],.lst (.of (k4 _ _ eC)) (Reps.ints _),.lst (.of zab) .nil,zm2 _,rfl,fun z=>⟨_,rfl,iteT ?_⟩,fun z=>⟨_,rfl,iteF (rest (C,none) _ ⟨s3.trans k4,k4 _ _ eR3,cs,k4 _ _ eC,lcs⟩)⟩⟩
  have s4:=s3.trans k4
  have eR4:=k4 _ _ eR3
  generalize upd H3 E0 (.lst [])=H4 at s4 eR4
  refine ⟨_,rfl,_,_,rfl,rfl,pw _ _ (by decide) (by decide) (by decide),_,_,rfl,rfl,(by show (0:Int) < 10 ^ (17:Int).toNat;decide),?_⟩
  have e1:=jX (row.getD 1 0) (show (most:Int)+1≠0 by omega)
  have e2:=jI (row.getD 1 0) (show 0 < (most:Int)+1 by omega)
  refine ⟨_,rfl,R,_,_,_,rfl,rfl,.of eR4,atR 1 (by decide),_,rfl,_,_,rfl,rfl,_,_,rfl,rfl,(by show (0:Int) < (most:Int)+1;omega),_,rfl,(by omega),(by omega),fun D hD=>?_⟩
  refine zd2 (fun j H5=>∃ ds:List Int,Same H4 H5∧H5 D=some (.lst (ds.map V.int))∧ds.length=j) ⟨[],zae hD _,zab,rfl⟩ ?_ ?_
  ·rintro j H5 hj ⟨ds,s5,eD,ld⟩
   refine ⟨_,rfl,_,rfl,_,_,rfl,rfl,.inl ⟨by decide,by decide⟩,_,_,rfl,rfl,?_⟩
   exact ⟨_,eD,big (by rw [yA];omega),ds++ [first % 10 ^ (17:Int).toNat+101 * (0+(j:Int))],s5.write hD _,by rw [zab,yM];rfl,by simp [ld]⟩
  ·rintro H5 ⟨ds,s5,eD,ld⟩
   exact rest (D,some (.int (first % 10 ^ (17:Int).toNat))) H5 ⟨s4.trans s5,s5 _ _ eR4,ds,eD,by omega⟩
 rintro ⟨C',far⟩ H4 ⟨s4,eR4,ds,eC4,lds⟩
 rw [einp,etwo]
 refine ⟨(by show 0≤yL;decide),fun g hg=>?_⟩
 have eC5:=zae hg (.lst []) _ _ eC4
 have Cg:C'≠g:=zao eC4 hg
 have Rg:R≠g:=zao eR4 hg
 refine ⟨_,rfl,C',rfl,⟨_,.of eC5⟩,zcn (K:=K) (a:=C') (xs:=ds.map V.int)
  (fun i σ H6=>∃ (G:Hp) (gs:List (Str×List Int)) (vs:List V) (o11:Option V),σ = [some (.ref a),some (.int mi),some (.int mg'),some (.int mt),some (.int first),some (.ref R),some (.int inp),some (.bl two),some (.int most),some (.ref C'),some (.ref g),o11,none,none,far]∧
   Off [g] G H6∧Same H4 G∧H6 g=some (.lst vs)∧Reps K G vs (gs.map zi5)∧gs.length=i∧∀ (k:Nat) gt,gs[k]? =some gt→zbh gt.1 gt.2.length∧∀ l∈gt.2,0≤l∧l < inp+k)
  ⟨H4,[],[],_,rfl,Off.start hg _,Same.refl _,zab,.nil,rfl,(fun k gt e=>by simp at e)⟩ (fun i σ H6 _ ⟨_,_,_,_,_,o,s,_⟩=>.of ((s.trans o.same) _ _ eC4)) ?_ ?_⟩
 ·rintro i y σ H6 hy ⟨G,gs,vs,o11,rfl,off,sG,eg,rgs,lgs,gd⟩
  rw [yE] at hy
  cases hz:ds[i]? with
  | none=>rw [hz] at hy;cases hy
  | some z=>
   rw [hz] at hy
   cases hy
   have iz:i < ds.length:=(yG.mp hz).1
   have lv:vs.length=i:=by rw [rgs.length,yA,lgs]
   refine ⟨_,rfl,.inl ⟨rfl,_,.of eg⟩,_,rfl,z,6,60,rfl,by decide,by decide,by decide,fun P rowp H7 s7 nP eP lp bp=>?_⟩
   have eg7:=s7 _ _ eg
   refine ⟨_,rfl,_,rfl,g,_,rfl,.inl (.of eg7),_,_,rfl,rfl,_,rfl,P,rowp,_,two,rfl,.of eP,lp,fun z hz=>(bp z hz).1,(by omega),(by omega),fun r la x ls H8 s8 nr nla er ela lk bl=>?_⟩
   have s68:=s7.trans s8
   have of8:=off.grow s68
   have nla6:H6 la=none:=s7.free nla
   have nr6:H6 r=none:=s7.free nr
   obtain ⟨of9,k9⟩:=of8.take ela (off.ne nla6)
   obtain ⟨ofa,ka⟩:=of9.take er (off.ne nr6)
   refine ⟨g,vs,_,rfl,rfl,s68 _ _ eg,big (by omega),_,gs++ [(x,ls)],vs++ [.ref r],_,rfl,ofa.write (.head _) _,sG.trans (k9.trans ka),zab,?_,by simp [lgs],fun k gt e=>?_⟩
   ·rw [yM]
    exact (rgs.mono (k9.trans ka)).snoc (.tup (.of zab) (.cons (.str x) (.cons (Rep.tup (.of (ka _ _ zab)) (Reps.ints ls)) .nil)))
   ·by_cases hk:k < gs.length
    ·rw [qY hk] at e
     exact gd k gt e
    ·have hk2:k=gs.length:=by
      have:=(yG.mp e).1
      simp at this
      omega
     subst hk2
     rw [qR (yN _),yaf] at e
     cases e
     refine ⟨lk,fun l hl=>?_⟩
     have:=bl l hl
     rw [lv] at this
     show 0≤l∧l < inp+((gs.length:Nat):Int)
     omega
 rintro σ H6 ⟨G,gs,vs,o11,rfl,off,sG,eg,rgs,lgs,gd⟩
 rw [yA] at lgs
 have lv:vs.length=gs.length:=by rw [rgs.length,yA]
 have of7:=off.close eg (fun z=>nomatch z)
 have kG:=off.cadd (.lst vs)
 have gg:(upd G g (.lst vs)) g=some (.lst vs):=zab
 have sG7:=sG.trans kG
 have rgs7:=rgs.mono kG
 generalize upd G g (.lst vs)=G7 at of7 kG gg sG7 rgs7
 have s6:=of7.same
 have eR6:=(sG7.trans s6) _ _ eR4
 refine ⟨_,rfl,_,rfl,g,_,rfl,.inl (.of eg),_,_,rfl,rfl,?_⟩
 refine ⟨(by show 4≤yL;decide),fun L2 hL2=>?_⟩
 have k7:=zae hL2 (.lst [.int 1,.int 2,.int 3,.int 7])
 obtain ⟨m,em,hm1,hm7⟩:∃ m:Nat,atI [V.int 1,.int 2,.int 3,.int 7] (row.getD 2 0 % 4)=some (.int m)∧1≤m∧m≤7:=by
  have h5:row.getD 2 0 % 4=0∨row.getD 2 0 % 4=1∨row.getD 2 0 % 4=2∨row.getD 2 0 % 4=3:=by omega
  rcases h5 with e | e | e | e <;> rw [e]
  ·exact ⟨1,rfl,by decide,by decide⟩
  ·exact ⟨2,rfl,by decide,by decide⟩
  ·exact ⟨3,rfl,by decide,by decide⟩
  ·exact ⟨7,rfl,by decide,by decide⟩
 refine ⟨_,rfl,R,_,_,_,rfl,rfl,.of (k7 _ _ eR6),atR 2 (by decide),_,_,rfl,rfl,(by show (0:Int) < 4;decide),L2,_,_,_,rfl,rfl,.of zab,em,_,rfl,by omega,by omega,fun D hD=>?_⟩
 have eR7:=k7 _ _ eR6
 have s7:=s6.trans k7
 generalize upd H6 L2 (.lst [.int 1,.int 2,.int 3,.int 7])=H7 at k7 eR7 s7 hD
 refine zd2 (fun j H8=>∃ os:List Int,Same H7 H8∧H8 D=some (.lst (os.map V.int))∧os.length=j∧∀ o∈os,0≤o∧o < inp+(gs.length:Int)) ⟨[],zae hD _,zab,rfl,fun _ z=>nomatch z⟩ ?_ ?_
 ·rintro j H8 hj ⟨os,s8,eD,lo,bo⟩
  have hj2:j < m:=by omega
  have at3:atI (row.map V.int) ((3:Int)+(0+(j:Int)))=some (.int (row.getD (3+j) 0)):=by
   have e:(3:Int)+(0+(j:Int))=((3+j:Nat):Int):=by omega
   rw [e]
   exact atR (3+j) (by omega)
  refine ⟨_,rfl,_,_,rfl,rfl,_,rfl,_,rfl,_,_,rfl,rfl,R,_,_,_,rfl,rfl,.of (s8 _ _ eR7),at3,_,rfl,_,_,rfl,rfl,(by show (0:Int) < inp+((vs.length:Nat):Int);omega),_,_,rfl,rfl,?_⟩
  ·refine ⟨_,eD,big (by rw [yA];omega),os++ [inp+((vs.length:Nat):Int) - 1 - row.getD (3+j) 0 % (inp+((vs.length:Nat):Int))],s8.write hD _,by rw [zab,yM];rfl,by simp [lo],fun o ho=>?_⟩
   rcases yP.mp ho with ho | ho
   ·exact bo o ho
   ·rw [yF.mp ho,lv]
    have:=jX (row.getD (3+j) 0) (show inp+(gs.length:Int)≠0 by omega)
    have:=jI (row.getD (3+j) 0) (show 0 < inp+(gs.length:Int) by omega)
    omega
 rintro H8 ⟨os,s8,eD,lo,bo⟩
 have eR8:=s8 _ _ eR7
 refine ⟨_,rfl,_,rfl,_,rfl,_,rfl,_,rfl,R,_,_,_,rfl,rfl,.of eR8,atR 2 (by decide),_,_,rfl,rfl,⟨by decide,by decide⟩,_,_,rfl,rfl,(by show (0:Int) < 4;decide),rfl,.inr ⟨decide (V.int (row.getD 2 0 / 4 % 4)=V.int 1),rfl,_,rfl,D,_,rfl,.of eD,fun S hS2=>?_⟩⟩
 obtain ⟨ms,ems,lms,bms⟩:∃ ms:List Int,cutV (os.map V.int) none (some (if decide (V.int (row.getD 2 0 / 4 % 4)=V.int 1)=true then 1 else 0))=ms.map V.int∧ms.length≤1∧∀ o∈ms,o∈os:=by
  split
  ·refine ⟨os.take 1,?_,by rw [yR];omega,fun o ho=>xJ ho⟩
   have:=zjF (os.map V.int) (k:=1) (by rw [yA];omega)
   rw [wB]
   exact this
  ·refine ⟨[],?_,by decide,fun o ho=>nomatch ho⟩
   exact zjF (os.map V.int) (k:=0) (by omega)
 rw [ems]
 have k9:=zae hS2 (.lst (ms.map V.int))
 refine ⟨D,S,_,_,rfl,rfl,k9 _ _ eD,zab,bigE (by rw [yA,yA];omega),fun O hO=>?_⟩
 have ka:=zae hO (.lst (os.map V.int++ms.map V.int))
 refine ⟨(by show 3≤yL;decide),fun r hr2=>?_⟩
 have kb:=zae hr2 (.tup [.int inp,.ref g,.ref O])
 have sA:Same H7 (upd (upd (upd H8 S (.lst (ms.map V.int))) O (.lst (os.map V.int++ms.map V.int))) r (.tup [.int inp,.ref g,.ref O])):=((s8.trans k9).trans ka).trans kb
 have sB:=s7.trans sA
 refine q r ⟨inp,gs,os++ms⟩ _ (s4.trans (sG7.trans sB)) (.tup (.of zab) (.cons (.int _) (.cons (.lst (.of (sB _ _ gg)) (rgs7.mono sB)) (.cons (.lst (.of (kb _ _ zab)) ?_) .nil)))) ⟨i1,(by show inp≤6;omega),(by show gs.length≤20;omega),gd,(by show 1≤(os++ms).length;rw [yJ];omega),(by show (os++ms).length≤20+20;rw [yJ];omega),fun o ho=>?_⟩ i6 ?_ (by show (os++ms).length≤8;rw [yJ];omega)
 ·rw [← yM]
  exact Reps.ints _
 ·rcases yP.mp ho with ho | ho
  ·exact bo o ho
  ·exact bo o (bms o ho)
 ·rcases hmost with e | e
  ·exact .inl (by show gs.length≤mg';omega)
  ·exact .inr (by show gs.length≤mt;omega)
theorem zaD:zav ["works","found","wire","number","inputs","gates","outputs","place"] ["works"] (zaj zbA):=⟨rfl,rfl,rfl,by decide+kernel,rfl,by decide+kernel,by decide+kernel⟩
theorem zk7 {m:Nat}{w:zaA}(h:WF m w)(k:Nat):(zd8 (w.ins.toNat+w.gates.length)++zdS w.gates k).length≤2 * (w.ins.toNat+w.gates.length)+8 * k:=by
 rw [yJ,zd4]
 have:=zgI h k
 omega
theorem zcD (T:Txt K mg t):FnOk P w K mg base CX0 1 t.f_law_every_fault t.fd_law_every_fault ["works"] (sp_lef K):=by
 refine T.d_law_every_fault.F.okB zaD (fun vs H Q E h=>?_) (fun cdv A outer s H vs Q E hr h=>?_)
 ·obtain ⟨x,w,rfl,_⟩:=h
  rfl
 obtain ⟨x,w,rfl,hx,wf,q⟩:=h
 obtain ⟨a,ga,oa,gs,os,rfl,ha,hg,ho,rg,ro⟩:=zbs hx
 have lg:gs.length=w.gates.length:=by rw [rg.length,yA]
 have i1:=wf.i1
 have i6:=wf.i6
 have few:=wf.few
 refine ⟨_,(zaf (zpu (bpv 0) (zeW rfl (zaz (zam (k:=4) zaD.nd rfl (Or.inl rfl)) (zaz (zam (k:=5) zaD.nd rfl (Or.inl rfl)) (zaz (zam (k:=6) zaD.nd rfl (Or.inl rfl)) zbH)))))
  (zaf (zai (k:=1) zaD.nd rfl (Or.inl rfl) (zat zac))
  (zaf (za4 qV rfl (zaU rfl T.z_range (zaa (zah zaZ (bpv 4) (zaw zau rfl T.z_len jJ (zaa (bpv 5) (zac)))) (zac))) (zam (k:=2) zaD.nd rfl (Or.inl rfl)) (zag (zbv (zcG qQ yah yai zgt (bpv 1) (zaa (zat (zaa (zax (zaa zar (zaa (bpv 2) (zaa zad (zac))))) (zaa (zax (zaa zar (zaa (bpv 2) (zaa zad (zac))))) (zac)))) (zac))))))
  (zaf (za4 qV rfl (zaU rfl T.z_range (zaa (zaw zau rfl T.z_len jJ (zaa (bpv 5) (zac))) (zac))) (zam (k:=3) zaD.nd rfl (Or.inl rfl)) (zag (za4 qV rfl (zaU rfl T.z_range (zaa (zaw zau rfl T.z_len jJ (zaa (zan zaM (zan zaC (bpv 5) (bpv 3) (fun _ _=>rfl)) zad (fun _ _=>rfl)) (zac))) (zac))) (zam (k:=7) zaD.nd rfl (Or.inl rfl)) (zag (zbv (zcG qQ yah yai zgt (bpv 1) (zaa (zat (zaa (zax (zaa zar (zaa (bpv 3) (zaa (bpv 7) (zaa zad (zac)))))) (zaa (zax (zaa zar (zaa (bpv 3) (zaa (bpv 7) (zaa zad (zac)))))) (zac)))) (zac))))))))
  (zag (zap (bpv 1))))))),?_⟩
 refine ⟨_,rfl,a,_,rfl,ha,rfl,_,_,rfl,_,_,rfl,_,_,rfl,rfl,(by show 0≤yL;decide),fun f hf=>?_⟩
 have push:∀ {G H2:Hp} {xs:List V} {ds:List Dat} {T1 T2 B:Addr} {u v:List V} {du dv:List Dat},Off [f] G H2→Same H G→H2 f=some (.lst xs)→Reps K G xs ds→H2 T1=none→(upd H2 T1 (.tup u)) T2=none→(upd (upd H2 T1 (.tup u)) T2 (.tup v)) B=none→(∀ Z,Reps K Z u du)→(∀ Z,Reps K Z v dv)→
   (upd (upd (upd H2 T1 (.tup u)) T2 (.tup v)) B (.lst [.ref T1,.ref T2])) f=some (.lst xs)∧∃ G',Off [f] G' (upd (upd (upd (upd H2 T1 (.tup u)) T2 (.tup v)) B (.lst [.ref T1,.ref T2])) f (.lst (xs++ [.ref T1,.ref T2])))∧Same H G'∧Reps K G' (xs++ [.ref T1,.ref T2]) (ds++ [.tuple du,.tuple dv]):=by
  intro G H2 xs ds T1 T2 B u v du dv off sG ef rs h1 h2 hB ru rv
  have of1:=off.lay h1 (.tup u)
  have k1:=off.add h1 (.tup u)
  have of2:=of1.lay h2 (.tup v)
  have k2:=of1.add h2 (.tup v)
  have of3:=of2.new hB (.lst [.ref T1,.ref T2])
  refine ⟨((zae h1 _).trans ((zae h2 _).trans (zae hB _))) _ _ ef,_,of3.write (.head _) _,sG.trans (k1.trans k2),?_⟩
  exact (rs.mono (k1.trans k2)).append (.cons (.tup (.of (k2 _ _ zab)) (ru _)) (.cons (.tup (.of zab) (rv _)) .nil))
 refine ⟨_,rfl,_,rfl,ga,_,rfl,.inl ((zae hf _).seq hg),_,_,rfl,rfl,_,rfl,by omega,by omega,?_⟩
 refine zbR (fun i σ H2=>∃ (G:Hp) (xs:List V) (o2:Option V),σ = [some (.ref a),some (.ref f),o2,none,some (.int w.ins),some (.ref ga),some (.ref oa),none]∧Off [f] G H2∧Same H G∧H2 f=some (.lst xs)∧Reps K G xs (zd8 i)) ⟨H,[],_,rfl,Off.start hf _,Same.refl _,zab,.nil⟩ ?_ ?_
 ·rintro i σ H2 hi ⟨G,xs,o2,rfl,off,sG,ef,rs⟩
  rw [vX]
  have lx:=rs.length
  rw [zd4] at lx
  refine ⟨_,rfl,.inl ⟨rfl,_,.of ef⟩,_,rfl,(by show 3≤yL;decide),fun T1 h1=>⟨_,rfl,(by show 3≤yL;decide),fun T2 h2=>⟨(by show 2≤yL;decide),fun B hB=>?_⟩⟩⟩
  obtain ⟨e5,G',o',s',r'⟩:=push (du:=[.str "wire",.int i,.int 0]) (dv:=[.str "wire",.int i,.int 1]) off sG ef rs h1 h2 hB (fun _=>.cons (.str _) (.cons (.int _) (.cons (.int _) .nil))) (fun _=>.cons (.str _) (.cons (.int _) (.cons (.int _) .nil)))
  exact ⟨f,B,_,_,rfl,rfl,e5,zab,bigE (by simp;omega),G',_,_,rfl,o',s',zab,r'⟩
 rintro σ H2 ⟨G,xs,o2,rfl,off,sG,ef,rs⟩
 have e2:(w.ins+(gs.length:Int)).toNat=w.ins.toNat+w.gates.length:=by omega
 rw [e2] at rs
 refine ⟨_,rfl,ga,_,rfl,.inl ((sG.trans off.same).seq hg),_,rfl,by omega,by omega,?_⟩
 refine zbR (fun k σ H3=>∃ (G:Hp) (xs:List V) (o3 o7:Option V),σ = [some (.ref a),some (.ref f),o2,o3,some (.int w.ins),some (.ref ga),some (.ref oa),o7]∧Off [f] G H3∧Same H G∧H3 f=some (.lst xs)∧Reps K G xs (zd8 (w.ins.toNat+w.gates.length)++zdS w.gates k)) ⟨G,xs,_,_,rfl,off,sG,ef,by simpa [zdS] using rs⟩ ?_ ?_
 ·rintro k σ H3 hk ⟨G3,xs3,o3,o7,rfl,off3,sG3,ef3,rs3⟩
  rw [vX]
  have hk':k < w.gates.length:=by omega
  obtain ⟨g,hgk⟩:∃ g,w.gates[k]? =some g:=⟨_,yC hk'⟩
  obtain ⟨v,hv,rv⟩:=rg.getD (i:=k) (d:=zi5 g) (by rw [yE,hgk];rfl)
  obtain ⟨a1,la,rfl,h1,h2⟩:=zfW rv
  have lk:=(wf.legs k g hgk).1.le
  have fk:=zk7 wf k
  have sH3:=sG3.trans off3.same
  refine ⟨_,rfl,_,rfl,ga,_,_,_,rfl,rfl,sH3.seq hg,zcf hv,a1,_,_,_,rfl,rfl,sH3.seqT h1,rfl,la,_,rfl,.inr (sH3.seqT h2),_,rfl,by omega,by rw [yA];omega,?_⟩
  refine zbR (fun j σ H4=>∃ (G:Hp) (xs:List V) (o7:Option V),σ = [some (.ref a),some (.ref f),o2,some (.int k),some (.int w.ins),some (.ref ga),some (.ref oa),o7]∧Off [f] G H4∧Same H G∧H4 f=some (.lst xs)∧Reps K G xs (zd8 (w.ins.toNat+w.gates.length)++zdS w.gates k++zhs k j)) ⟨G3,xs3,_,rfl,off3,sG3,ef3,by simpa [zhs] using rs3⟩ ?_ ?_
  ·rintro j σ H4 hj ⟨G4,xs4,o7',rfl,off4,sG4,ef4,rs4⟩
   rw [vX]
   rw [yA] at hj
   have lx:=rs4.length
   rw [yJ,zfB] at lx
   refine ⟨_,rfl,.inl ⟨rfl,_,.of ef4⟩,_,rfl,_,rfl,(by show 4≤yL;decide),fun T1 h1=>⟨_,rfl,_,rfl,(by show 4≤yL;decide),fun T2 h2=>⟨(by show 2≤yL;decide),fun B hB=>?_⟩⟩⟩
   obtain ⟨e5,G',o',s',r'⟩:=push (du:=[.str "leg",.int k,.int j,.int 0]) (dv:=[.str "leg",.int k,.int j,.int 1]) off4 sG4 ef4 rs4 h1 h2 hB (fun _=>.cons (.str _) (.cons (.int _) (.cons (.int _) (.cons (.int _) .nil)))) (fun _=>.cons (.str _) (.cons (.int _) (.cons (.int _) (.cons (.int _) .nil))))
   refine ⟨f,B,_,_,rfl,rfl,e5,zab,bigE (by simp;omega),G',_,_,rfl,o',s',zab,?_⟩
   rw [zhs,← jH]
   exact r'
  ·rintro σ H4 ⟨G4,xs4,o7',rfl,off4,sG4,ef4,rs4⟩
   have e3:((g.2.map V.int).length:Int).toNat=g.2.length:=by rw [yA];omega
   rw [e3] at rs4
   exact ⟨G4,xs4,_,_,rfl,off4,sG4,ef4,by simpa [zdS,hgk,jH] using rs4⟩
 ·rintro σ H3 ⟨G3,xs3,o3,o7,rfl,off3,sG3,ef3,rs3⟩
  have e4:((gs.length:Nat):Int).toNat=w.gates.length:=by omega
  rw [e4] at rs3
  exact ⟨_,rfl,q f xs3 H3 (sG3.trans off3.same) hf ef3 (rs3.mono off3.same)⟩
theorem za7:zav ["works","row","every","found","number","fault"] ["works","row"] (zaj zbD):=⟨rfl,rfl,rfl,by decide+kernel,rfl,by decide+kernel,by decide+kernel⟩
theorem zkv {m:Nat}{w:zaA}(h:WF m w): 0 < (zbI w).length:=by
 have i1:=h.i1
 unfold zbI
 rw [yJ,zd4]
 omega
theorem zkF {w:zaA}{d:Dat}(h:d∈zbI w):∃ f,d=fltD f∧zd7 w f:=by
 have h0:=h
 rw [← zcd,← zfY] at h
 unfold zdO at h
 obtain ⟨p,hp,hm⟩:=wD.mp h
 obtain ⟨q,hq,rfl⟩:=yS.mp hp
 rcases yO.mp hm with e | hm
 ·exact ⟨⟨q,0⟩,e,hq,.inl rfl⟩
 ·rcases yO.mp hm with e | hm
  ·exact ⟨⟨q,1⟩,e,hq,.inr rfl⟩
  ·exact nomatch hm
theorem zeC (T:Txt K mg t):FnOk P w K mg base CX0 2 t.f_law_some_faults t.fd_law_some_faults ["works","row"] (sp_sf K):=by
 refine T.d_law_some_faults.F.okB za7 (fun vs H Q E h=>?_) (fun cdv A outer s H vs Q E hr h=>?_)
 ·obtain ⟨x,p,w,row,rfl,_⟩:=h
  rfl
 obtain ⟨x,p,w,row,rfl,hx,wf,hS,lr,br,q⟩:=h
 have hu64:=hr.units
 refine ⟨_,(zaf (zai (k:=2) za7.nd rfl (Or.inl rfl) (zal (zcD T) (hr.mono (by decide)) rfl T.d_law_every_fault.m T.d_law_every_fault.F.kp T.d_law_every_fault.b .nil zaR (zaa (bpv 0) (zac))))
  (zaf (zai (k:=3) za7.nd rfl (Or.inl rfl) (zat zac))
  (zaf (za4 qV rfl (zaJ (zaK zbX (bpv 1) (zaH zad) (zaH (zah zaZ zad (zan zaC (zat (zaa zad (zaa zad (zaa zad (zaa zad (zaa zad (zaa zad (zaa zad (zac))))))))) (zah zbb (zan zaC (bpv 1) zad (fun _ _=>rfl)) zad) (fun _ _=>rfl)))))) (zam (k:=4) za7.nd rfl (Or.inl rfl)) (zaf (zai (k:=5) za7.nd rfl (Or.inl rfl) (zan zaC (bpv 2) (zah zbb (bpv 4) (zaw zau rfl T.z_len jJ (zaa (bpv 2) (zac)))) (fun _ _=>rfl)))
  (zag (zaT (zay (ziA hu64) (zaK zj7 (bpv 5) zbE (zaH (zdx zdy zad))) (zaO rfl (N:=["one"]) (n:=1) (cap:=[]) (zbt rfl rfl) (zaJ (bpv 3)) (zaL (by decide)) (fun _ _ _ _=>(zam (k:=0) (show (["one"]:List Str).Nodup by decide+kernel) rfl (Or.inl rfl))) (fun _ _ _ _=>zaI) (fun _ _ _ _=>(zaK (zmI (K:=K)) (bpv 0) zbE (zaH (zdx zdy zad))))) rfl) (zag (zbv (zcG qQ jC jD zbl (bpv 3) (zaa (bpv 5) (zac))))) zaB))))
  (zag (zap (bpv 3)))))),?_⟩
 refine ⟨_,rfl,x,w,rfl,hx,wf,fun ev xs H1 s1 nev eev rev=>?_⟩
 have lev:xs.length=(zbI w).length:=rev.length
 have ne:=zkv wf
 refine ⟨(by show 0≤yL;decide),fun F hF=>?_⟩
 have kF:=zae hF (.lst [])
 have eF0:=zab (H:=H1) (a:=F) (o:=.lst [])
 have eev2:=kF _ _ eev
 have s2:=s1.trans kF
 have evF:ev≠F:=zao eev hF
 have ofF:=Off.start hF (.lst [])
 generalize upd H1 F (.lst [])=H2 at kF eF0 eev2 s2 ofF
 refine ⟨_,rfl,_,rfl,(by show 7≤yL;decide),fun L hL=>?_⟩
 have kL:=zae hL (.lst [.int 1,.int 1,.int 1,.int 2,.int 3,.int 0,.int 8])
 have at0:atI (row.map V.int) 0=some (.int (row.getD (0:Int).toNat 0)):=zce (by decide) (by rw [lr];decide)
 obtain ⟨m,em,hm8⟩:∃ m:Nat,atI [V.int 1,.int 1,.int 1,.int 2,.int 3,.int 0,.int 8] (row.getD (0:Int).toNat 0 % 7)=some (.int m)∧m≤8:=by
  have h5:row.getD (0:Int).toNat 0 % 7=0∨row.getD (0:Int).toNat 0 % 7=1∨row.getD (0:Int).toNat 0 % 7=2∨row.getD (0:Int).toNat 0 % 7=3∨row.getD (0:Int).toNat 0 % 7=4∨row.getD (0:Int).toNat 0 % 7=5∨row.getD (0:Int).toNat 0 % 7=6:=by omega
  rcases h5 with e | e | e | e | e | e | e <;> rw [e]
  ·exact ⟨1,rfl,by decide⟩
  ·exact ⟨1,rfl,by decide⟩
  ·exact ⟨1,rfl,by decide⟩
  ·exact ⟨2,rfl,by decide⟩
  ·exact ⟨3,rfl,by decide⟩
  ·exact ⟨0,rfl,by decide⟩
  ·exact ⟨8,rfl,by decide⟩
 refine ⟨_,rfl,p,_,_,_,rfl,rfl,(s2.trans kL).seq hS,at0,_,_,rfl,rfl,(by show (0:Int) < 7;decide),L,_,_,_,rfl,rfl,.of zab,em,_,_,rfl,rfl,_,rfl,p,_,rfl,(s2.trans kL).seq hS,fun S hS2=>?_⟩
 rw [zhn row (by decide) (by omega) (by omega)]
 obtain ⟨zs,ezs⟩:∃ zs,(row.drop (1:Int).toNat).take (1+(m:Int) - 1).toNat=zs:=⟨_,rfl⟩
 have lz:zs.length≤8:=by
  rw [← ezs,yR]
  omega
 have bz:∀ z∈zs,0≤z:=fun z hz=>br z (by rw [← ezs] at hz;exact kA (xJ hz))
 rw [ezs]
 have kS:=zae hS2 (.lst (zs.map V.int))
 have k2S:=kL.trans kS
 have eS:=zab (H:=upd H2 L (.lst [.int 1,.int 1,.int 1,.int 2,.int 3,.int 0,.int 8])) (a:=S) (o:=.lst (zs.map V.int))
 have of3:=ofF.grow k2S
 have eF3:=k2S _ _ eF0
 have SF:S≠F:=xU (zao (kL _ _ eF0) hS2)
 generalize upd (upd H2 L (.lst [.int 1,.int 1,.int 1,.int 2,.int 3,.int 0,.int 8])) S (.lst (zs.map V.int))=H3 at kS k2S eS of3 eF3
 refine ⟨S,rfl,⟨_,.of eS⟩,zcn (K:=K) (a:=S) (xs:=zs.map V.int)
  (fun i σ H5=>∃ (fs:List Flt) (vs:List V) (o4 o5:Option V),σ = [some x,some (.ref p),some (.ref ev),some (.ref F),o4,o5]∧Off [F] H1 H5∧H5 S=some (.lst (zs.map V.int))∧H5 F=some (.lst vs)∧Reps K H1 vs (fs.map fltD)∧(∀ f∈fs,zd7 w f)∧zcq fs∧fs.length≤i)
  ⟨[],[],_,_,rfl,of3,eS,eF3,.nil,(fun _ z=>nomatch z),xG,yN _⟩ (fun i σ H5 _ ⟨_,_,_,_,_,_,e,_⟩=>.of e) ?_ ?_⟩
 ·rintro i y σ H5 hy ⟨fs,vs,o4,o5,rfl,of5,eS5,eF5,rvs,gd,ap,lf⟩
  rw [yE] at hy
  cases hz:zs[i]? with
  | none=>rw [hz] at hy;cases hy
  | some z=>
   rw [hz] at hy
   cases hy
   have z0:=bz z (yI hz)
   have iz:i < zs.length:=(yG.mp hz).1
   have e0:=jX z (show (xs.length:Int)≠0 by omega)
   have e1:=jI z (show 0 < (xs.length:Int) by omega)
   obtain ⟨k,ek,hk⟩:∃ k:Nat,z % (xs.length:Int)=k∧k < xs.length:=⟨(z % (xs.length:Int)).toNat,by omega,by omega⟩
   obtain ⟨v,hv⟩:∃ v,xs[k]? =some v:=⟨_,yC hk⟩
   obtain ⟨dd,hdd,rv⟩:=rev.get hv
   obtain ⟨f,rfl,gf⟩:=zkF (yI hdd)
   obtain ⟨fa1,rfl,hf⟩:=zgm rv
   have s15:=of5.same
   refine ⟨_,rfl,_,rfl,_,rfl,ev,_,rfl,.inl (.of (s15 _ _ eev)),_,_,rfl,rfl,(by show 0 < (xs.length:Int);omega),ev,_,_,_,rfl,rfl,.of (s15 _ _ eev),(by rw [ek];exact zcf hv),?_⟩
   refine ⟨_,rfl,_,rfl,_,rfl,fa1,_,rfl,s15.seqT hf,zeK _ _,fun T1 h1=>?_⟩
   rw [show (-(1:Int))= -1 from rfl,zdT]
   have of6:=of5.new h1 (.tup (f.place.map kV))
   have k6:=zae h1 (.tup (f.place.map kV))
   have eF6:=k6 _ _ eF5
   have eT6:=zab (H:=H5) (a:=T1) (o:=.tup (f.place.map kV))
   generalize upd H5 T1 (.tup (f.place.map kV))=H6 at of6 k6 eF6 eT6
   have lv:vs.length=fs.length:=by rw [rvs.length,yA]
   refine ⟨_,rfl,F,rfl,⟨_,.of eF6⟩,fun D hD=>za0 (K:=K) (a:=F) (xs:=vs)
    (fun j H7=>∃ us:List V,Same H6 H7∧Off [D] H6 H7∧H7 D=some (.lst us)∧∃ G7,Same H6 G7∧Off [D] G7 H7∧Reps K G7 us ((fs.take j).map fun f=>Dat.tuple (f.place.map kD)))
    ⟨[],zae hD _,Off.start hD _,zab,H6,Same.refl _,Off.start hD _,.nil⟩ (fun j H7 _ ⟨_,s7,_⟩=>.of (s7 _ _ eF6)) ?_ ?_⟩
   ·rintro j u H7 hu ⟨us,s7,of7,eD,G7,sG7,oG7,rus⟩
    obtain ⟨dd2,hdd2,rv2⟩:=rvs.get hu
    rw [yE] at hdd2
    cases hz2:fs[j]? with
    | none=>rw [hz2] at hdd2;cases hdd2
    | some f2=>
     rw [hz2] at hdd2
     cases hdd2
     obtain ⟨fa2,rfl,hf2⟩:=zgm rv2
     have s17:=(of6.same.trans s7)
     refine ⟨_,rfl,_,rfl,_,rfl,fa2,_,rfl,s17.seqT hf2,zeK _ _,fun T3 h3=>?_⟩
     rw [show (-(1:Int))= -1 from rfl,zdT]
     have k8:=zae h3 (.tup (f2.place.map kV))
     have lu:us.length=(fs.take j).length:=by rw [rus.length,yA]
     have lj:j < fs.length:=(yG.mp hz2).1
     rw [yR] at lu
     refine ⟨us,k8 _ _ eD,big (by omega),us++ [.ref T3],(s7.trans k8).write hD _,(of7.new h3 _).write (.head _) _,zab,upd G7 T3 (.tup (f2.place.map kV)),sG7.trans (oG7.add h3 _),(oG7.lay h3 _).write (.head _) _,?_⟩
     have et:fs.take (j+1)=fs.take j++ [f2]:=by rw [yV,hz2];rfl
     rw [et,yM]
     exact (rus.mono (oG7.add h3 _)).snoc (.tup (.of zab) (zdZ f2.place))
   rintro H7 ⟨us,s7,of7,eD,G7,sG7,oG7,rus⟩
   rw [lv,qB] at rus
   have s17:=of6.same.trans s7
   have okp:∀ e∈fs.map (fun f:Flt=>Dat.tuple (f.place.map kD)),kqdOk 8 e=true:=fun e he=>by
    obtain ⟨f2,hf2,rfl⟩:=yS.mp he
    exact zjW (gd f2 hf2) 7
   have of7':=(of5.grow ((k6).trans s7))
   have eF7:=s7 _ _ eF6
   have eS7:=(k6.trans s7) _ _ eS5
   refine ⟨.tuple (f.place.map kD),fs.map (fun f:Flt=>Dat.tuple (f.place.map kD)),.tup (.of (s7 _ _ eT6)) (zdZ f.place),.lst (.of eD) (rus.mono oG7.same),zjW gf 7,okp,fun mf=>⟨_,rfl,iteF ?_⟩,fun mf=>⟨_,rfl,iteT ?_⟩⟩
   ·exact ⟨fs,vs,_,_,rfl,of7',eS7,eF7,rvs,gd,ap,by omega⟩
   ·refine ⟨_,rfl,.inl ⟨rfl,_,.of eF7⟩,_,rfl,F,_,_,rfl,rfl,eF7,big (by omega),?_⟩
    refine ⟨fs++ [f],vs++ [.ref fa1],_,_,rfl,of7'.write (.head _) _,by rw [zak SF];exact eS7,zab,?_,fun g hg=>?_,?_,by simp;omega⟩
    ·rw [yM]
     exact rvs.snoc (zbY hf)
    ·rcases yP.mp hg with hg | hg
     ·exact gd g hg
     ·rw [yF.mp hg];exact gf
    ·refine zg7 ap (zi1 fun z=>mf ?_)
     obtain ⟨g,hg,e⟩:=yS.mp z
     exact yS.mpr ⟨g,hg,by rw [e]⟩
 ·rintro σ H5 ⟨fs,vs,o4,o5,rfl,of5,eS5,eF5,rvs,gd,ap,lf⟩
  rw [yA] at lf
  exact ⟨_,rfl,q F fs H5 (s1.trans of5.same) (s1.free hF) ⟨.lst (.of eF5) (rvs.mono of5.same),gd,ap,by omega⟩⟩
theorem zaW:zav ["inputs","worths","ones","place","behind"] ["inputs"] (zaj zb2):=⟨rfl,rfl,rfl,by decide+kernel,rfl,by decide+kernel,by decide+kernel⟩
theorem zgn (T:Txt K mg t):FnOk P w K mg base CX0 1 t.f_rows_at_once t.fd_rows_at_once ["inputs"] sp_rao:=by
 refine T.d_rows_at_once.F.okB zaW (fun vs H Q E h=>?_) (fun cdv A outer s H vs Q E hr h=>?_)
 ·obtain ⟨n,rfl,_⟩:=h
  rfl
 obtain ⟨n,rfl,n6,q⟩:=h
 refine ⟨_,(zaf (zai (k:=1) zaW.nd rfl (Or.inl rfl) (zat zac))
  (zaf (zai (k:=2) zaW.nd rfl (Or.inl rfl) zad)
  (zaf (za4 qV rfl (zaU rfl T.z_range (zaa (bpv 0) (zac))) (zam (k:=3) zaW.nd rfl (Or.inl rfl)) (zaf (zai (k:=4) zaW.nd rfl (Or.inr rfl) (zah zaZ (bpv 2) zad))
  (zaf (zai (k:=1) zaW.nd rfl (Or.inl rfl) (zah zca (zat (zaa (zah ze3 (bpv 2) (bpv 4)) (zac))) (zaO rfl (N:=["worth","behind"]) (n:=1) (cap:=[4]) (zbt rfl rfl) (zaJ (bpv 1)) (zaL (by decide)) (fun _ _ _ _=>(zam (k:=0) (show (["worth","behind"]:List Str).Nodup by decide+kernel) rfl (Or.inl rfl))) (fun _ _ _ _=>zaI) (fun _ _ _ _=>(zah zaZ (bpv 0) (zah ze3 (bpv 0) (bpv 1)))))))
  (zag (zai (k:=2) zaW.nd rfl (Or.inl rfl) (zah zaZ (bpv 2) (zah ze3 (bpv 2) (bpv 4))))))))
  (zag (zap (zax (zaa (bpv 1) (zaa (bpv 2) (zac))))))))),?_⟩
 refine ⟨(by show 0≤yL;decide),fun L0 hL0=>?_⟩
 refine ⟨_,rfl,_,rfl,by omega,by omega,?_⟩
 refine zbR (fun i σ H3=>∃ (L:Addr) (o3 o4:Option V),σ = [some (.int n),some (.ref L),some (.int (zaN (2 ^ i))),o3,o4]∧Same H H3∧H L=none∧H3 L=some (.lst ((zdd i).map V.int)))
  ⟨L0,_,_,rfl,zae hL0 _,hL0,zab⟩ ?_ ?_
 ·rintro i σ H3 hi ⟨L,o3,o4,rfl,s3,nL,eL⟩
  have hi6:i < 6:=by omega
  have h64:=pow6 (n:=i) (by omega)
  obtain ⟨c1,c2,c3⟩:=zep i
  have bo:=zjS (zcv (2 ^ i)) h64
  have bb:qG (zaN (2 ^ i)+1)≤2 ^ 20:=by
   rw [zeo]
   have hq: 2 ^ 2 ^ i≤2 ^ 64:=xC (by decide) h64
   generalize 2 ^ 2 ^ i=q2 at hq
   exact zfN (k:=65) (by decide) (by omega) (by omega)
  refine ⟨_,rfl,_,_,rfl,rfl,?_⟩
  refine ⟨_,rfl,_,rfl,_,_,rfl,rfl,⟨bo,bb⟩,(by show 1≤yL;decide),fun A1 hA1=>?_⟩
  have k1:=zae hA1 (.lst [.int (zaN (2 ^ i) * (zaN (2 ^ i)+1))])
  refine ⟨_,rfl,L,rfl,⟨_,.of (k1 _ _ eL)⟩,fun D hD=>za0 (K:=K) (a:=L) (xs:=(zdd i).map V.int) (fun j H4=>Same (upd H3 A1 (.lst [.int (zaN (2 ^ i) * (zaN (2 ^ i)+1))])) H4∧H4 D=some (.lst ((((zdd i).take j).map fun v=>v+v * (zaN (2 ^ i)+1)).map V.int))) ⟨zae hD _,zab⟩ (fun j H4 _ z=>.of (z.1 _ _ (k1 _ _ eL))) ?_ ?_⟩
  ·rintro j y H4 hy ⟨s4,eD⟩
   rw [yE] at hy
   cases hz:(zdd i)[j]? with
   | none=>rw [hz] at hy;cases hy
   | some v=>
    rw [hz] at hy
    cases hy
    have lj:j < (zdd i).length:=(yG.mp hz).1
    refine ⟨_,rfl,_,rfl,_,rfl,_,_,rfl,rfl,⟨zjS (c1 v (yI hz)) h64,bb⟩,_,_,rfl,rfl,?_⟩
    refine ⟨_,eD,big (by simp;omega),s4.write hD _,?_⟩
    rw [zab,yV,hz,yM,yM]
    rfl
  rintro H4 ⟨s4,eD⟩
  rw [yA,qB] at eD
  refine ⟨A1,D,_,_,rfl,rfl,s4 _ _ zab,eD,bigE (by simp;omega),fun A2 hA2=>?_⟩
  have k2:=zae hA2 (.lst ([.int (zaN (2 ^ i) * (zaN (2 ^ i)+1))]++((zdd i).map fun v=>v+v * (zaN (2 ^ i)+1)).map V.int))
  have s34:=k1.trans s4
  refine ⟨_,rfl,_,rfl,_,rfl,_,_,rfl,rfl,⟨bo,bb⟩,_,_,rfl,rfl,A2,some (.int (0+(i:Int))),some (.int (zaN (2 ^ i)+1)),?_,(s3.trans s34).trans k2,(s3.trans s34).free hA2,zab⟩
  show [_,_,some (V.int (zaN (2 ^ i)+zaN (2 ^ i) * (zaN (2 ^ i)+1))),_,_]=_
  rw [zly]
 ·rintro σ H3 ⟨L,o3,o4,rfl,s3,nL,eL⟩
  have en:((n:Int)).toNat=n:=by omega
  rw [en] at eL
  refine ⟨_,rfl,_,rfl,(by show 2≤yL;decide),fun r hr'=>q r L _ (s3.upd hr' _) (s3.free hr') nL ?_ (zae hr' _ _ _ eL)⟩
  rw [zab,en]
theorem zbf:zav ["seen","others","unlike","worth","other"] ["seen","others"] (zaj zbG):=⟨rfl,rfl,rfl,by decide+kernel,rfl,by decide+kernel,by decide+kernel⟩
theorem zeX (T:Txt K mg t):FnOk P w K mg base CX0 1 t.f_unlike_numbers t.fd_unlike_numbers ["seen","others"] sp_un:=by
 refine T.d_unlike_numbers.F.okB zbf (fun vs H Q E h=>?_) (fun cdv A outer s H vs Q E hr h=>?_)
 ·obtain ⟨a,b,xs,ys,R,rfl,_⟩:=h
  rfl
 obtain ⟨a,b,xs,ys,R,rfl,ha,hb,hl,l1,h64,bx,by',q⟩:=h
 refine ⟨_,(zaf (zai (k:=2) zbf.nd rfl (Or.inr rfl) zad)
  (zaf (za4 qV rfl (zpA rfl T.z_zip (zaa (bpv 0) (zaa (bpv 1) (zac)))) (zeW rfl (zaz (zam (k:=3) zbf.nd rfl (Or.inl rfl)) (zaz (zam (k:=4) zbf.nd rfl (Or.inl rfl)) zbH))) (zag (zai (k:=2) zbf.nd rfl (Or.inr rfl) (zah zo2 (bpv 2) (zah zkm (bpv 3) (bpv 4))))))
  (zag (zap (zaO rfl (N:=["number","unlike"]) (n:=1) (cap:=[2]) (zbt rfl rfl) (zaU rfl T.z_range (zaa (zoW PySem.F.plainAttrs_int PyProof.Rows.slot_int_bit_length PyProof.Rows.type_int_bit_length zmG (bpv 2)) (zac))) (zaL (by decide)) (fun _ _ _ _=>(zam (k:=0) (show (["number","unlike"]:List Str).Nodup by decide+kernel) rfl (Or.inl rfl))) (fun _ _ _ _=>(znh (zay zdg (zah zko (zah op_shr (bpv 1) (bpv 0)) zad) zad (zaX _)))) (fun _ _ _ _=>(bpv 0))))))),?_⟩
 refine ⟨_,rfl,_,rfl,a,b,_,_,rfl,ha,hb,zoB (a:=a) (b:=b) (xs:=xs.map V.int) (ys:=ys.map V.int) (by simp [hl])
  (fun i σ H3=>∃ (o3 o4:Option V),σ = [some (.ref a),some (.ref b),some (.int (((xs.take i).zip (ys.take i)).foldl (fun u p=>jE u (qS p.1 p.2)) 0)),o3,o4]∧Same H H3)
  ⟨_,_,rfl,Same.refl _⟩ (fun i σ H3 _ ⟨_,_,_,s3⟩=>⟨s3 _ _ ha,s3 _ _ hb⟩) ?_ ?_⟩
 ·rintro i x y σ H3 T1 hx hy ⟨o3,o4,rfl,s3⟩ h1
  rw [yE] at hx hy
  cases hzx:xs[i]? with
  | none=>rw [hzx] at hx;cases hx
  | some u=>
   cases hzy:ys[i]? with
   | none=>rw [hzy] at hy;cases hy
   | some v=>
    rw [hzx] at hx
    rw [hzy] at hy
    cases hx
    cases hy
    refine ⟨T1,_,rfl,.of zab,rfl,_,_,rfl,_,_,rfl,rfl,?_⟩
    refine ⟨_,rfl,_,rfl,_,rfl,_,_,rfl,rfl,_,_,rfl,rfl,some (.int u),some (.int v),?_,s3.upd h1 _⟩
    have li:i < xs.length:=(yG.mp hzx).1
    have e:(xs.take (i+1)).zip (ys.take (i+1))=(xs.take i).zip (ys.take i)++ [(u,v)]:=by
     rw [yV,yV,hzx,hzy]
     show (xs.take i++ [u]).zip (ys.take i++ [v])=_
     rw [List.zip_append (by rw [yR,yR];omega)]
     rfl
    rw [e,wR]
    rfl
 ·rintro σ H3 ⟨o3,o4,rfl,s3⟩
  have e1:xs.take (xs.map V.int).length=xs:=by rw [yA,qB]
  have e2:ys.take (xs.map V.int).length=ys:=by rw [yA,hl,qB]
  obtain ⟨u1,u2⟩:=zei (R:=R) xs ys hl bx by' (zdb R)
  obtain ⟨un,eun⟩:∃ un,zds xs ys=un:=⟨_,rfl⟩
  have b0:za2 R un:=by rw [← eun];exact u1
  have few:qG un≤2 ^ 20:=zjS b0 h64
  rw [e1,e2]
  refine ⟨_,rfl,rfl,_,rfl,rfl,_,rfl,?_,?_,fun D hD=>?_⟩
  ·omega
  ·show ((qG (zds xs ys):Nat):Int) < 2 ^ 62
   rw [eun]
   omega
  have ll:((qG (zds xs ys):Nat):Int).toNat=qG un:=by rw [eun];omega
  show zdP (Itr 0 ((qG (zds xs ys):Nat):Int).toNat) _ _ _ _ _ _ _ _ _
  rw [ll]
  refine zd2 (fun j H4=>Same H3 H4∧H4 D=some (.lst (((qI j).filter fun k=>decide (bitI k un=1)).map fun k:Nat=>V.int (k:Int)))) ⟨zae hD _,zab⟩ ?_ ?_
  ·rintro j H4 hj ⟨s4,eD⟩
   rw [vX]
   have sb:=zoC (R:=R) b0 j
   rw [← eun] at sb
   have small:(((qI j).filter fun k=>decide (bitI k un=1)).map fun k:Nat=>V.int (k:Int)).length≤2000000:=by
    rw [yA]
    have:=wO (fun k=>decide (bitI k un=1)) (qI j)
    rw [yav] at this
    omega
   refine ⟨_,rfl,_,rfl,_,_,rfl,rfl,yaj j,_,_,rfl,rfl,rfl,_,rfl,ite2 (fun c=>⟨_,rfl,_,eD,?_,s4.write hD _,?_⟩) (fun c=>⟨s4,?_⟩)⟩
   ·have:yL=16777216:=by decide
    omega
   ·rw [zab,ycs,yb4,yM]
    have e:decide (bitI j un=1)=true:=by rw [← eun];exact decide_eq_true (sb.mp (of_decide_eq_true c))
    simp [e]
   ·rw [eD,ycs,yb4,yM]
    have e:decide (bitI j un=1)=false:=by rw [← eun];exact decide_eq_false fun z=>c (decide_eq_true (sb.mpr z))
    simp [e]
  ·rintro H4 ⟨s4,eD⟩
   refine q D H4 (s3.trans s4) (s3.free hD) ?_
   rw [eD,eun]
   rfl
theorem zbU:zav ["works","stuck","rows","ones","stuck_at_once"] ["works","stuck"] (zaj zb4):=⟨rfl,rfl,rfl,by decide+kernel,rfl,by decide+kernel,by decide+kernel⟩
theorem zfg (T:Txt K mg t):FnOk P w K mg base CX0 4 t.f_outputs_seen t.fd_outputs_seen ["works","stuck"] (sp_osR K):=by
 refine T.d_outputs_seen.F.okB zbU (fun vs H Q E h=>?_) (fun cdv A outer s H vs Q E hr h=>?_)
 ·obtain ⟨x,d,w,fs,G,rfl,_⟩:=h
  rfl
 obtain ⟨x,d,w,fs,G,rfl,off,hx,wf,hd,fb,ap,lf,q⟩:=h
 have hu64:=hr.units
 obtain ⟨a,ga,oa,gs,os,rfl,ha,hg,ho,rg,ro⟩:=zbs hx
 have i1:=wf.i1
 have i6:=wf.i6
 obtain ⟨n,en⟩:∃ n,w.ins.toNat=n:=⟨_,rfl⟩
 have n6:n≤6:=by omega
 have h64:=pow6 n6
 have c:=zep n
 refine ⟨_,(zaf (zai (k:=2) zbU.nd rfl (Or.inl rfl) (zal (zgn T) (hr.mono (by decide)) rfl T.d_rows_at_once.m T.d_rows_at_once.F.kp T.d_rows_at_once.b .nil zaR (zaa (zan zaM (bpv 0) zad (fun _ _=>rfl)) (zac))))
  (zaf (zai (k:=3) zbU.nd rfl (Or.inr rfl) (zan zaM (bpv 2) zad (fun _ _=>rfl)))
  (zaf (zai (k:=4) zbU.nd rfl (Or.inl rfl) (zcx (zle rfl hu64) rfl T.z_dict PyProof.Rows.boot_dict (zaa (zaO rfl (N:=["place","worth","ones"]) (n:=2) (cap:=[3]) (zbt rfl rfl) (zlT (bpv 1)) (zc9 (by decide) (by decide)) (fun _ _ _ _=>(zd6 (K:=K) (n:=2) rfl (zaz (zam (k:=0) (show (["place","worth","ones"]:List Str).Nodup by decide+kernel) rfl (Or.inl rfl)) (zaz (zam (k:=1) (show (["place","worth","ones"]:List Str).Nodup by decide+kernel) rfl (Or.inl rfl)) zbH)))) (fun _ _ _ _=>zaI) (fun _ _ _ _=>(zax (zaa (bpv 0) (zaa (zah ze3 (bpv 1) (bpv 2)) (zac)))))) (zac))))
  (zag (zap (zal (zfl T) (hr.mono (by decide)) rfl T.d_outputs_with.m T.d_outputs_with.F.kp T.d_outputs_with.b .nil zaR (zaa (bpv 0) (zaa (bpv 4) (zaa (zan zaM (bpv 2) zad (fun _ _=>rfl)) (zaa (bpv 3) (zac))))))))))),?_⟩
 refine ⟨_,rfl,a,_,_,_,rfl,rfl,off.same.seqT ha,rfl,n,by rw [← en,Int.toNat_of_nonneg (by omega)];rfl,n6,fun r L H1 s1 nr nL er eL=>?_⟩
 refine ⟨_,rfl,r,_,1,_,rfl,rfl,.of er,rfl,?_⟩
 have off1:=off.grow s1
 have rd:r≠d:=xU (zao hd nr)
 have Ld:L≠d:=xU (zao hd nL)
 refine ⟨_,rfl,d,_,rfl,s1 _ _ hd,fun ob D hD=>?_⟩
 have off2:=off1.write (.head _) (.frz ob (.dT (tabV fs)))
 have ed2:=zab (H:=H1) (a:=d) (o:=.frz ob (.dT (tabV fs)))
 have er2:(upd H1 d (.frz ob (.dT (tabV fs)))) r=some (.tup [.ref L,.int (zaN (2 ^ n))]):=by rw [zak rd];exact er
 have eL2:(upd H1 d (.frz ob (.dT (tabV fs)))) L=some (.lst ((zdd n).map V.int)):=by rw [zak Ld];exact eL
 generalize upd H1 d (.frz ob (.dT (tabV fs)))=H2 at hD off2 ed2 er2 eL2
 have gD:G D=none:=off2.same.free hD
 have Dd:d≠D:=zao ed2 hD
 have Dr:r≠D:=zao er2 hD
 have DL:L≠D:=zao eL2 hD
 refine zk3 (d:=d) (ob:=ob) (kvs:=tabV fs) (fun j H5=>∃ xs,Off [d] G H5∧H5 d=some (.frz ob (.dT (tabV fs)))∧H5 r=some (.tup [.ref L,.int (zaN (2 ^ n))])∧H5 L=some (.lst ((zdd n).map V.int))∧H5 D=some (.lst xs)∧zeS H5 xs (tabV (zcg (2 ^ n) (fs.take j))))
  ⟨[],off2.new hD _,zae hD _ _ _ ed2,zae hD _ _ _ er2,zae hD _ _ _ eL2,zab,.nil⟩ (fun j H5 _ ⟨_,_,e,_⟩=>e) ?_ ?_
 ·rintro j b p H5 T1 hp ⟨xs,off5,ed5,er5,eL5,eD5,pr⟩ hT1 hb
  have hp':(fs.map fun f=>(f.place,V.int f.worth))[j]? =some p:=hp
  rw [yE] at hp'
  cases hz:fs[j]? with
  | none=>rw [hz] at hp';cases hp'
  | some f=>
   rw [hz] at hp'
   cases hp'
   have lj:j < fs.length:=(yG.mp hz).1
   have et:fs.take (j+1)=fs.take j++ [f]:=by rw [yV,hz];rfl
   have fw:=fb f (yI hz)
   have k1:=zae hT1 (.tup [.ref b,.int f.worth])
   refine ⟨T1,_,rfl,.of zab,rfl,_,_,rfl,_,_,rfl,rfl,?_⟩
   have b1:qG f.worth≤2 ^ 20:=zfN (k:=2) (by decide) (by omega) (by omega)
   refine ⟨_,rfl,_,rfl,_,rfl,_,_,rfl,rfl,⟨b1,zjS (zcv (2 ^ n)) h64⟩,(by show 2≤yL;decide),fun T2 h2=>?_⟩
   have k2:=zae h2 (.tup [.ref b,.int (f.worth * zaN (2 ^ n))])
   have k12:=k1.trans k2
   have lpr:=vV pr
   unfold tabV zcg at lpr
   rw [yA,yA,yR] at lpr
   refine ⟨xs,k12 _ _ eD5,big (by omega),xs++ [.ref T2],?_,by rw [zak Dd];exact k12 _ _ ed5,by rw [zak Dr];exact k12 _ _ er5,by rw [zak DL];exact k12 _ _ eL5,zab,?_⟩
   ·exact ⟨(off5.grow k12).same.write gD _,(off5.grow k12).out,fun m hm=>by rw [yF.mp hm,zak Dd];exact ⟨_,k12 _ _ ed5⟩⟩
   ·rw [et]
    have e1:tabV (zcg (2 ^ n) (fs.take j++ [f]))=tabV (zcg (2 ^ n) (fs.take j))++ [(f.place,V.int (f.worth * zaN (2 ^ n)))]:=by unfold tabV zcg;rw [yM,yM];rfl
    rw [e1]
    exact zjx (k12 _ _ eD5) (ycl (zk5 k12 pr) ⟨T2,b,rfl,zab,hb.same k12⟩)
 rintro H5 ⟨xs,off5,ed5,er5,eL5,eD5,pr⟩
 have lt:(tabV fs).length=fs.length:=by unfold tabV;rw [yA]
 rw [lt,qB] at pr
 refine ⟨D,xs,tabV (zcg (2 ^ n) fs),rfl,eD5,pr,big (by unfold tabV zcg;rw [yA,yA];omega),fun e he=>?_⟩
 rw [show ze6 [] (tabV (zcg (2 ^ n) fs))=tabV (zcg (2 ^ n) fs) from zid (zcg (2 ^ n) fs) [] (zku ap)]
 have k6:=zae he (.dT (tabV (zcg (2 ^ n) fs)))
 have s6:=off5.same.trans k6
 refine ⟨_,rfl,_,rfl,_,rfl,r,_,0,_,rfl,rfl,.of (k6 _ _ er5),rfl,_,rfl,.ref a,e,L,w,zcg (2 ^ n) fs,zdd n,zaN (2 ^ n),rfl,hx.mono s6,wf,zab,.of (k6 _ _ eL5),by rw [c.2.1];omega,fun r2 H7 s7 n7 e7=>?_⟩
 exact q r2 ob H7 (s6.trans s7) (s6.free n7) ((k6.trans s7) _ _ ed5) (by rw [e7];unfold zcA;rw [en])
theorem zdE (T:Txt K mg t):FnOk P w K mg base CX0 4 t.f_outputs_seen t.fd_outputs_seen ["works","stuck"] (sp_osT K):=by
 refine (zfg T).thaw.imp fun vs H Q E h=>?_
 obtain ⟨x,d,w,fs,rfl,hx,wf,hd,fb,ap,lf,q⟩:=h
 obtain ⟨a,ga,oa,gs,os,rfl,ha,hg,ho,rg,ro⟩:=zbs hx
 refine ⟨.ref a,d,w,fs,hole d H,rfl,znI hd,zjZ hd hx,wf,hd,fb,ap,lf,fun r ob H' s n e1 e2=>⟨d,ob,_,_,hd,e1,?_⟩⟩
 have rd:r≠d:=fun z=>by rw [z,e1] at e2;cases e2
 refine q r _ (fun b o hb=>?_) (by rw [zbP rd] at n;exact n) (by rw [zak rd];exact e2)
 by_cases z:b=d
 ·subst z
  rw [zab]
  rw [hd] at hb
  exact hb
 ·rw [zak z]
  exact s _ _ (by rw [zbP z];exact hb)
theorem zdJ:zav ["works","stuck","others","numbers"] ["works","stuck","others"] (zaj zb0):=⟨rfl,rfl,rfl,by decide+kernel,rfl,by decide+kernel,by decide+kernel⟩
theorem zcy (T:Txt K mg t):FnOk P w K mg base CX0 5 t.f_first_unlike t.fd_first_unlike ["works","stuck","others"] (sp_fu K):=by
 refine T.d_first_unlike.F.okB zdJ (fun vs H Q E h=>?_) (fun cdv A outer s H vs Q E hr h=>?_)
 ·obtain ⟨x,d,e,w,fs,gs,rfl,_⟩:=h
  rfl
 obtain ⟨x,d,e,w,fs,gs,rfl,hx,wf,hd,he,fb,gb,af,ag,lf,lg,q⟩:=h
 obtain ⟨a,ga,oa,gv,os,rfl,ha,hg,ho,rg,ro⟩:=zbs hx
 have hu64:=hr.units
 have i1:=wf.i1
 have i6:=wf.i6
 have n6:w.ins.toNat≤6:=by omega
 have h64:=pow6 n6
 obtain ⟨f1,f2,f3⟩:=zeM fb wf
 obtain ⟨g1,g2,g3⟩:=zeM gb wf
 obtain ⟨nn,nj⟩:=zlc fb gb wf
 refine ⟨_,(zaf (zai (k:=3) zdJ.nd rfl (Or.inl rfl) (zal (zeX T) (hr.mono (by decide)) rfl T.d_unlike_numbers.m T.d_unlike_numbers.F.kp T.d_unlike_numbers.b .nil zaR (zaa (zal (zdE T) (hr.mono (by decide)) rfl T.d_outputs_seen.m T.d_outputs_seen.F.kp T.d_outputs_seen.b .nil zaR (zaa (bpv 0) (zaa (bpv 1) (zac)))) (zaa (zal (zdE T) (hr.mono (by decide)) rfl T.d_outputs_seen.m T.d_outputs_seen.F.kp T.d_outputs_seen.b .nil zaR (zaa (bpv 0) (zaa (bpv 2) (zac)))) (zac)))))
  (zag (zap (zi7 (zay znP (zaw zau rfl T.z_len jJ (zaa (bpv 3) (zac))) zad (zaX _)) (zan zaC (zal (zij T) (hr.mono (by decide)) rfl T.d_every_row.m T.d_every_row.F.kp T.d_every_row.b .nil zaR (zaa (bpv 0) (zac))) (zan zaC (bpv 3) zad (fun _ _=>rfl)) (fun _ _=>rfl)) zhI)))),?_⟩
 refine ⟨_,rfl,_,rfl,.ref a,d,w,fs,rfl,hx,wf,hd,fb,af,lf,fun r1 H1 s1 n1 e1=>?_⟩
 refine ⟨_,rfl,_,rfl,.ref a,e,w,gs,rfl,hx.mono s1,wf,s1 _ _ he,gb,ag,lg,fun r2 H2 s2 n2 e2=>?_⟩
 have e12:H2 r1=some (.lst ((zcA w fs).map V.int)):=s2 _ _ e1
 have sG3:=s1.trans s2
 have lo:w.outs.length≤1000:=by
  have:=wf.o3
  omega
 refine ⟨r1,r2,zcA w fs,zcA w gs,2 ^ w.ins.toNat,rfl,e12,e2,f2.trans g2.symm,by omega,h64,f1,g1,fun r3 H3 s3 n3 e3=>?_⟩
 have sG4:=sG3.trans s3
 obtain ⟨ns,ens⟩:∃ ns,zh3 (zds (zcA w fs) (zcA w gs))=ns:=⟨_,rfl⟩
 rw [ens] at e3 nn nj
 refine ⟨_,rfl,r3,_,rfl,.inl (.of e3),_,_,rfl,rfl,_,rfl,ite2 (fun c=>?_) (fun c=>?_)⟩
 ·cases ns with
  | nil=>exact absurd (of_decide_eq_true c) (by decide)
  | cons j js=>
   obtain ⟨row,hrow,ef⟩:=nj j js rfl
   refine ⟨_,rfl,a,ga,oa,w.ins,rfl,sG4.seqT ha,by omega,i6,fun R qs H4 rws=>?_⟩
   have e34:=rws.same _ _ e3
   obtain ⟨qa,hqa,hz⟩:∃ qa,qs[j]? =some qa∧H4 qa=some (.lst (row.map V.int)):=by
    have lq:=rws.rows.len
    have lj:=(yG.mp hrow).1
    have h1:qs[j]? =some qs[j]:=yC (by omega)
    obtain ⟨row2,h2,h3⟩:=rws.rows.get h1
    rw [hrow] at h2
    cases h2
    exact ⟨_,h1,h3⟩
   have at0:atI ((j::js).map fun j:Nat=>V.int (j:Int)) 0=some (.int (j:Int)):=zcf (j:=0) rfl
   refine ⟨_,rfl,r3,_,_,_,rfl,rfl,.of e34,at0,R,_,_,_,rfl,rfl,rws.sq,zcf (by rw [yE,hqa];rfl),?_⟩
   refine q _ _ (sG4.trans rws.same) ?_
   rw [ef]
   exact ⟨qa,rfl,sG4.free (rws.new qa (yI hqa)).1,hz⟩
 ·cases ns with
  | cons j js=>exact absurd (decide_eq_true (by simp)) c
  | nil=>
   refine q _ _ sG4 ?_
   rw [nn rfl]
   rfl
theorem zgF:zav ["worth"] ["worth"] (zaj zcj):=⟨rfl,rfl,rfl,by decide+kernel,rfl,by decide+kernel,by decide+kernel⟩
theorem zgx (T:Txt K mg t):FnOk P w K mg base CX0 1 t.f_input_pairs t.fd_input_pairs ["worth"] sp_ip:=by
 refine T.d_input_pairs.F.okB zgF (fun vs H Q E h=>?_) (fun cdv A outer s H vs Q E hr h=>?_)
 ·obtain ⟨o,rfl,_⟩:=h
  rfl
 obtain ⟨o,rfl,hb,q⟩:=h
 have hu64:=hr.units
 refine ⟨_,(zaf (zaT (zgr (zlx (bpv 0))) (zag (zap (zat (zaa (zax (zaa zad (zaa zad (zac)))) (zaa (zax (zaa zad (zaa zad (zac)))) (zac)))))) zaB)
  (zag (zap (zat (zaa (zax (zaa (bpv 0) (zaa (bpv 0) (zac)))) (zac)))))),?_⟩
 have two:(2:Nat)≤yL:=by rw [sizeLine_eq];omega
 cases o with
 | none=>
  refine ⟨_,rfl,_,rfl,?_⟩
  refine ite2 (fun _=>?_) (fun c=>absurd (decide_eq_true rfl) c)
  refine ⟨two,fun p1 n1=>⟨two,fun p2 n2=>⟨two,fun l nl=>q _ _ (((zae n1 _).trans (zae n2 _)).trans (zae nl _)) ⟨l,[(0,p1),(3,p2)],rfl,((zae n1 _).trans (zae n2 _)).free nl,zab,rfl,?_⟩⟩⟩⟩
  have e1:p1≠p2:=fun z=>by rw [← z,zab] at n2;cases n2
  have e2:p1≠l:=fun z=>by rw [← z,zak e1,zab] at nl;cases nl
  have e3:p2≠l:=fun z=>by rw [← z,zab] at nl;cases nl
  intro p hp
  rcases yO.mp hp with rfl | hp
  ·exact ⟨show 0 < 4 by decide,n1,by rw [zak e2,zak e1,zab,zmw]⟩
  ·rw [yF.mp hp]
   exact ⟨show 3 < 4 by decide,(zae n1 _).free n2,by rw [zak e3,zab,zmN]⟩
 | some b=>
  have hb':=hb b rfl
  refine ⟨_,rfl,_,rfl,?_⟩
  refine ite2 (fun c=>nomatch (of_decide_eq_true c)) (fun _=>?_)
  refine ⟨_,rfl,_,rfl,two,fun p1 n1=>⟨Nat.le_of_succ_le two,fun l nl=>q _ _ ((zae n1 _).trans (zae nl _)) ⟨l,[(zbw b b,p1)],rfl,(zae n1 _).free nl,zab,rfl,?_⟩⟩⟩
  have e2:p1≠l:=fun z=>by rw [← z,zab] at nl;cases nl
  intro p hp
  rw [yF.mp hp]
  refine ⟨zcZ hb' hb',n1,?_⟩
  rw [zak e2,zab]
  rcases hb' with rfl | rfl
  ·exact congrArg some zmw.symm
  ·exact congrArg some zmN.symm
theorem zcV:zav ["kind","choice","right","wrong"] ["kind","choice"] (zaj zcl):=⟨rfl,rfl,rfl,by decide+kernel,rfl,by decide+kernel,by decide+kernel⟩
theorem zgA (T:Txt K mg t):FnOk P w K mg base CX0 2 t.f_chosen_pair t.fd_chosen_pair ["kind","choice"] (sp_cp K):=by
 refine T.d_chosen_pair.F.okB zcV (fun vs H Q E h=>?_) (fun cdv A outer s H vs Q E hr h=>?_)
 ·obtain ⟨k,l,ps,rfl,_⟩:=h
  rfl
 obtain ⟨k,l,ps,rfl,hl,hp,lk,q⟩:=h
 have hu64:=hr.units
 have cd:zch (ps.map yZ):=fun c hc=>by
  obtain ⟨p,hp',rfl⟩:=yS.mp hc
  exact (hp p hp').1
 have lz:ps.length≤4:=by rcases lk with ⟨_,_,z⟩ | ⟨_,z⟩ | ⟨_,z⟩ | ⟨_,z⟩ <;> omega
 have len:∀ f:Nat→Int,((ps.map yZ).map f).length=ps.length:=fun f=>by rw [yA,yA]
 have step:∀ (f:Nat→Int) (j:Nat) (p:Nat×Addr),ps[j]? =some p→(((ps.map yZ).take (j+1)).map f).map V.int=(((ps.map yZ).take j).map f).map V.int++ [V.int (f p.1)]:=fun f j p hj=>by
  rw [yV,yE,hj,yM,yM]
  rfl
 have small:∀ (f:Nat→Int) (j:Nat),((((ps.map yZ).take j).map f).map V.int).length≤4:=fun f j=>by
  rw [yA,yA,yR,yA]
  omega
 refine ⟨_,(zaf (zai (k:=2) zcV.nd rfl (Or.inl rfl) (zal (zeu T) (hr.mono (by decide)) rfl T.d_gate_worth.m T.d_gate_worth.F.kp T.d_gate_worth.b1 dflt1 zaR (zaa (bpv 0) (zaa (zaO rfl (N:=["pair"]) (n:=1) (cap:=[]) (zbt rfl rfl) (zaJ (bpv 1)) (zaL (by decide)) (fun _ _ _ _=>(zam (k:=0) (show (["pair"]:List Str).Nodup by decide+kernel) rfl (Or.inl rfl))) (fun _ _ _ _=>zaI) (fun _ _ _ _=>(zan (zlm (K:=K)) (bpv 0) zad (fun _ _=>rfl)))) (zac)))))
  (zaf (zai (k:=3) zcV.nd rfl (Or.inl rfl) (zal (zeu T) (hr.mono (by decide)) rfl T.d_gate_worth.m T.d_gate_worth.F.kp T.d_gate_worth.b1 dflt1 zaR (zaa (bpv 0) (zaa (zaO rfl (N:=["pair"]) (n:=1) (cap:=[]) (zbt rfl rfl) (zaJ (bpv 1)) (zaL (by decide)) (fun _ _ _ _=>(zam (k:=0) (show (["pair"]:List Str).Nodup by decide+kernel) rfl (Or.inl rfl))) (fun _ _ _ _=>zaI) (fun _ _ _ _=>(zan (zlm (K:=K)) (bpv 0) zad (fun _ _=>rfl)))) (zac)))))
  (zag (zap (zax (zaa (bpv 2) (zaa (bpv 3) (zac)))))))),?_⟩
 refine ⟨_,rfl,_,rfl,l,rfl,⟨_,.of hl⟩,fun D hD=>za0 (K:=K) (a:=l) (xs:=ps.map fun p=>V.ref p.2) (fun j H4=>Same H H4∧H4 D=some (.lst ((((ps.map yZ).take j).map hiV).map V.int))) ⟨zae hD _,zab⟩ (fun j H4 _ z=>.of (z.1 _ _ hl)) ?_ ?_⟩
 ·rintro j y H4 hy ⟨s4,eD⟩
  rw [yE] at hy
  cases hz:ps[j]? with
  | none=>rw [hz] at hy;cases hy
  | some p=>
   rw [hz] at hy
   cases hy
   have hm:=yI hz
   have hpo:=s4 _ _ (hp p hm).2
   refine ⟨_,rfl,p.2,_,0,_,rfl,rfl,.of hpo,rfl,_,eD,big (qX (small hiV j) (by decide)),s4.write hD _,?_⟩
   rw [zab,step hiV j p hz]
   rfl
 rintro H4 ⟨s4,eD⟩
 rw [yA,jR (by rw [yA];exact yN _)] at eD
 refine ⟨k,D,(ps.map yZ).map hiV,rfl,.of eD,cd.hi,by rw [len];exact lk,fun H4' s4'=>?_⟩
 replace s4:=s4.trans s4'
 clear eD s4'
 generalize H4'=H4 at s4
 have hl4:=s4 _ _ hl
 refine ⟨_,rfl,_,rfl,l,rfl,⟨_,.of hl4⟩,fun D2 hD2=>za0 (K:=K) (a:=l) (xs:=ps.map fun p=>V.ref p.2) (fun j H5=>Same H4 H5∧H5 D2=some (.lst ((((ps.map yZ).take j).map loV).map V.int))) ⟨zae hD2 _,zab⟩ (fun j H5 _ z=>.of (z.1 _ _ hl4)) ?_ ?_⟩
 ·rintro j y H5 hy ⟨s5,eD2⟩
  rw [yE] at hy
  cases hz:ps[j]? with
  | none=>rw [hz] at hy;cases hy
  | some p=>
   rw [hz] at hy
   cases hy
   have hm:=yI hz
   have hpo:=s5 _ _ (s4 _ _ (hp p hm).2)
   refine ⟨_,rfl,p.2,_,1,_,rfl,rfl,.of hpo,rfl,_,eD2,big (qX (small loV j) (by decide)),s5.write hD2 _,?_⟩
   rw [zab,step loV j p hz]
   rfl
 rintro H5 ⟨s5,eD2⟩
 rw [yA,jR (by rw [yA];exact yN _)] at eD2
 refine ⟨k,D2,(ps.map yZ).map loV,rfl,.of eD2,cd.lo,by rw [len];exact lk,fun H5' s5'=>?_⟩
 replace s5:=s5.trans s5'
 clear eD2 s5'
 generalize H5'=H5 at s5
 have bh:=zcO cd.hi (show zbh k ((ps.map yZ).map hiV).length by rw [len];exact lk)
 have bl:=zcO cd.lo (show zbh k ((ps.map yZ).map loV).length by rw [len];exact lk)
 refine ⟨_,rfl,_,rfl,(show (2:Nat)≤yL by rw [sizeLine_eq];omega),fun r nr=>q r _ ((s4.trans s5).upd nr _) ?_ ?_⟩
 ·cases e:H r with
  | none=>rfl
  | some o=>rw [(s4.trans s5) _ _ e] at nr;cases nr
 ·rw [zab]
  unfold zek zbL
  show some (HO.tup [V.int _,V.int _])=some (HO.tup [V.int (hiV _),V.int (loV _)])
  rw [zdQ bh bl,zdG bh bl]
theorem zhy:zav ["pairs","stuck","place"] ["pairs","stuck","place"] (zaj zcJ):=⟨rfl,rfl,rfl,by decide+kernel,rfl,by decide+kernel,by decide+kernel⟩
theorem zdq (T:Txt K mg t):FnOk P w K mg base CX0 1 t.f_with_stuck t.fd_with_stuck ["pairs","stuck","place"] sp_ws:=by
 refine T.d_with_stuck.F.okB zhy (fun vs H Q E h=>?_) (fun cdv A outer s H vs Q E hr h=>?_)
 ·obtain ⟨v,d,pl,cs,fs,place,rfl,_⟩:=h
  rfl
 obtain ⟨v,d,pl,cs,fs,place,rfl,⟨l,ps,rfl,hl,rfl,hp⟩,lz,hd,hpl,fb,q⟩:=h
 have hu64:=hr.units
 have hu1:=zkA hr
 refine ⟨_,(zaf (zaT (zgr (zk0 hu1 (bpv 2) (bpv 1))) (zag (zap (bpv 0))) zaB)
  (zag (zap (zeq rfl hu64 rfl T.z_sorted rfl T.z_set (zaO rfl (N:=["right","wrong","stuck","place"]) (n:=2) (cap:=[1,2]) (zbt rfl rfl) (zaJ (bpv 0)) (zc9 (by decide) (by decide)) (fun _ _ _ _=>(zd6 (K:=K) (n:=2) rfl (zaz (zam (k:=0) (show (["right","wrong","stuck","place"]:List Str).Nodup by decide+kernel) rfl (Or.inl rfl)) (zaz (zam (k:=1) (show (["right","wrong","stuck","place"]:List Str).Nodup by decide+kernel) rfl (Or.inl rfl)) zbH)))) (fun _ _ _ _=>zaI) (fun _ _ _ _=>(zax (zaa (bpv 0) (zaa (znt hu1 (bpv 2) (bpv 3) (fun _ _=>rfl)) (zac)))))))))),?_⟩
 refine ⟨_,rfl,_,rfl,d,_,rfl,DGet.t (k:=place) hd hpl,_,rfl,?_⟩
 rw [zeg]
 cases hk:look fs place with
 | none=>
  refine ite2 (fun _=>⟨_,rfl,q _ _ (Same.refl _) ?_⟩) (fun c=>absurd rfl c)
  exact .inl ⟨rfl,hk⟩
 | some b=>
  refine ite2 (fun c=>vU c) (fun _=>?_)
  have hb:b=0∨b=1:=zjR fb hk
  have lz':ps.length≤16:=by rw [yA] at lz;exact lz
  refine ⟨_,rfl,l,rfl,⟨_,.of hl⟩,fun D hD=>za0 (K:=K) (a:=l) (xs:=ps.map fun p=>V.ref p.2)
   (fun j H4=>Same H H4∧∃ qs:List (Nat×Addr),qs.map yZ=((ps.map yZ).take j).map (fun c=>zbw (hiV c) b)∧H4 D=some (.lst (qs.map fun p=>V.ref p.2))∧∀ p∈qs,p.1 < 4∧H4 p.2=some (zek p.1)∧p.2≠D∧H p.2=none)
   ⟨zae hD _,[],rfl,zab,fun _ z=>(qJ z).elim⟩ (fun j H4 _ z=>.of (z.1 _ _ hl)) ?_ ?_⟩
  ·rintro j y H4 hy ⟨s4,qs,eq,eD,hq⟩
   rw [yE] at hy
   cases hz:ps[j]? with
   | none=>rw [hz] at hy;cases hy
   | some p=>
    rw [hz] at hy
    cases hy
    have hm:=yI hz
    have hpo:=s4 _ _ (hp p hm).2
    have lq:qs.length≤16:=by
     have:=congrArg vC eq
     rw [yA,yA,yR,yA] at this
     omega
    refine ⟨p.2,_,rfl,.of hpo,rfl,_,_,rfl,_,_,rfl,rfl,?_⟩
    refine ⟨_,rfl,_,rfl,_,rfl,d,.int b,rfl,(by have:=DGet.t (k:=place) (s4 _ _ hd) (s4 _ _ hpl);rw [zeg,hk] at this;exact this),(show (2:Nat)≤yL by rw [sizeLine_eq];omega),fun r nr=>?_⟩
    have nrD:r≠D:=fun z=>by rw [z,eD] at nr;cases nr
    refine ⟨_,by rw [zak (xU nrD)];exact eD,big (by rw [yA];omega),(s4.upd nr _).write hD _,qs++ [(zbw (hiV p.1) b,r)],?_,?_,?_⟩
    ·rw [yM,eq,yV,yE,hz,yM]
     rfl
    ·rw [zab,yM]
     rfl
    ·intro x hx
     rcases yP.mp hx with hx | hx
     ·obtain ⟨a1,a2,a3⟩:=hq x hx
      have xr:x.2≠r:=fun z=>by rw [z,nr] at a2;cases a2
      exact ⟨a1,by rw [zak a3.1,zak xr];exact a2,a3⟩
     ·rw [yF.mp hx]
      refine ⟨zcZ (zg8 (hp p hm).1) hb,?_,nrD,s4.free nr⟩
      rw [zak nrD,zab,hpO,zdQ (zg8 (hp p hm).1) hb,zdG (zg8 (hp p hm).1) hb]
      rfl
  ·rintro H4 ⟨s4,qs,eq,eD,hq⟩
   rw [yA,jR (by rw [yA];exact yN _)] at eq
   refine ⟨D,qs,rfl,eD,fun p hp'=>⟨(hq p hp').1,(hq p hp').2.1⟩,fun D2 L nD2 eL hL=>?_⟩
   refine q _ _ (s4.upd nD2 _) (.inr ⟨D2,L,rfl,s4.free nD2,zab,?_,fun p hp'=>⟨(hq p (hL p hp')).1,(hq p (hL p hp')).2.2.2,?_⟩⟩)
   ·rw [eL,eq,hk]
    rfl
   ·have a2:=(hq p (hL p hp')).2.1
    rw [zak (fun z=>by rw [z,nD2] at a2;cases a2)]
    exact a2
theorem zbi:zav ["legs","choices","pairs","longer","choice"] ["legs"] (zaj zb6):=⟨rfl,rfl,rfl,by decide+kernel,rfl,by decide+kernel,by decide+kernel⟩
theorem zgf (T:Txt K mg t):FnOk P w K mg base CX0 1 t.f_every_choice t.fd_every_choice ["legs"] sp_ec:=by
 refine T.d_every_choice.F.okB zbi (fun vs H Q E h=>?_) (fun cdv A outer s H vs Q E hr h=>?_)
 ·obtain ⟨a,xs,css,rfl,_⟩:=h
  rfl
 obtain ⟨a,xs,css,rfl,ha,hx,l4,hl4,q⟩:=h
 have lx:=hx.len
 refine ⟨_,(zaf (zai (k:=1) zbi.nd rfl (Or.inl rfl) (zat (zaa (zat zac) (zac))))
  (zaf (za4 qV rfl (zaJ (bpv 0)) (zam (k:=2) zbi.nd rfl (Or.inl rfl)) (zaf (zai (k:=3) zbi.nd rfl (Or.inl rfl) (zat zac))
  (zaf (za4 qV rfl (zaJ (bpv 1)) (zam (k:=4) zbi.nd rfl (Or.inr rfl)) (zag (zbv (zcG qQ yah yai zgt (bpv 3) (zaa (zaO rfl (N:=["pair","choice"]) (n:=1) (cap:=[4]) (zbt rfl rfl) (zaJ (bpv 2)) (zaL (by decide)) (fun _ _ _ _=>(zam (k:=0) (show (["pair","choice"]:List Str).Nodup by decide+kernel) rfl (Or.inl rfl))) (fun _ _ _ _=>zaI) (fun _ _ _ _=>(zah zca (bpv 1) (zat (zaa (bpv 0) (zac)))))) (zac))))))
  (zag (zai (k:=1) zbi.nd rfl (Or.inl rfl) (bpv 3))))))
  (zag (zap (bpv 1))))),?_⟩
 refine ⟨(by show 0≤yL;decide),fun e0 he0=>⟨(by show 1≤yL;decide),fun R0 hR0=>?_⟩⟩
 have k0:=zae he0 (.lst [])
 have k1:=zae hR0 (.lst [.ref e0])
 refine ⟨_,rfl,a,rfl,⟨_,.of ((k0.trans k1) _ _ ha)⟩,zcn (K:=K) (a:=a) (xs:=xs) (fun i σ H3=>∃ (C:Addr) (ys:List V) (o2 o3 o4:Option V),σ = [some (.ref a),some (.ref C),o2,o3,o4]∧Same H H3∧H C=none∧H3 C=some (.lst ys)∧PLs H3 ys (zbj [[]] (css.take i))∧∀ y∈ys,NewR H y)
  ⟨R0,[.ref e0],_,_,_,rfl,k0.trans k1,k0.free hR0,zab,.cons ⟨e0,[],rfl,k1 _ _ zab,rfl,fun _ z=>(qJ z).elim⟩ .nil,fun y hy=>⟨e0,yF.mp hy,he0⟩⟩ (fun i σ H3 _ ⟨_,_,_,_,_,_,s,_⟩=>.of (s _ _ ha)) ?_ ?_⟩
 ·rintro i x σ H3 hxi ⟨C,ys,o2,o3,o4,rfl,s3,nC,eC,hy,ny⟩
  obtain ⟨cs,hcs,hpx⟩:=hx.get hxi
  have few:(zbj [[]] (css.take i)).length≤256:=by
   refine qX (zdc _ _ fun l hl=>hl4 l (xJ hl)) ?_
   have:(css.take i).length≤4:=by rw [yR];omega
   have:=xC (n:=4) (by decide) this
   show 1 * _≤_
   omega
  have c4:cs.length≤4:=hl4 cs (yI hcs)
  refine ⟨(by show 0≤yL;decide),fun L hL=>?_⟩
  have kL:=zae hL (.lst [])
  refine ⟨_,rfl,C,rfl,⟨_,.of (kL _ _ eC)⟩,zcn (K:=K) (a:=C) (xs:=ys) (fun j σ H4=>∃ (G:Hp) (zs:List V) (o4:Option V),σ = [some (.ref a),some (.ref C),some x,some (.ref L),o4]∧Off [L] G H4∧Same H3 G∧H4 L=some (.lst zs)∧PLs G zs (((zbj [[]] (css.take i)).take j).flatMap fun r=>cs.map fun p=>r++ [p])∧∀ y∈zs,NewR H y)
   ⟨H3,[],_,rfl,Off.start hL _,Same.refl _,zab,.nil,fun _ z=>(qJ z).elim⟩ (fun j σ H4 _ ⟨_,_,_,_,o,s,_⟩=>.of ((s.trans o.same) _ _ eC)) ?_ ?_⟩
  ·rintro j y σ H4 hyj ⟨G,zs,o4,rfl,off,sG,eL,hz,nz⟩
   obtain ⟨r,hr',ly,psr,rfl,hly,rfl,hpr⟩:=hy.get hyj
   obtain ⟨lx',ps,rfl,hlx,rfl,hps⟩:=hpx
   have s34:=sG.trans off.same
   have s04:=s3.trans s34
   have lps:ps.length≤4:=by rw [yA] at c4;exact c4
   have lpr:psr.length≤4:=by
    have:=(zaP.mp (show psr.map yZ∈choices (css.take i) from yI hr')).length
    rw [yA,yR] at this
    omega
   have lzs:zs.length≤1024:=by
    have h1:=hz.len
    have h2:=zjg c4 ((zbj [[]] (css.take i)).take j)
    have h3:((zbj [[]] (css.take i)).take j).length≤256:=by rw [yR];omega
    omega
   refine ⟨_,rfl,.inl ⟨rfl,_,.of eL⟩,_,rfl,lx',rfl,⟨_,.of (s04 _ _ hlx)⟩,fun D hD=>za0 (K:=K) (a:=lx') (xs:=ps.map fun p=>V.ref p.2)
    (fun m H5=>∃ (G2:Hp) (ws:List V),Off [D,L] G2 H5∧Same G G2∧H5 D=some (.lst ws)∧H5 L=some (.lst zs)∧PLs G2 ws (((ps.map yZ).take m).map fun p=>psr.map yZ++ [p])∧∀ y∈ws,NewR H y)
    ⟨G,[],off.opn hD _,Same.refl _,zab,zae hD _ _ _ eL,.nil,fun _ z=>(qJ z).elim⟩ (fun m H5 _ ⟨_,_,o,s,_⟩=>.of ((s3.trans (sG.trans (s.trans o.same))) _ _ hlx)) ?_ ?_⟩
   ·rintro m y H5 hym ⟨G2,ws,off5,sG2,eD,eL5,hw,nw⟩
    rw [yE] at hym
    cases hzm:ps[m]? with
    | none=>rw [hzm] at hym;cases hym
    | some p=>
     rw [hzm] at hym
     cases hym
     have hm:=yI hzm
     have lws:ws.length≤4:=by
      have:=hw.len
      rw [yA,yR,yA] at this
      omega
     have hly5:=(sG.trans (sG2.trans off5.same)) _ _ hly
     refine ⟨_,rfl,_,rfl,(by show 1≤yL;decide),fun Z hZ=>?_⟩
     have of5:=off5.new hZ (.lst [.ref p.2])
     have kz:=zae hZ (.lst [.ref p.2])
     refine ⟨ly,Z,_,_,rfl,rfl,kz _ _ hly5,zab,bigE (by rw [yA,qO];omega),fun A0 hA0=>?_⟩
     have of6:=of5.lay hA0 (.lst ((psr.map fun p=>V.ref p.2)++ [.ref p.2]))
     have k6:=of5.add hA0 (.lst ((psr.map fun p=>V.ref p.2)++ [.ref p.2]))
     have ka:=zae hA0 (.lst ((psr.map fun p=>V.ref p.2)++ [.ref p.2]))
     have hLD:L≠D:=fun z=>by rw [z,hD] at eL;cases eL
     refine ⟨_,ka _ _ (kz _ _ eD),big (by omega),_,ws++ [.ref A0],of6.write (.head _) _,sG2.trans k6,zab,by rw [zak hLD];exact ka _ _ (kz _ _ eL5),?_,fun y hy=>?_⟩
     rotate_left
     ·rcases yP.mp hy with hy | hy
      ·exact nw y hy
      ·exact ⟨A0,yF.mp hy,((s3.trans (sG.trans sG2)).trans of5.same).free hA0⟩
     rw [yV,yE,hzm,yM]
     refine (PLs.mono k6 hw).append (.cons ⟨A0,psr++ [p],rfl,by rw [zab,yM];rfl,by rw [yM];rfl,fun x hx'=>?_⟩ .nil)
     rcases yP.mp hx' with z | z
     ·exact ⟨(hpr x z).1,k6 _ _ (sG2 _ _ (sG _ _ (hpr x z).2))⟩
     ·rw [yF.mp z]
      exact ⟨(hps p hm).1,k6 _ _ (sG2 _ _ (sG _ _ (s3 _ _ (hps p hm).2)))⟩
   ·rintro H5 ⟨G2,ws,off5,sG2,eD,eL5,hw,nw⟩
    rw [yA,jR (by rw [yA];exact yN _)] at hw
    have lws:ws.length≤4:=by
     have:=hw.len
     rw [yA,yA] at this
     omega
    refine ⟨L,D,_,_,rfl,rfl,eL5,eD,bigE (by omega),G2,zs++ws,_,rfl,off5.drop.write (.head _) _,sG.trans sG2,zab,?_,fun y hy=>(yP.mp hy).elim (nz y) (nw y)⟩
    rw [yV,hr',ybL]
    refine (PLs.mono sG2 hz).append ?_
    show PLs G2 ws ([psr.map yZ].flatMap _)
    rw [ybb,List.flatMap_nil,vQ]
    exact hw
  ·rintro σ H4 ⟨G,zs,o4,rfl,off,sG,eL,hz,nz⟩
   have et:(zbj [[]] (css.take i)).take ys.length=zbj [[]] (css.take i):=by rw [hy.len,qB]
   rw [et,← zhq] at hz
   have e2:css.take (i+1)=css.take i++ [cs]:=by rw [yV,hcs];rfl
   rw [← e2] at hz
   exact ⟨_,rfl,L,zs,_,_,_,rfl,s3.trans (sG.trans off.same),s3.free hL,eL,PLs.mono off.same hz,nz⟩
 ·rintro σ H3 ⟨C,ys,o2,o3,o4,rfl,s3,nC,eC,hy,ny⟩
  rw [lx,qB] at hy
  exact ⟨_,rfl,q C ys H3 s3 nC eC hy ny⟩
theorem ziq:zav ["stuck","gate","wires"] ["stuck","gate","wires"] (zaj zdj):=⟨rfl,rfl,rfl,by decide+kernel,rfl,by decide+kernel,by decide+kernel⟩
theorem ziB (T:Txt K mg t):FnOk P w K mg base CX0 2 t.f_leg_pairs t.fd_leg_pairs ["stuck","gate","wires"] sp_lp:=by
 refine T.d_leg_pairs.F.okB ziq (fun vs H Q E h=>?_) (fun cdv A outer s H vs Q E hr h=>?_)
 ·obtain ⟨d,p,k,fs,xs,css,rfl,_⟩:=h
  rfl
 obtain ⟨d,p,k,fs,xs,css,rfl,hd,fb,hp,hx,l4,hl4,q⟩:=h
 have hu1:=zkA hr
 have lx:=hx.len
 refine ⟨_,(zag (zap (zaO rfl (N:=["leg","pairs","stuck","gate"]) (n:=2) (cap:=[0,1]) (zbt rfl rfl) (zdi rfl T.z_enumerate (zaa (bpv 2) (zac))) (zc9 (by decide) (by decide)) (fun _ _ _ _=>(zd6 (K:=K) (n:=2) rfl (zaz (zam (k:=0) (show (["leg","pairs","stuck","gate"]:List Str).Nodup by decide+kernel) rfl (Or.inl rfl)) (zaz (zam (k:=1) (show (["leg","pairs","stuck","gate"]:List Str).Nodup by decide+kernel) rfl (Or.inl rfl)) zbH)))) (fun _ _ _ _=>zaI) (fun _ _ _ _=>(zal (zdq T) (hr.mono (by decide)) rfl T.d_with_stuck.m T.d_with_stuck.F.kp T.d_with_stuck.b .nil zaR (zaa (bpv 1) (zaa (bpv 2) (zaa (zax (zaa zar (zaa (bpv 3) (zaa (bpv 0) (zac))))) (zac))))))))),?_⟩
 refine ⟨_,rfl,p,rfl,⟨_,.of hp⟩,fun D hD=>zfJ (K:=K) (a:=p) (xs:=xs) (fun j H2=>∃ (G:Hp) (ys:List V),Off [D] G H2∧Same H G∧H2 D=some (.lst ys)∧PLs G ys (zef fs k (css.take j)))
  ⟨H,[],Off.start hD _,Same.refl _,zab,.nil⟩ (fun j H2 _ ⟨_,_,o,s,_⟩=>.of ((s.trans o.same) _ _ hp)) ?_ ?_⟩
 ·rintro j y H2 T1 hy ⟨G,ys,off,sG,eD,hys⟩ h1
  obtain ⟨cs,hcs,hpy⟩:=hx.get hy
  have lj:j < css.length:=(yG.mp hcs).1
  have c4:cs.length≤4:=hl4 cs (yI hcs)
  have k1:=zae h1 (.tup [.int j,y])
  have of1:=off.new h1 (.tup [.int j,y])
  refine ⟨T1,_,rfl,.of zab,rfl,_,_,rfl,_,_,rfl,rfl,?_⟩
  refine ⟨_,rfl,_,rfl,_,rfl,_,rfl,(by show 3≤yL;decide),fun T2 h2=>?_⟩
  have k2:=zae h2 (.tup [.str "leg",.int k,.int j])
  have of2:=of1.new h2 (.tup [.str "leg",.int k,.int j])
  have s02:=sG.trans of2.same
  refine ⟨y,d,T2,cs,fs,legK k j,rfl,hpy.mono s02,by omega,s02 _ _ hd,zab,fb,fun v' H3 s3 res=>?_⟩
  have eD3:=s3 _ _ (k2 _ _ (k1 _ _ eD))
  have lys:ys.length≤4:=by
   have:=hys.len
   unfold zef at this
   rw [wJ,yR] at this
   omega
  have of3:=zc8 of2 s3
  have sn:=zcz (H':=H3) of2.same
  refine ⟨_,eD3,big (by omega),_,ys++ [v'],of3.write (.head _) _,sG.trans sn,zab,?_⟩
  have et:css.take (j+1)=css.take j++ [cs]:=by rw [yV,hcs];rfl
  have lt:(css.take j).length=j:=by rw [yR];omega
  rw [et,zkJ,lt]
  refine (PLs.mono sn hys).append (.cons ?_ .nil)
  rcases res with ⟨rfl,e⟩ | e
  ·rw [e]
   exact hpy.mono (sG.trans sn)
  ·exact e.pl
 ·rintro H2 ⟨G,ys,off,sG,eD,hys⟩
  rw [lx,qB] at hys
  exact q D ys H2 (sG.trans off.same) hD eD (PLs.mono off.same hys)
theorem zer:zav ["kind","legs","ahead"] ["kind","legs"] (zaj zcP):=⟨rfl,rfl,rfl,by decide+kernel,rfl,by decide+kernel,by decide+kernel⟩
theorem zjD {k m:Nat}(T:Txt K mg t)(hk: 2≤k)(rec:FnOk P w K mg base CX0 k t.f_gate_pairs t.fd_gate_pairs ["kind","legs"] (zl7 m)):FnOk P w K mg base CX0 (k+1) t.f_gate_pairs t.fd_gate_pairs ["kind","legs"] (zn6 (m+1)):=by
 refine T.d_gate_pairs.F.okB zer (fun vs H Q E h=>?_) (fun cdv A outer s H vs Q E hr h=>?_)
 ·obtain ⟨k,a,xs,css,rfl,_⟩:=h
  rfl
 obtain ⟨kd,a,xs,css,rfl,ha,hx,lk,lm,c4,q⟩:=h
 have hu64:=hr.units
 have lx:=hx.len
 have l4:=lk.le
 refine ⟨_,(zaf (zaT (zh7 (zlO (zay zin (bpv 0) (zde (v:=.ref t.c_FOLDED_KINDS) rfl T.g_FOLDED_KINDS rfl) rfl) (zj2 (zay znP (zaw zau rfl T.z_len jJ (zaa (bpv 1) (zac))) zad (zaX _))))) (zaf (zai (k:=2) zer.nd rfl (Or.inl rfl) (zal rec hr rfl T.d_gate_pairs.m T.d_gate_pairs.F.kp T.d_gate_pairs.b .nil zaR (zaa (bpv 0) (zaa (zaK zbX (bpv 1) zbE (zaH (zdx zdy zad))) (zac)))))
  (zag (zap (zal rec hr rfl T.d_gate_pairs.m T.d_gate_pairs.F.kp T.d_gate_pairs.b .nil zaR (zaa (bpv 0) (zaa (zat (zaa (bpv 2) (zaa (zan zaC (bpv 1) (zdx zdy zad) (fun _ _=>rfl)) (zac)))) (zac))))))) zaB)
  (zag (zap (zeq rfl hu64 rfl T.z_sorted rfl T.z_set (zaO rfl (N:=["choice","kind"]) (n:=1) (cap:=[0]) (zbt rfl rfl) (zaJ (zal (zgf T) (hr.mono (qX (by decide) hk)) rfl T.d_every_choice.m T.d_every_choice.F.kp T.d_every_choice.b .nil zaR (zaa (bpv 1) (zac)))) (zaL (by decide)) (fun _ _ _ _=>(zam (k:=0) (show (["choice","kind"]:List Str).Nodup by decide+kernel) rfl (Or.inl rfl))) (fun _ _ _ _=>zaI) (fun _ _ _ _=>(zal (zgA T) (hr.mono (qX (by decide) hk)) rfl T.d_chosen_pair.m T.d_chosen_pair.F.kp T.d_chosen_pair.b .nil zaR (zaa (bpv 1) (zaa (bpv 0) (zac)))))))))),?_⟩
 refine ⟨_,rfl,t.c_FOLDED_KINDS,_,rfl,.inr (T.k_FOLDED_KINDS.sq (by decide)),rfl,rfl,_,rfl,?_⟩
 have hin:=zlZ kd
 refine ite2 (fun c=>?_) (fun c=>?_)
 ·have fk:zfm kd:=hin.mp c
  have hm:=lm fk
  refine ⟨_,rfl,a,_,rfl,.inl (.of ha),_,_,rfl,rfl,_,rfl,ite2 (fun c2=>?_) (fun c2=>?_)⟩
  ·have l2: 2 < css.length:=by have:=of_decide_eq_true c2;omega
   have hne:css≠[]:=fun z=>by rw [z] at l2;cases l2
   obtain ⟨as,b,rfl⟩:∃ as b,css=as++ [b]:=⟨css.dropLast,css.getLast hne,(List.dropLast_concat_getLast hne).symm⟩
   obtain ⟨ys,y,rfl,hys,hyl⟩:=PLs.split hx
   rw [yJ,qO] at l2 hm l4
   have cas:∀ cs∈as,zch cs:=fun cs hc=>hx.codes cs (jS _ hc)
   have cb:zch b:=hyl.codes
   refine ⟨_,rfl,_,rfl,_,rfl,_,rfl,a,_,rfl,.of ha,fun T1 h1=>?_⟩
   rw [show (-(1:Int))= -1 from rfl,zdT]
   have k1:=zae h1 (.lst ys)
   refine ⟨kd,T1,ys,as,rfl,zab,PLs.mono k1 hys,fk,by omega,by omega,by omega,fun cs hc=>c4 cs (jS _ hc),fun v1 H2 s2 pn=>?_⟩
   have s02:=k1.trans s2
   refine ⟨_,rfl,_,rfl,_,rfl,_,rfl,a,_,_,_,rfl,rfl,.of (s02 _ _ ha),zmg _ _,(by show 2≤yL;decide),fun L hL=>?_⟩
   have k3:=zae hL (.lst [v1,y])
   refine ⟨kd,L,[v1,y],[zfi kd as,b],rfl,zab,.cons (pn.here.mono k3) (.cons (hyl.mono (s02.trans k3)) .nil),fk,(by show 2≤2;decide),(by show 2≤m;omega),(by show 2≤4;decide),?_,fun v2 H3 s3 pn2=>?_⟩
   ·intro cs hc
    rcases yO.mp hc with rfl | hc
    ·exact zdl _
    ·rw [yF.mp hc]
     exact c4 b (jG _ (yF.mpr rfl))
   ·refine q v2 H3 ((s02.trans k3).trans s3) ?_
    rw [zkE fk cas cb]
    exact pn2.older (s02.trans k3)
  ·refine ⟨_,rfl,a,xs,css,rfl,ha,hx,l4,c4,fun R ys H1 s1 nR eR hy _=>⟨R,rfl,⟨_,.of eR⟩,fun D hD=>za0 (K:=K) (a:=R) (xs:=ys)
    (fun j H4=>Same H1 H4∧∃ qs:List (Nat×Addr),qs.map yZ=((choices css).take j).map (zbL kd)∧H4 D=some (.lst (qs.map fun p=>V.ref p.2))∧∀ p∈qs,p.1 < 4∧H4 p.2=some (zek p.1)∧p.2≠D∧H p.2=none)
    ⟨zae hD _,[],rfl,zab,fun _ z=>(qJ z).elim⟩ (fun j H4 _ z=>.of (z.1 _ _ eR)) ?_ ?_⟩⟩
   ·rintro j y H4 hyj ⟨s4,qs,eq,eD,hq⟩
    obtain ⟨r,hr',ly,psr,rfl,hly,rfl,hpr⟩:=hy.get hyj
    have chn:=zaP.mp (show psr.map yZ∈choices css from yI hr')
    have lpr:psr.length=css.length:=by have:=chn.length;rw [yA] at this;exact this
    have lkr:zbh kd (psr.map yZ).length:=by rw [yA,lpr];exact lk
    have cdr:zch (psr.map yZ):=chn.codes hx.codes
    have lq:qs.length≤256:=by
     have h1:=congrArg vC eq
     have h2:=zdc css [[]] c4
     have h3:=xC (n:=4) (by decide) l4
     rw [yA,yA,yR] at h1
     have h4:(choices css).length≤1 * 4 ^ css.length:=h2
     omega
    refine ⟨_,rfl,_,rfl,kd,ly,psr,rfl,s4 _ _ hly,fun p hp=>⟨(hpr p hp).1,s4 _ _ (hpr p hp).2⟩,by rw [lpr];exact lk,fun rr H5 s5 nr er=>?_⟩
    have nrD:rr≠D:=fun z=>by rw [z,eD] at nr;cases nr
    refine ⟨_,s5 _ _ eD,big (by rw [yA];omega),(s4.trans s5).write hD _,qs++ [(zbL kd (psr.map yZ),rr)],?_,?_,?_⟩
    ·rw [yM,eq,yV,hr',yM]
     rfl
    ·rw [zab,yM]
     rfl
    ·intro x hx'
     rcases yP.mp hx' with hx' | hx'
     ·obtain ⟨a1,a2,a3⟩:=hq x hx'
      exact ⟨a1,by rw [zak a3.1];exact s5 _ _ a2,a3⟩
     ·rw [yF.mp hx']
      exact ⟨zfX cdr lkr,by rw [zak nrD];exact er,nrD,s1.free (s4.free nr)⟩
   ·rintro H4 ⟨s4,qs,eq,eD,hq⟩
    rw [hy.len,qB] at eq
    refine ⟨D,qs,rfl,eD,fun p hp'=>⟨(hq p hp').1,(hq p hp').2.1⟩,fun D2 L nD2 eL hL=>?_⟩
    refine q _ _ ((s1.trans s4).upd nD2 _) ⟨D2,L,rfl,(s1.trans s4).free nD2,zab,by rw [eL,eq];rfl,fun p hp'=>⟨(hq p (hL p hp')).1,(hq p (hL p hp')).2.2.2,?_⟩⟩
    have a2:=(hq p (hL p hp')).2.1
    rw [zak (fun z=>by rw [z,nD2] at a2;cases a2)]
    exact a2
 ·refine ⟨_,rfl,a,xs,css,rfl,ha,hx,l4,c4,fun R ys H1 s1 nR eR hy _=>⟨R,rfl,⟨_,.of eR⟩,fun D hD=>za0 (K:=K) (a:=R) (xs:=ys)
   (fun j H4=>Same H1 H4∧∃ qs:List (Nat×Addr),qs.map yZ=((choices css).take j).map (zbL kd)∧H4 D=some (.lst (qs.map fun p=>V.ref p.2))∧∀ p∈qs,p.1 < 4∧H4 p.2=some (zek p.1)∧p.2≠D∧H p.2=none)
   ⟨zae hD _,[],rfl,zab,fun _ z=>(qJ z).elim⟩ (fun j H4 _ z=>.of (z.1 _ _ eR)) ?_ ?_⟩⟩
  ·rintro j y H4 hyj ⟨s4,qs,eq,eD,hq⟩
   obtain ⟨r,hr',ly,psr,rfl,hly,rfl,hpr⟩:=hy.get hyj
   have chn:=zaP.mp (show psr.map yZ∈choices css from yI hr')
   have lpr:psr.length=css.length:=by have:=chn.length;rw [yA] at this;exact this
   have lkr:zbh kd (psr.map yZ).length:=by rw [yA,lpr];exact lk
   have cdr:zch (psr.map yZ):=chn.codes hx.codes
   have lq:qs.length≤256:=by
    have h1:=congrArg vC eq
    have h2:=zdc css [[]] c4
    have h3:=xC (n:=4) (by decide) l4
    rw [yA,yA,yR] at h1
    have h4:(choices css).length≤1 * 4 ^ css.length:=h2
    omega
   refine ⟨_,rfl,_,rfl,kd,ly,psr,rfl,s4 _ _ hly,fun p hp=>⟨(hpr p hp).1,s4 _ _ (hpr p hp).2⟩,by rw [lpr];exact lk,fun rr H5 s5 nr er=>?_⟩
   have nrD:rr≠D:=fun z=>by rw [z,eD] at nr;cases nr
   refine ⟨_,s5 _ _ eD,big (by rw [yA];omega),(s4.trans s5).write hD _,qs++ [(zbL kd (psr.map yZ),rr)],?_,?_,?_⟩
   ·rw [yM,eq,yV,hr',yM]
    rfl
   ·rw [zab,yM]
    rfl
   ·intro x hx'
    rcases yP.mp hx' with hx' | hx'
    ·obtain ⟨a1,a2,a3⟩:=hq x hx'
     exact ⟨a1,by rw [zak a3.1];exact s5 _ _ a2,a3⟩
    ·rw [yF.mp hx']
     exact ⟨zfX cdr lkr,by rw [zak nrD];exact er,nrD,s1.free (s4.free nr)⟩
  ·rintro H4 ⟨s4,qs,eq,eD,hq⟩
   rw [hy.len,qB] at eq
   refine ⟨D,qs,rfl,eD,fun p hp'=>⟨(hq p hp').1,(hq p hp').2.1⟩,fun D2 L nD2 eL hL=>?_⟩
   refine q _ _ ((s1.trans s4).upd nD2 _) ⟨D2,L,rfl,(s1.trans s4).free nD2,zab,by rw [eL,eq];rfl,fun p hp'=>⟨(hq p (hL p hp')).1,(hq p (hL p hp')).2.2.2,?_⟩⟩
   have a2:=(hq p (hL p hp')).2.1
   rw [zak (fun z=>by rw [z,nD2] at a2;cases a2)]
   exact a2
theorem zhx (T:Txt K mg t):FnOk P w K mg base CX0 5 t.f_gate_pairs t.fd_gate_pairs ["kind","legs"] sp_gp:=by
 have g1:FnOk P w K mg base CX0 2 t.f_gate_pairs t.fd_gate_pairs ["kind","legs"] (zl7 1):=⟨fun vs H Q E ⟨_,_,_,_,_,_,_,_,l2,l1,_⟩=>absurd l2 (by omega),fun A outer s H args us vs Q E hr a b c ⟨_,_,_,_,_,_,_,_,l2,l1,_⟩=>absurd l2 (by omega)⟩
 have g2:=zjD T (by decide) g1
 have g3:=zjD T (by decide) (g2.imp fun vs H Q E h=>zon h)
 have g4:=zjD T (by decide) (g3.imp fun vs H Q E h=>zon h)
 exact g4.imp fun vs H Q E ⟨k,a,xs,css,e,ha,hx,lk,c4,q⟩=>⟨k,a,xs,css,e,ha,hx,lk,fun _=>lk.le,c4,q⟩
theorem zaS:zav ["works","stuck","known","pairs","wire","worth","gate","body","read","told"] ["works","stuck","known"] (zaj zcr):=⟨rfl,rfl,rfl,by decide+kernel,rfl,by decide+kernel,by decide+kernel⟩
theorem zed (T:Txt K mg t):FnOk P w K mg base CX0 6 t.f_every_pairs t.fd_every_pairs ["works","stuck","known"] (sp_ep K):=by
 refine T.d_every_pairs.F.okB zaS (fun vs H Q E h=>?_) (fun cdv A outer s H vs Q E hr h=>?_)
 ·obtain ⟨x,d,p,w,fs,ks,rfl,_⟩:=h
  rfl
 obtain ⟨x,d,p,w,fs,ks,rfl,hx,wf,hd,fb,hp,hl,kb,q⟩:=h
 obtain ⟨a,ga,oa,gs,os,rfl,ha,hg,ho,rg,ro⟩:=zbs hx
 have hu1:=zkA hr
 have lg:gs.length=w.gates.length:=by rw [rg.length,yA]
 have i1:=wf.i1
 have i6:=wf.i6
 have few:=wf.few
 refine ⟨_,(zaf (zai (k:=3) zaS.nd rfl (Or.inr rfl) (zat zac))
  (zaf (za4 qV rfl (zdi rfl T.z_enumerate (zaa (bpv 2) (zac))) (zeW rfl (zaz (zam (k:=4) zaS.nd rfl (Or.inl rfl)) (zaz (zam (k:=5) zaS.nd rfl (Or.inl rfl)) zbH))) (zag (zbv (zcG qQ jC jD zbl (bpv 3) (zaa (zal (zdq T) (hr.mono (by decide)) rfl T.d_with_stuck.m T.d_with_stuck.F.kp T.d_with_stuck.b .nil zaR (zaa (zal (zgx T) (hr.mono (by decide)) rfl T.d_input_pairs.m T.d_input_pairs.F.kp T.d_input_pairs.b .nil zaR (zaa (bpv 5) (zac))) (zaa (bpv 1) (zaa (zax (zaa zar (zaa (bpv 4) (zac)))) (zac))))) (zac))))))
  (zaf (za4 qV rfl (zdi rfl T.z_enumerate (zaa (zan zaM (bpv 0) zad (fun _ _=>rfl)) (zac))) (zeW rfl (zaz (zam (k:=6) zaS.nd rfl (Or.inl rfl)) (zaz (zam (k:=7) zaS.nd rfl (Or.inl rfl)) zbH))) (zaf (zai (k:=8) zaS.nd rfl (Or.inl rfl) (zal (ziB T) (hr.mono (by decide)) rfl T.d_leg_pairs.m T.d_leg_pairs.F.kp T.d_leg_pairs.b .nil zaR (zaa (bpv 1) (zaa (bpv 6) (zaa (zaO rfl (N:=["leg","pairs"]) (n:=1) (cap:=[3]) (zbt rfl rfl) (zmb (zan zaM (bpv 7) zad (fun _ _=>rfl))) (zaL (by decide)) (fun _ _ _ _=>(zam (k:=0) (show (["leg","pairs"]:List Str).Nodup by decide+kernel) rfl (Or.inl rfl))) (fun _ _ _ _=>zaI) (fun _ _ _ _=>(zan (zew (K:=K)) (bpv 1) (bpv 0) (fun _ _=>rfl)))) (zac))))))
  (zaf (zai (k:=9) zaS.nd rfl (Or.inl rfl) (zal (zhx T) (hr.mono (by decide)) rfl T.d_gate_pairs.m T.d_gate_pairs.F.kp T.d_gate_pairs.b .nil zaR (zaa (zan zaM (bpv 7) zad (fun _ _=>rfl)) (zaa (bpv 8) (zac)))))
  (zag (zbv (zcG qQ jC jD zbl (bpv 3) (zaa (zal (zdq T) (hr.mono (by decide)) rfl T.d_with_stuck.m T.d_with_stuck.F.kp T.d_with_stuck.b .nil zaR (zaa (bpv 9) (zaa (bpv 1) (zaa (zax (zaa zar (zaa (zah zaZ (zan zaM (bpv 0) zad (fun _ _=>rfl)) (bpv 6)) (zac)))) (zac))))) (zac))))))))
  (zag (zap (bpv 3)))))),?_⟩
 refine ⟨(by show 0≤yL;decide),fun R hR=>?_⟩
 have kR:=zae hR (.lst [])
 refine ⟨_,rfl,p,rfl,⟨_,.of (kR _ _ hp)⟩,zfs (K:=K) (a:=p) (xs:=ks.map optV)
  (fun i σ H3=>∃ (G:Hp) (ys:List V) (o4 o5 o6 o7 o8 o9:Option V),σ = [some (.ref a),some (.ref d),some (.ref p),some (.ref R),o4,o5,o6,o7,o8,o9]∧Off [R] G H3∧Same H G∧H3 R=some (.lst ys)∧PLN H G ys (rowP fs (ks.take i)))
  ⟨H,[],_,_,_,_,_,_,rfl,Off.start hR _,Same.refl _,zab,.nil⟩ (fun i σ H3 _ ⟨_,_,_,_,_,_,_,_,_,o,s,_⟩=>.of ((s.trans o.same) _ _ hp)) ?_ ?_⟩
 ·rintro i y σ H3 T1 hy ⟨G,ys,o4,o5,o6,o7,o8,o9,rfl,off,sG,eR,hys⟩ h1
  rw [yE] at hy
  cases hz:ks[i]? with
  | none=>rw [hz] at hy;cases hy
  | some o=>
   rw [hz] at hy
   cases hy
   have li:i < ks.length:=(yG.mp hz).1
   have k1:=zae h1 (.tup [.int i,optV o])
   have of1:=off.new h1 (.tup [.int i,optV o])
   have lys:ys.length≤6:=by
    have:=hys.len
    rw [zj0,yR] at this
    omega
   refine ⟨T1,_,rfl,.of zab,rfl,_,_,rfl,_,_,rfl,rfl,?_⟩
   refine ⟨_,rfl,.inl ⟨rfl,_,.of (k1 _ _ eR)⟩,_,rfl,o,rfl,kb o (yI hz),fun v H4 s4 pv=>?_⟩
   have of4:=zc8 of1 s4
   have sn4:=zcz (H':=H4) of1.same
   have pv4:=pv.news (G:=G) (sG.trans of1.same)
   refine ⟨_,rfl,_,rfl,(by show 2≤yL;decide),fun T2 h2=>?_⟩
   have k2:=zae h2 (.tup [.str "wire",.int i])
   have of5:=of4.new h2 (.tup [.str "wire",.int i])
   have s05:=(sG.trans sn4).trans of5.same
   refine ⟨v,d,T2,inP o,fs,zbd i,rfl,pv4.here.mono of5.same,qX (zn4 o) (by decide),s05 _ _ hd,zab,fb,fun v' H6 s6 res=>?_⟩
   have of6:=zc8 of5 s6
   have sn6:=zcz (H':=H6) of5.same
   have eR6:=s6 _ _ (k2 _ _ (s4 _ _ (k1 _ _ eR)))
   refine ⟨R,_,_,rfl,rfl,eR6,big (by omega),_,ys++ [v'],_,_,_,_,_,_,rfl,of6.write (.head _) _,(sG.trans sn4).trans sn6,zab,?_⟩
   have et:ks.take (i+1)=ks.take i++ [o]:=by rw [yV,hz];rfl
   have lt:(ks.take i).length=i:=by rw [yR];omega
   rw [et,zmZ,lt]
   refine (PLN.mono (sn4.trans sn6) hys).append (.cons ?_ .nil)
   rcases res with ⟨rfl,e⟩ | e
   ·rw [e]
    exact pv4.mono sn6
   ·exact e.news s05
 rintro σ H3 ⟨G,ys,o4,o5,o6,o7,o8,o9,rfl,off,sG,eR,hys⟩
 rw [yA,qB] at hys
 have s3:=sG.trans off.same
 refine ⟨_,rfl,a,_,_,_,rfl,rfl,s3.seqT ha,rfl,ga,rfl,⟨_,s3.seq hg⟩,zfs (K:=K) (a:=ga) (xs:=gs)
  (fun i σ H3=>∃ (G:Hp) (ys:List V) (o4 o5 o6 o7 o8 o9:Option V),σ = [some (.ref a),some (.ref d),some (.ref p),some (.ref R),o4,o5,o6,o7,o8,o9]∧Off [R] G H3∧Same H G∧H3 R=some (.lst ys)∧PLN H G ys (zaQ fs w.gates ks i))
  ⟨G,ys,_,_,_,_,_,_,rfl,off,sG,eR,hys⟩ (fun i σ H3 _ ⟨_,_,_,_,_,_,_,_,_,o,s,_⟩=>(s.trans o.same).seq hg) ?_ ?_⟩
 ·clear hys eR s3 sG off
  rintro i y σ H3 T1 hy ⟨G,ys,o4,o5,o6,o7,o8,o9,rfl,off,sG,eR,hys⟩ h1
  have hi:i < gs.length:=(yG.mp hy).1
  obtain ⟨g,hgk⟩:∃ g,w.gates[i]? =some g:=⟨_,yC (by omega)⟩
  obtain ⟨dd,hdd,rv⟩:=rg.get hy
  rw [yE,hgk] at hdd
  cases hdd
  obtain ⟨a1,la,rfl,hA,hL⟩:=zfW rv
  obtain ⟨lk,lb⟩:=wf.legs i g hgk
  have l4:=lk.le
  have lw:=zc6 fs w.gates ks i
  have lys:ys.length=ks.length+i:=hys.len.trans lw
  have k1:=zae h1 (.tup [.int i,.ref a1])
  have of1:=off.new h1 (.tup [.int i,.ref a1])
  have e1:=k1 _ _ eR
  have s1:=sG.trans of1.same
  refine ⟨T1,_,rfl,.of zab,rfl,_,_,rfl,_,_,rfl,rfl,?_⟩
  refine ⟨_,rfl,_,rfl,_,rfl,a1,_,_,_,rfl,rfl,s1.seqT hA,rfl,la,rfl,⟨_,s1.seqT hL⟩,fun D hD=>zjV (K:=K) (a:=la) (xs:=g.2.map V.int)
   (fun j H5=>Same (upd H3 T1 (.tup [.int i,.ref a1])) H5∧H5 D=some (.lst ((g.2.take j).map fun l=>ys.getD l.toNat V.non))) ⟨zae hD _,zab⟩ (fun j H5 _ z=>(s1.trans z.1).seqT hL) ?_ ?_⟩
  ·rintro j z H5 hzj ⟨s5,eD⟩
   rw [yE] at hzj
   cases hz:g.2[j]? with
   | none=>rw [hz] at hzj;cases hzj
   | some l=>
    rw [hz] at hzj
    cases hzj
    have bl:=lb l (yI hz)
    have lj:j < g.2.length:=(yG.mp hz).1
    have at':atI ys l=some (ys.getD l.toNat V.non):=by
     have hk:l.toNat < ys.length:=by omega
     have q1:atI ys ((l.toNat:Nat):Int)=some ys[l.toNat]:=zcf (yC hk)
     rw [show ((l.toNat:Nat):Int)=l by omega] at q1
     rw [q1,yK,yC hk]
     rfl
    refine ⟨_,rfl,_,rfl,R,_,_,_,rfl,rfl,.of (s5 _ _ e1),at',?_⟩
    refine ⟨_,eD,big (by simp;omega),s5.write hD _,?_⟩
    rw [zab,yV,hz]
    simp
  rintro H5 ⟨s5,eD⟩
  have et:g.2.take (g.2.map V.int).length=g.2:=by rw [yA,qB]
  rw [et] at eD
  have of5:=of1.grow s5
  have s05:=sG.trans of5.same
  have c4:∀ cs∈g.2.map (fun l=>(zaQ fs w.gates ks i).getD l.toNat []),cs.length≤4:=fun cs hc=>by
   obtain ⟨l,hl',rfl⟩:=yS.mp hc
   have bl:=lb l hl'
   have hk:l.toNat < (zaQ fs w.gates ks i).length:=by omega
   rw [yK,yC hk]
   exact zfL fs w.gates ks i _ (jO hk)
  refine ⟨d,D,(i:Int),fs,_,_,rfl,s05 _ _ hd,fb,eD,PLs.mono of5.same ((PLN.pls hys).pick fun l hl'=>by have:=lb l hl';omega),by rw [yA];exact l4,c4,fun R2 ys2 H6 s6 nR2 eR2 hys2=>?_⟩
  have of6:=of5.grow s6
  have s06:=sG.trans of6.same
  refine ⟨_,rfl,a1,_,_,_,rfl,rfl,s06.seqT hA,rfl,_,rfl,g.1,R2,ys2,_,rfl,eR2,hys2,by rw [zhV,yA];exact lk,znv c4,fun v7 H7 s7 pn=>?_⟩
  have of7:=zc8 of6 s7
  have sn7:=zcz (H':=H7) of6.same
  have pv7:=pn.news (G:=G) s06
  have s07:=(sG.trans sn7).trans of7.same
  have eR7:=s7 _ _ (s6 _ _ (s5 _ _ e1))
  refine ⟨_,rfl,.inl ⟨rfl,_,.of eR7⟩,_,rfl,_,rfl,_,rfl,a,_,_,_,rfl,rfl,s07.seqT ha,rfl,_,rfl,_,_,rfl,rfl,(by show 2≤yL;decide),fun T2 h2=>?_⟩
  have k2:=zae h2 (.tup [.str "wire",.int (w.ins+(i:Int))])
  have of8:=of7.new h2 (.tup [.str "wire",.int (w.ins+(i:Int))])
  have s08:=(sG.trans sn7).trans of8.same
  have ei:w.ins+(i:Int)=((ks.length+i:Nat):Int):=by omega
  refine ⟨v7,d,T2,_,fs,zbd ((ks.length+i:Nat):Int),rfl,pv7.here.mono of8.same,qX (zdl _) (by decide),s08 _ _ hd,(by rw [zab];show some (HO.tup [V.str "wire",V.int (w.ins+(i:Int))])=_;rw [ei];rfl),fb,fun v' H9 s9 res=>?_⟩
  have of9:=zc8 of8 s9
  have sn9:=zcz (H':=H9) of8.same
  refine ⟨R,_,_,rfl,rfl,s9 _ _ (k2 _ _ eR7),big (by omega),_,ys++ [v'],_,_,_,_,_,_,rfl,of9.write (.head _) _,(sG.trans sn7).trans sn9,zab,?_⟩
  rw [zaQ,hgk]
  refine (PLN.mono (sn7.trans sn9) hys).append (.cons ?_ .nil)
  rcases res with ⟨rfl,e⟩ | e
  ·show PLn H _ _ (zfn (look fs _) _)
   rw [e]
   exact pv7.mono sn9
  ·exact e.news s08
 ·clear hys eR s3 sG off
  rintro σ H3 ⟨G,ys,o4,o5,o6,o7,o8,o9,rfl,off,sG,eR,hys⟩
  rw [lg] at hys
  exact ⟨_,rfl,q R ys H3 (sG.trans off.same) hR eR (PLN.mono off.same hys)⟩
theorem ziU:zav ["pairs"] ["pairs"] (zaj zdn):=⟨rfl,rfl,rfl,by decide+kernel,rfl,by decide+kernel,by decide+kernel⟩
theorem zh0 (T:Txt K mg t):FnOk P w K mg base CX0 1 t.f_are_alike t.fd_are_alike ["pairs"] sp_aa:=by
 refine T.d_are_alike.F.okB ziU (fun vs H Q E h=>?_) (fun cdv A outer s H vs Q E hr h=>?_)
 ·obtain ⟨v,cs,rfl,_⟩:=h
  rfl
 obtain ⟨v,cs,rfl,⟨l,ps,rfl,hl,rfl,hp⟩,lz,q⟩:=h
 have hu64:=hr.units
 have lz':ps.length≤16:=by rw [yA] at lz;exact lz
 refine ⟨_,(zag (zap (zaw (zgk rfl) rfl T.z_all yaB (zaa (zaO rfl (N:=["right","wrong"]) (n:=2) (cap:=[]) (zbt rfl rfl) (zaJ (bpv 0)) (zc9 (by decide) (by decide)) (fun _ _ _ _=>(zd6 (K:=K) (n:=2) rfl (zaz (zam (k:=0) (show (["right","wrong"]:List Str).Nodup by decide+kernel) rfl (Or.inl rfl)) (zaz (zam (k:=1) (show (["right","wrong"]:List Str).Nodup by decide+kernel) rfl (Or.inl rfl)) zbH)))) (fun _ _ _ _=>zaI) (fun _ _ _ _=>(zfr zdg (bpv 0) (bpv 1) (zaX _)))) (zac))))),?_⟩
 refine ⟨_,rfl,l,rfl,⟨_,.of hl⟩,fun D hD=>za0 (K:=K) (a:=l) (xs:=ps.map fun p=>V.ref p.2)
   (fun j H4=>Same H H4∧H4 D=some (.lst ((((ps.map yZ).take j).map fun c=>decide (hiV c=loV c)).map V.bl)))
   ⟨zae hD _,zab⟩ (fun j H4 _ z=>.of (z.1 _ _ hl)) ?_ ?_⟩
 ·rintro j y H4 hy ⟨s4,eD⟩
  rw [yE] at hy
  cases hz:ps[j]? with
  | none=>rw [hz] at hy;cases hy
  | some p=>
   rw [hz] at hy
   cases hy
   have hm:=yI hz
   have lj:j < ps.length:=(yG.mp hz).1
   have hpo:=s4 _ _ (hp p hm).2
   refine ⟨p.2,_,rfl,.of hpo,rfl,_,_,rfl,_,_,rfl,rfl,?_⟩
   refine ⟨_,rfl,_,rfl,rfl,?_⟩
   refine ⟨_,eD,big (by rw [yA,yA,yR];omega),s4.write hD _,?_⟩
   rw [zab,yV,yE,hz,yM,yM]
   have e:decide (V.int ((p.1 / 2:Nat):Int)=V.int ((p.1 % 2:Nat):Int))=decide (hiV p.1=loV p.1):=by
    by_cases c:hiV p.1=loV p.1
    ·rw [decide_eq_true c]
     exact decide_eq_true (congrArg V.int c)
    ·rw [decide_eq_false c]
     exact decide_eq_false fun z=>c (V.int.inj z)
   show some (HO.lst (_++ [V.bl (decide (V.int ((p.1 / 2:Nat):Int)=V.int ((p.1 % 2:Nat):Int)))]))=_
   rw [e]
   rfl
 rintro H4 ⟨s4,eD⟩
 rw [yA,jR (by rw [yA];exact yN _)] at eD
 refine ⟨D,_,rfl,.of eD,?_⟩
 have e:(((ps.map yZ).map fun c=>decide (hiV c=loV c)).all id)=(ps.map yZ).all fun c=>decide (hiV c=loV c):=by rw [yb9];rfl
 rw [e]
 exact q H4 s4
theorem zdz:zav ["works","stuck","known","pairs"] ["works","stuck","known"] (zaj zbW):=⟨rfl,rfl,rfl,by decide+kernel,rfl,by decide+kernel,by decide+kernel⟩
theorem zdw (T:Txt K mg t):FnOk P w K mg base CX0 7 t.f_outputs_alike t.fd_outputs_alike ["works","stuck","known"] (sp_oal K):=by
 refine T.d_outputs_alike.F.okB zdz (fun vs H Q E h=>?_) (fun cdv A outer s H vs Q E hr h=>?_)
 ·obtain ⟨x,d,p,w,fs,ks,rfl,_⟩:=h
  rfl
 obtain ⟨x,d,p,w,fs,ks,rfl,hx,wf,hd,fb,hp,hl,kb,q⟩:=h
 have hu64:=hr.units
 obtain ⟨a,ga,oa,gs,os,rfl,ha,hg,ho,rg,ro⟩:=zbs hx
 refine ⟨_,(zaf (zai (k:=3) zdz.nd rfl (Or.inr rfl) (zal (zed T) (hr.mono (by decide)) rfl T.d_every_pairs.m T.d_every_pairs.F.kp T.d_every_pairs.b .nil zaR (zaa (bpv 0) (zaa (bpv 1) (zaa (bpv 2) (zac))))))
  (zag (zap (zaw (zgk rfl) rfl T.z_all yaB (zaa (zaO rfl (N:=["wire","pairs"]) (n:=1) (cap:=[3]) (zbt rfl rfl) (zaJ (zan zaM (bpv 0) zad (fun _ _=>rfl))) (zaL (by decide)) (fun _ _ _ _=>(zam (k:=0) (show (["wire","pairs"]:List Str).Nodup by decide+kernel) rfl (Or.inl rfl))) (fun _ _ _ _=>zaI) (fun _ _ _ _=>(zal (zh0 T) (hr.mono (by decide)) rfl T.d_are_alike.m T.d_are_alike.F.kp T.d_are_alike.b .nil zaR (zaa (zan (zew (K:=K)) (bpv 1) (bpv 0) (fun _ _=>rfl)) (zac))))) (zac)))))),?_⟩
 refine ⟨_,rfl,_,rfl,_,rfl,.ref a,d,p,w,fs,ks,rfl,hx,wf,hd,fb,hp,hl,kb,fun R ys H1 s1 nR eR hys=>?_⟩
 have lw:=zc6 fs w.gates ks w.gates.length
 have lys:=hys.len.trans lw
 have ho1:=s1.seq ho
 have lo:w.outs.length≤40:=wf.o3
 have eos:=zga ro
 subst eos
 refine ⟨_,rfl,a,_,_,_,rfl,rfl,s1.seqT ha,rfl,oa,rfl,⟨_,ho1⟩,fun D hD=>za0 (K:=K) (a:=oa) (xs:=w.outs.map V.int)
  (fun j H4=>Same H1 H4∧H4 D=some (.lst (((w.outs.take j).map fun o=>((zaQ fs w.gates ks w.gates.length).getD o.toNat []).all fun c=>decide (hiV c=loV c)).map V.bl)))
  ⟨zae hD _,zab⟩ (fun j H4 _ z=>z.1.seq ho1) ?_ ?_⟩
 ·rintro j y H4 hy ⟨s4,eD⟩
  rw [yE] at hy
  cases hz:w.outs[j]? with
  | none=>rw [hz] at hy;cases hy
  | some o=>
   rw [hz] at hy
   cases hy
   have lj:j < w.outs.length:=(yG.mp hz).1
   obtain ⟨o0,o1⟩:=wf.outs o (yI hz)
   have hk:o.toNat < ys.length:=by omega
   have q1:atI ys ((o.toNat:Nat):Int)=some ys[o.toNat]:=zcf (yC hk)
   rw [show ((o.toNat:Nat):Int)=o by omega] at q1
   obtain ⟨cs,hc,pn⟩:=hys.get (yC hk)
   have lc:cs.length≤4:=zfL fs w.gates ks w.gates.length cs (yI hc)
   refine ⟨_,rfl,_,rfl,R,_,_,_,rfl,rfl,.of (s4 _ _ eR),q1,_,cs,rfl,pn.here.mono s4,by omega,fun H5 s5=>?_⟩
   refine ⟨_,s5 _ _ eD,big (by rw [yA,yA,yR];omega),(s4.trans s5).write hD _,?_⟩
   rw [zab,yV,hz,yM,yM]
   have e:(zaQ fs w.gates ks w.gates.length).getD o.toNat []=cs:=by rw [yK,hc];rfl
   show _=some (HO.lst (_++ [V.bl (((zaQ fs w.gates ks w.gates.length).getD o.toNat []).all fun c=>decide (hiV c=loV c))]))
   rw [e]
 rintro H4 ⟨s4,eD⟩
 rw [yA,qB] at eD
 refine ⟨D,_,rfl,.of eD,?_⟩
 rw [yb9]
 exact q H4 (s1.trans s4)
theorem zcL:zav ["works","stuck","known","paper","place","low","high"] ["works","stuck","known","paper"] (zaj zdt):=⟨rfl,rfl,rfl,by decide+kernel,rfl,by decide+kernel,by decide+kernel⟩
theorem zpv {k m:Nat}(T:Txt K mg t)(hk: 7≤k)(rec:FnOk P w K mg base CX0 k t.f_is_let_by t.fd_is_let_by ["works","stuck","known","paper"] (zjT K m)):FnOk P w K mg base CX0 (k+1) t.f_is_let_by t.fd_is_let_by ["works","stuck","known","paper"] (zjT K (m+1)):=by
 refine T.d_is_let_by.F.okB zcL (fun vs H Q E h=>?_) (fun cdv A outer s H vs Q E hr h=>?_)
 ·obtain ⟨x,v,d,p,w,fs,ks,pp,rfl,_⟩:=h
  rfl
 obtain ⟨x,v,d,p,w,fs,ks,pp,rfl,hx,wf,hd,fb,hp,hl,kb,hv,dp,q⟩:=h
 have hu64:=hr.units
 obtain ⟨a,ga,oa,gs,os,rfl,ha,hg,ho,rg,ro⟩:=zbs hx
 refine ⟨_,(zaf (zaT (zay zdg (zan zaM (bpv 3) zad (fun _ _=>rfl)) zar (zaX _)) (zag (zap (zal (zdw T) (hr.mono (qX (by decide) hk)) rfl T.d_outputs_alike.m T.d_outputs_alike.F.kp T.d_outputs_alike.b .nil zaR (zaa (bpv 0) (zaa (bpv 1) (zaa (bpv 2) (zac))))))) zaB)
  (zaf (zai (k:=4) zcL.nd rfl (Or.inl rfl) (zan zaM (bpv 3) zad (fun _ _=>rfl)))
  (zaf (zaT (zh7 (zmr (zmR (zmF op_le op_lt zad (bpv 4) (zan zaM (bpv 0) zad (fun _ _=>rfl)))) (zjt (zgr (zm5 (zan zaC (bpv 2) (bpv 4) (fun _ _=>rfl))))))) (zag (zap zf7)) zaB)
  (zaf (zai (k:=5) zcL.nd rfl (Or.inl rfl) (zah zca (zah zca (zaK zbX (bpv 2) zbE (zaH (bpv 4))) (zat (zaa zad (zac)))) (zaK zbX (bpv 2) (zaH (zah zaZ (bpv 4) zad)) zbE)))
  (zaf (zai (k:=6) zcL.nd rfl (Or.inl rfl) (zah zca (zah zca (zaK zbX (bpv 2) zbE (zaH (bpv 4))) (zat (zaa zad (zac)))) (zaK zbX (bpv 2) (zaH (zah zaZ (bpv 4) zad)) zbE)))
  (zag (zap (zo9 (zal rec hr rfl T.d_is_let_by.m T.d_is_let_by.F.kp T.d_is_let_by.b .nil zaR (zaa (bpv 0) (zaa (bpv 1) (zaa (bpv 5) (zaa (zan zaM (bpv 3) zad (fun _ _=>rfl)) (zac)))))) (zpC (zal rec hr rfl T.d_is_let_by.m T.d_is_let_by.F.kp T.d_is_let_by.b .nil zaR (zaa (bpv 0) (zaa (bpv 1) (zaa (bpv 6) (zaa (zan zaM (bpv 3) zad (fun _ _=>rfl)) (zac))))))))))))))),?_⟩
 cases pp with
 | same=>
  obtain ⟨pa,rfl,hpa⟩:=znr hv
  refine ⟨_,rfl,pa,_,_,_,rfl,rfl,hpa,rfl,rfl,_,rfl,ite2 (fun c=>?_) (fun c=>absurd (decide_eq_true rfl) c)⟩
  exact ⟨_,rfl,_,rfl,_,rfl,.ref a,d,p,w,fs,ks,rfl,hx,wf,hd,fb,hp,hl,kb,q⟩
 | split i l h2=>
  obtain ⟨pa,lv,hv2,rfl,hpa,rl,rh⟩:=zli hv
  refine ⟨_,rfl,pa,_,_,_,rfl,rfl,hpa,rfl,rfl,_,rfl,ite2 (fun c=>absurd (V.str.inj (of_decide_eq_true c)) (by decide)) (fun c=>?_)⟩
  refine ⟨_,rfl,pa,_,_,_,rfl,rfl,hpa,rfl,?_⟩
  have lf:¬(0≤i∧i < w.ins∧ks.getD i.toNat none=none)→Q (.bl false) H:=fun z=>by
   have e:zf5 w fs ks (.split i l h2)=false:=by
    show (decide (0≤i∧i < w.ins∧ks.getD i.toNat none=none) && _)=false
    rw [decide_eq_false z]
    rfl
   have:=q H (Same.refl _)
   rw [e] at this
   exact this
  refine ⟨_,rfl,_,_,rfl,rfl,_,rfl,ite2 (fun c1=>?_) (fun c1=>⟨_,rfl,iteT (iteT (lf fun z=>c1 (decide_eq_true z.1)))⟩)⟩
  have i0: 0≤i:=of_decide_eq_true c1
  refine ⟨_,rfl,a,_,_,_,rfl,rfl,ha,rfl,_,_,rfl,rfl,_,rfl,ite2 (fun c2=>iteT (lf fun z=>?_)) (fun c2=>?_)⟩
  ·rw [decide_eq_true z.2.1] at c2
   cases c2
  have i1:i < w.ins:=by
   by_cases z:i < w.ins
   ·exact z
   ·rw [decide_eq_false z] at c2
    exact absurd rfl c2
  have hik:i.toNat < ks.length:=by omega
  have atk:atI (ks.map optV) i=some (optV (ks.getD i.toNat none)):=by
   have:=zcf (xs:=ks.map optV) (j:=i.toNat) (v:=optV (ks.getD i.toNat none)) (by rw [yE,yK,yC hik];rfl)
   rw [show ((i.toNat:Nat):Int)=i by omega] at this
   exact this
  refine ⟨_,rfl,_,rfl,p,_,_,_,rfl,rfl,.of hp,atk,_,rfl,ite2 (fun c3=>lf fun z=>?_) (fun c3=>?_)⟩
  ·rw [z.2.2] at c3
   cases c3
  have kn:ks.getD i.toNat none=none:=by
   cases e:ks.getD i.toNat none with
   | none=>rfl
   | some b=>rw [e] at c3;exact absurd rfl c3
  have len:(ks.map optV).length=ks.length:=yA _
  have i6:=wf.i6
  refine ⟨_,rfl,_,rfl,_,rfl,p,_,rfl,.of hp,fun L1a h1a=>?_⟩
  rw [ziF (ks.map optV) i0 (by omega)]
  have k1a:=zae h1a (.lst ((ks.map optV).take i.toNat))
  refine ⟨(by show 1≤yL;decide),fun L2a h2a=>?_⟩
  have k2a:=zae h2a (.lst [V.int 0])
  refine ⟨L1a,L2a,_,_,rfl,rfl,k2a _ _ zab,zab,bigE (by rw [yR];show _+1≤_;omega),fun L3a h3a=>?_⟩
  have k3a:=zae h3a (.lst ((ks.map optV).take i.toNat++ [V.int 0]))
  have s3a:=(k1a.trans k2a).trans k3a
  refine ⟨_,rfl,_,rfl,_,_,rfl,rfl,_,rfl,p,_,rfl,.of (s3a _ _ hp),fun L4a h4a=>?_⟩
  rw [zh6 (ks.map optV) (show (0:Int)≤i+1 by omega) (by omega)]
  have k4a:=zae h4a (.lst ((ks.map optV).drop (i+1).toNat))
  refine ⟨L3a,L4a,_,_,rfl,rfl,k4a _ _ zab,zab,bigE (by rw [yJ,yR,jW];show _+1+_≤_;omega),fun L5a h5a=>?_⟩
  rw [zjN ks i0 (by omega) 0]
  have k5a:=zae h5a (.lst ((ks.set i.toNat (some 0)).map optV))
  have s5a:=(s3a.trans k4a).trans k5a
  generalize hHa:upd _ L5a (HO.lst ((ks.set i.toNat (some 0)).map optV))=Ha at s5a k5a
  have eLa:Ha L5a=some (HO.lst ((ks.set i.toNat (some 0)).map optV)):=by rw [← hHa];exact zab
  clear hHa
  refine ⟨_,rfl,_,rfl,_,rfl,p,_,rfl,.of (s5a _ _ hp),fun L1b h1b=>?_⟩
  rw [ziF (ks.map optV) i0 (by omega)]
  have k1b:=zae h1b (.lst ((ks.map optV).take i.toNat))
  refine ⟨(by show 1≤yL;decide),fun L2b h2b=>?_⟩
  have k2b:=zae h2b (.lst [V.int 1])
  refine ⟨L1b,L2b,_,_,rfl,rfl,k2b _ _ zab,zab,bigE (by rw [yR];show _+1≤_;omega),fun L3b h3b=>?_⟩
  have k3b:=zae h3b (.lst ((ks.map optV).take i.toNat++ [V.int 1]))
  have s3b:=s5a.trans ((k1b.trans k2b).trans k3b)
  refine ⟨_,rfl,_,rfl,_,_,rfl,rfl,_,rfl,p,_,rfl,.of (s3b _ _ hp),fun L4b h4b=>?_⟩
  rw [zh6 (ks.map optV) (show (0:Int)≤i+1 by omega) (by omega)]
  have k4b:=zae h4b (.lst ((ks.map optV).drop (i+1).toNat))
  refine ⟨L3b,L4b,_,_,rfl,rfl,k4b _ _ zab,zab,bigE (by rw [yJ,yR,jW];show _+1+_≤_;omega),fun L5b h5b=>?_⟩
  rw [zjN ks i0 (by omega) 1]
  have k5b:=zae h5b (.lst ((ks.set i.toNat (some 1)).map optV))
  have s5b:=(s3b.trans k4b).trans k5b
  have tab:=(((k1b.trans k2b).trans k3b).trans k4b).trans k5b
  generalize hHb:upd _ L5b (HO.lst ((ks.set i.toNat (some 1)).map optV))=Hb at s5b k5b tab
  have eLb:Hb L5b=some (HO.lst ((ks.set i.toNat (some 1)).map optV)):=by rw [← hHb];exact zab
  clear hHb
  have el:zf5 w fs ks (.split i l h2)=(zf5 w fs (ks.set i.toNat (some 0)) l && zf5 w fs (ks.set i.toNat (some 1)) h2):=by
   show (decide (0≤i∧i < w.ins∧ks.getD i.toNat none=none) && _)=_
   rw [decide_eq_true ⟨i0,i1,kn⟩]
   rfl
  have ll:∀ b:Int,(((ks.set i.toNat (some b)).length:Nat):Int)=w.ins:=fun b=>by rw [ybG];exact hl
  refine ⟨_,rfl,_,rfl,_,rfl,_,rfl,pa,_,_,_,rfl,rfl,s5b.seqT hpa,rfl,.ref a,lv,d,L5a,w,fs,ks.set i.toNat (some 0),l,rfl,hx.mono s5b,wf,s5b _ _ hd,fb,tab _ _ eLa,ll 0,kb.set (.inl rfl) _,rl.mono s5b,dep_l dp,fun H6 s6=>⟨_,rfl,?_⟩⟩
  refine ite2 (fun c5=>?_) (fun c5=>?_)
  ·refine ⟨_,rfl,_,rfl,_,rfl,_,rfl,pa,_,_,_,rfl,rfl,(s5b.trans s6).seqT hpa,rfl,.ref a,hv2,d,L5b,w,fs,ks.set i.toNat (some 1),h2,rfl,hx.mono (s5b.trans s6),wf,(s5b.trans s6) _ _ hd,fb,s6 _ _ eLb,ll 1,kb.set (.inr rfl) _,rh.mono (s5b.trans s6),dep_h dp,fun H7 s7=>?_⟩
   have:=q H7 ((s5b.trans s6).trans s7)
   rw [el,c5] at this
   exact this
  ·have:=q H6 (s5b.trans s6)
   rw [el,Bool.not_eq_true _ |>.mp c5] at this
   exact this
theorem zmY (T:Txt K mg t):∀ m:Nat,FnOk P w K mg base CX0 (7+m) t.f_is_let_by t.fd_is_let_by ["works","stuck","known","paper"] (zjT K m)
 | 0=>⟨fun vs H Q E ⟨_,_,_,_,_,_,_,_,_,_,_,_,_,_,_,_,_,z,_⟩=>absurd z (xV _),fun A outer s H args us vs Q E hr a b c ⟨_,_,_,_,_,_,_,_,_,_,_,_,_,_,_,_,_,z,_⟩=>absurd z (xV _)⟩
 | m+1=>zpv T (xZ 7 m) (zmY T m)
theorem zhX (T:Txt K mg t):FnOk P w K mg base CX0 16 t.f_is_let_by t.fd_is_let_by ["works","stuck","known","paper"] (zjT K 9):=zmY T 9
theorem zbQ:zav ["works","stuck","known","ahead","low","high"] ["works","stuck","known"] (zaj zb3):=⟨rfl,rfl,rfl,by decide+kernel,rfl,by decide+kernel,by decide+kernel⟩
theorem zpi {k m:Nat}(T:Txt K mg t)(hk: 7≤k)(rec:FnOk P w K mg base CX0 k t.f_paper_behind t.fd_paper_behind ["works","stuck","known"] (zkt K m)):FnOk P w K mg base CX0 (k+1) t.f_paper_behind t.fd_paper_behind ["works","stuck","known"] (zkt K (m+1)):=by
 refine T.d_paper_behind.F.okB zbQ (fun vs H Q E h=>?_) (fun cdv A outer s H vs Q E hr h=>?_)
 ·obtain ⟨x,d,p,w,fs,bs,n,rfl,_⟩:=h
  rfl
 obtain ⟨x,d,p,w,fs,bs,n,rfl,hx,wf,hd,fb,nv,hp,b,hl,nm,q⟩:=h
 have hu64:=hr.units
 have i6:=wf.i6
 obtain ⟨a,ga,oa,gs,os,rfl,ha,hg,ho,rg,ro⟩:=zbs hx
 have len:(bs.map V.int).length=bs.length:=yA _
 refine ⟨_,(zaf (zai (k:=3) zbQ.nd rfl (Or.inl rfl) (zaw zau rfl T.z_len jJ (zaa (bpv 2) (zac))))
  (zaf (zaT (zmT (zal (zdw T) (hr.mono (qX (by decide) hk)) rfl T.d_outputs_alike.m T.d_outputs_alike.F.kp T.d_outputs_alike.b .nil zaR (zaa (bpv 0) (zaa (bpv 1) (zaa (zah zca (bpv 2) (zah zlY (zat (zaa zhI (zac))) (zah zfd (zan zaM (bpv 0) zad (fun _ _=>rfl)) (bpv 3)))) (zac)))))) (zag (zap (zax (zaa zar (zac))))) zaB)
  (zaf (zai (k:=4) zbQ.nd rfl (Or.inl rfl) (zal rec hr rfl T.d_paper_behind.m T.d_paper_behind.F.kp T.d_paper_behind.b .nil zaR (zaa (bpv 0) (zaa (bpv 1) (zaa (zah zca (bpv 2) (zat (zaa zad (zac)))) (zac))))))
  (zaf (zai (k:=5) zbQ.nd rfl (Or.inl rfl) (zal rec hr rfl T.d_paper_behind.m T.d_paper_behind.F.kp T.d_paper_behind.b .nil zaR (zaa (bpv 0) (zaa (bpv 1) (zaa (zah zca (bpv 2) (zat (zaa zad (zac)))) (zac))))))
  (zag (zap (zax (zaa zar (zaa (bpv 3) (zaa (bpv 4) (zaa (bpv 5) (zac)))))))))))),?_⟩
 refine ⟨_,rfl,p,_,rfl,.inl (.of hp),?_⟩
 refine ⟨_,rfl,_,rfl,_,rfl,(by show 1≤yL;decide),fun L1 h1=>?_⟩
 have k1:=zae h1 (.lst [V.non])
 have en:(w.ins - (((bs.map V.int).length:Nat):Int)).toNat=n:=by rw [len];omega
 refine ⟨_,rfl,a,_,_,_,rfl,rfl,k1.seqT ha,rfl,_,rfl,_,_,rfl,rfl,L1,_,_,rfl,rfl,zab,by rw [len];omega,by rw [len];omega,bigE (by show 1 * _≤_;rw [en];omega),fun L2 h2=>?_⟩
 rw [en,znZ]
 have k2:=zae h2 (.lst ((qH n (none:Option Int)).map optV))
 have s12:=k1.trans k2
 refine ⟨p,L2,_,_,rfl,rfl,s12 _ _ hp,zab,bigE (by rw [len,yA,xQ];omega),fun L3 h3=>?_⟩
 have ep:bs.map V.int++(qH n (none:Option Int)).map optV=(pad n bs).map optV:=by
  unfold pad
  rw [yM,← zjL]
 rw [ep]
 have k3:=zae h3 (.lst ((pad n bs).map optV))
 have s13:=s12.trans k3
 refine ⟨.ref a,d,L3,w,fs,pad n bs,rfl,hx.mono s13,wf,s13 _ _ hd,fb,zab,by rw [zmD];exact hl,zkk b,fun H4 s4=>⟨_,rfl,?_⟩⟩
 have s14:=s13.trans s4
 refine ite2 (fun c=>?_) (fun c=>?_)
 ·refine ⟨(by show 1≤yL;decide),fun T1 h1'=>q _ _ (s14.upd h1' _) ?_⟩
  have e:zdo w fs n bs= .same:=by
   cases n with
   | zero=>rfl
   | succ n=>
    unfold zdo
    rw [if_pos c]
  rw [e]
  exact .tup (.of zab) (.cons (.str _) .nil)
 ·cases n with
  | zero=>exact absurd (zji fb wf nv b hl) c
  | succ n=>
   have e:zdo w fs (n+1) bs= .split bs.length (zdo w fs n (bs++ [0])) (zdo w fs n (bs++ [1])):=by
    conv=>lhs;unfold zdo
    rw [if_neg c]
   have cat:∀ z:Int,bs.map V.int++ [V.int z]=(bs++ [z]).map V.int:=fun z=>by rw [yM];rfl
   have lb:∀ z:Int,(((bs++ [z]).length+n:Nat):Int)=w.ins:=fun z=>by rw [yJ,qO];omega
   refine ⟨_,rfl,_,rfl,_,rfl,(by show 1≤yL;decide),fun L4 h4=>?_⟩
   have k4:=zae h4 (.lst [V.int 0])
   refine ⟨p,L4,_,_,rfl,rfl,(s14.trans k4) _ _ hp,zab,bigE (by rw [len];show _+1≤_;omega),fun L5 h5=>?_⟩
   rw [cat 0]
   have k5:=zae h5 (.lst ((bs++ [(0:Int)]).map V.int))
   have s15:=(s14.trans k4).trans k5
   refine ⟨.ref a,d,L5,w,fs,bs++ [0],n,rfl,hx.mono s15,wf,s15 _ _ hd,fb,nv,zab,zh2 b (.inl rfl),lb 0,by omega,fun lv H6 s6 rl=>?_⟩
   have s16:=s15.trans s6
   refine ⟨_,rfl,_,rfl,_,rfl,(by show 1≤yL;decide),fun L7 h7=>?_⟩
   have k7:=zae h7 (.lst [V.int 1])
   refine ⟨p,L7,_,_,rfl,rfl,(s16.trans k7) _ _ hp,zab,bigE (by rw [len];show _+1≤_;omega),fun L8 h8=>?_⟩
   rw [cat 1]
   have k8:=zae h8 (.lst ((bs++ [(1:Int)]).map V.int))
   have s18:=(s16.trans k7).trans k8
   refine ⟨.ref a,d,L8,w,fs,bs++ [1],n,rfl,hx.mono s18,wf,s18 _ _ hd,fb,nv,zab,zh2 b (.inr rfl),lb 1,by omega,fun hv H9 s9 rh=>?_⟩
   have s19:=s18.trans s9
   refine ⟨_,rfl,_,rfl,_,rfl,(by show 4≤yL;decide),fun T3 h3'=>?_⟩
   have kT:=zae h3' (.tup [.str "split",.int ((bs.map V.int).length:Nat),lv,hv])
   refine q _ _ (s19.trans kT) ?_
   rw [e,← len]
   exact .tup (.of zab) (.cons (.str _) (.cons (.int _) (.cons (rl.mono (((k7.trans k8).trans s9).trans kT)) (.cons (rh.mono kT) .nil))))
theorem zl3 (T:Txt K mg t):∀ m:Nat,FnOk P w K mg base CX0 (7+m) t.f_paper_behind t.fd_paper_behind ["works","stuck","known"] (zkt K m)
 | 0=>⟨fun vs H Q E ⟨_,_,_,_,_,_,_,_,_,_,_,_,_,_,_,_,z,_⟩=>absurd z (xV _),fun A outer s H args us vs Q E hr a b c ⟨_,_,_,_,_,_,_,_,_,_,_,_,_,_,_,_,z,_⟩=>absurd z (xV _)⟩
 | m+1=>zpi T (xZ 7 m) (zl3 T m)
theorem zgg (T:Txt K mg t):FnOk P w K mg base CX0 14 t.f_paper_behind t.fd_paper_behind ["works","stuck","known"] (zkt K 7):=zl3 T 7
theorem zby:zav ["works","faults","known_faults","stuck","fault","place"] ["works","faults"] (zaj zbZ):=⟨rfl,rfl,rfl,by decide+kernel,rfl,by decide+kernel,by decide+kernel⟩
theorem za5 (T:Txt K mg t):FnOk P w K mg base (CXC P w (.ref t.x_NoFault)) 2 t.f_stuck_places t.fd_stuck_places ["works","faults"] (sp_sp4 K):=by
 refine T.d_stuck_places.F.okC zby (fun vs H Q E h=>?_) (fun cdv A outer s H vs Q E hr h=>?_)
 ·obtain ⟨x,y,w,fs,rfl,_⟩:=h
  rfl
 obtain ⟨x,y,w,fs,rfl,hx,wf,hy,gd,lf,rz0,q⟩:=h
 have hu1:=zkA hr
 have hu64:=hr.units
 refine ⟨_,(zaf (zai (k:=2) zby.nd rfl (Or.inl rfl) (zal (zgv T) (hr.mono (by decide)) rfl T.d_every_fault.m T.d_every_fault.F.kp T.d_every_fault.b .nil zaR (zaa (bpv 0) (zac))))
  (zaf (zai (k:=3) zby.nd rfl (Or.inl rfl) zgl)
  (zaf (za4 zkZ rfl (zaJ (bpv 1)) (zam (k:=4) zby.nd rfl (Or.inl rfl)) (zaf (zaT (zay (ziA hu64) (bpv 4) (bpv 2) rfl) (zag (zhS yaU T.k_NoFault.ex rfl rfl T.g_NoFault zoo (zaa zar zac))) zaB)
  (zaf (zai (k:=5) zby.nd rfl (Or.inl rfl) (zaK zj7 (bpv 4) zbE (zaH (zdx zdy zad))))
  (zaf (zaT (zgr (zo7 hu1 (bpv 5) (bpv 3))) (zag (zhS yaU T.k_NoFault.ex rfl rfl T.g_NoFault zoo (zaa zar zac))) zaB)
  (zag (znd hu1 (bpv 3) (bpv 5) (zan zaM (bpv 4) (zdx zdy zad) (fun _ _=>rfl)) rfl))))))
  (zag (zap (bpv 3)))))),?_⟩
 refine ⟨_,rfl,x,w,rfl,hx,wf,fun kr xs H1 bk=>?_⟩
 refine fun d hd=>?_
 have s1:=bk.same.upd hd (.dT [])
 have hd0:=bk.same.free hd
 have okk:∀ e∈zbI w,kqdOk 8 e=true:=fun e he=>zkf 7 he
 cases hy with
 | @lst fa ys _ hq rq=>
  have ly:ys.length=fs.length:=by rw [rq.length,yA]
  refine ⟨_,rfl,fa,rfl,⟨_,s1.seq hq⟩,zcn (K:=K) (a:=fa) (xs:=ys)
   (fun i σ H3=>∃ (o4 o5:Option V),σ = [some x,some (.ref fa),some (.ref kr),some (.ref d),o4,o5]∧Same H1 H3∧H3 d=some (.dT (tabV (fs.take i)))∧(∀ f∈fs.take i,zd7 w f)∧zcq (fs.take i))
   ⟨_,_,rfl,zae hd _,zab,(fun _ z=>nomatch z),xG⟩ (fun i σ H3 _ ⟨_,_,_,s3,_⟩=>(bk.same.trans s3).seq hq) ?_ ?_⟩
  ·rintro i v σ H3 hv ⟨o4,o5,rfl,s13,e3,g3,a3⟩
   have s3:=bk.same.trans s13
   obtain ⟨dd,hdd,rv⟩:=rq.get hv
   rw [yE] at hdd
   cases hz:fs[i]? with
   | none=>rw [hz] at hdd;cases hdd
   | some f=>
    rw [hz] at hdd
    cases hdd
    have ff:=gd f (yI hz)
    obtain ⟨fa1,rfl,hf⟩:=zgm rv
    have li:i < fs.length:=(yG.mp hz).1
    have et:fs.take (i+1)=fs.take i++ [f]:=by rw [yV,hz];rfl
    refine ⟨_,rfl,_,rfl,fltD f,zbI w,rv.mono s3,bk.rep.mono s13,zjj 7 ff,okk,fun mf=>⟨_,rfl,iteF ?_⟩,fun z=>⟨_,rfl,iteT ⟨(by show 1≤yL;decide),fun x hx=>rz0 (fun g=>z (zj1 (g.1 f (yI hz)))) _ x s3 hx⟩⟩⟩
    have gf:=zjY mf
    refine ⟨_,rfl,_,rfl,_,rfl,fa1,_,rfl,s3.seqT hf,zeK _ _,fun T1 h1=>?_⟩
    rw [show (-(1:Int))= -1 from rfl,zdT]
    have k1:=zae h1 (.tup (f.place.map kV))
    have s4:=s3.trans k1
    refine ⟨_,rfl,_,rfl,d,_,rfl,DGet.t (k:=f.place) (k1 _ _ e3) zab,_,rfl,?_⟩
    cases el:look (fs.take i) f.place with
    | some c=>
     have nv:valV (tabV (fs.take i)) f.place=some (.int c):=by rw [zeg,el];rfl
     rw [nv]
     exact iteT ⟨(by show 1≤yL;decide),fun x hx=>rz0 (fun g=>twice4 hz el g.2) _ x s4 hx⟩
    | none=>
     have nv:valV (tabV (fs.take i)) f.place=none:=by rw [zeg,el];rfl
     rw [nv]
     refine iteF ?_
     have lt:(tabV (fs.take i)).length≤1000:=by unfold tabV;rw [yA,yR];omega
     refine ⟨_,rfl,_,rfl,fa1,_,_,_,rfl,rfl,s4.seqT hf,zmg _ _,_,rfl,_,rfl,d,_,rfl,DPut.t (k:=f.place) (k1 _ _ e3) zab (big (by omega)),?_⟩
     refine ⟨_,_,rfl,(s13.trans k1).write hd _,?_,?_,?_⟩
     ·rw [zab,zjP _ nv,et]
      unfold tabV
      rw [yM]
      rfl
     ·rw [et]
      intro g hg
      rcases yP.mp hg with hg | hg
      ·exact g3 g hg
      ·rw [yF.mp hg];exact gf
     ·rw [et]
      exact zg7 a3 el
  ·rintro σ H3 ⟨o4,o5,rfl,s13,e3,g3,a3⟩
   rw [ly,qB] at g3 a3
   rw [ly,qB] at e3
   exact ⟨_,rfl,q g3 a3 d H3 (bk.same.trans s13) hd0 e3⟩
theorem zhi:zav ["works","faults"] ["works","faults"] (zaj zcR):=⟨rfl,rfl,rfl,by decide+kernel,rfl,by decide+kernel,by decide+kernel⟩
theorem zgw (T:Txt K mg t):FnOk P w K mg base (CXC P w (.ref t.x_NoFault)) 6 t.f_first_test t.fd_first_test ["works","faults"] (zn7 K):=by
 refine T.d_first_test.F.okC zhi (fun vs H Q E h=>?_) (fun cdv A outer s H vs Q E hr h=>?_)
 ·obtain ⟨x,y,w,fs,rfl,_⟩:=h
  rfl
 obtain ⟨x,y,w,fs,rfl,hx,wf,F,rz,q⟩:=h
 have lf:=F.few
 refine ⟨_,(zag (zap (zal (zcy T) (hr.mono (by decide)) rfl T.d_first_unlike.m T.d_first_unlike.F.kp T.d_first_unlike.b .nil zaR (zaa (bpv 0) (zaa (zal (za5 T) (hr.mono (by decide)) rfl T.d_stuck_places.m T.d_stuck_places.F.kp T.d_stuck_places.b .nil zff (zaa (bpv 0) (zaa (bpv 1) (zac)))) (zaa zgl (zac))))))),?_⟩
 refine ⟨_,rfl,_,rfl,_,rfl,x,y,w,fs,rfl,hx,wf,F.rep,F.form,F.few,rz,fun gd ap d H1 s1 nd ed=>?_⟩
 refine fun e he=>?_
 have k2:=zae he (.dT [])
 have s12:=s1.trans k2
 exact ⟨x,d,e,w,fs,[],rfl,hx.mono s12,wf,k2 _ _ ed,zab,fun f hf=>(gd f hf).2,(fun _ z=>nomatch z),ap,xG,by omega,qN _,fun v H2 s2 res=>q ⟨gd,ap⟩ v H2 (s12.trans s2)⟩
theorem zdK:zav ["works","faults","stuck","row"] ["works","faults"] (zaj zdu):=⟨rfl,rfl,rfl,by decide+kernel,rfl,by decide+kernel,by decide+kernel⟩
theorem zhe (T:Txt K mg t):FnOk P w K mg base (CXC P w (.ref t.x_NoFault)) 15 t.f_test_told t.fd_test_told ["works","faults"] (zn7 K):=by
 refine T.d_test_told.F.okC zdK (fun vs H Q E h=>?_) (fun cdv A outer s H vs Q E hr h=>?_)
 ·obtain ⟨x,y,w,fs,rfl,_⟩:=h
  rfl
 obtain ⟨x,y,w,fs,rfl,hx,wf,F,rz,q0⟩:=h
 have hu64:=hr.units
 have i1:=wf.i1
 have i6:=wf.i6
 have lf:=F.few
 refine ⟨_,(zaf (zai (k:=2) zdK.nd rfl (Or.inl rfl) (zal (za5 T) (hr.mono (by decide)) rfl T.d_stuck_places.m T.d_stuck_places.F.kp T.d_stuck_places.b .nil zff (zaa (bpv 0) (zaa (bpv 1) (zac)))))
  (zaf (zai (k:=3) zdK.nd rfl (Or.inl rfl) (zal (zcy T) (hr.mono (by decide)) rfl T.d_first_unlike.m T.d_first_unlike.F.kp T.d_first_unlike.b .nil zaR (zaa (bpv 0) (zaa (bpv 2) (zaa zgl (zac))))))
  (zaf (zaT (zgr (zlx (bpv 3))) (zag (zap (zax (zaa zar (zaa (zal (zgg T) (hr.mono (by decide)) rfl T.d_paper_behind.m T.d_paper_behind.F.kp T.d_paper_behind.b .nil zaR (zaa (bpv 0) (zaa (bpv 2) (zaa (zat zac) (zac))))) (zac)))))) zaB)
  (zag (zap (zax (zaa zar (zaa (bpv 3) (zac))))))))),?_⟩
 refine ⟨_,rfl,_,rfl,x,y,w,fs,rfl,hx,wf,F.rep,F.form,F.few,rz,fun gd ap d H1 s1 nd ed=>?_⟩
 have q:=q0 ⟨gd,ap⟩
 refine ⟨_,rfl,_,rfl,fun e he=>?_⟩
 have k2:=zae he (.dT [])
 have s12:=s1.trans k2
 have ed2:=k2 _ _ ed
 have fb:∀ f∈fs,f.worth=0∨f.worth=1:=fun f hf=>(gd f hf).2
 refine ⟨x,d,e,w,fs,[],rfl,hx.mono s12,wf,ed2,zab,fb,(fun _ z=>nomatch z),ap,xG,by omega,qN _,fun v H2 s2 res=>?_⟩
 have s02:=s12.trans s2
 have res0:=res.any s12
 cases eo:zey w fs [] with
 | none=>
  rw [eo] at res0
  have ev:v= .non:=res0
  subst ev
  refine ⟨_,rfl,_,rfl,ite2 (fun c=>?_) (fun c=>absurd (decide_eq_true rfl) c)⟩
  refine ⟨_,rfl,_,rfl,(by show 0≤yL;decide),fun L3 h3=>?_⟩
  have k3:=zae h3 (.lst [])
  have s03:=s02.trans k3
  refine ⟨x,d,L3,w,fs,[],w.ins.toNat,rfl,hx.mono s03,wf,(s2.trans k3) _ _ ed2,fb,eo,zab,(fun _ z=>nomatch z),by rw [yal];omega,by omega,fun pv H4 s4 rp=>?_⟩
  refine ⟨(by show 2≤yL;decide),fun T5 h5=>q _ _ ((s03.trans s4).upd h5 _)⟩
 | some row=>
  rw [eo] at res0
  obtain ⟨qa,rfl,nq,eq⟩:=res0
  refine ⟨_,rfl,_,rfl,ite2 (fun c=>absurd (of_decide_eq_true c) (fun z=>nomatch z)) (fun c=>?_)⟩
  refine ⟨_,rfl,(by show 2≤yL;decide),fun T5 h5=>q _ _ (s02.upd h5 _)⟩
theorem zjv:zav ["works","faults","known","wire"] ["works","faults","known","wire"] (zaj zdY):=⟨rfl,rfl,rfl,by decide+kernel,rfl,by decide+kernel,by decide+kernel⟩
theorem zie (T:Txt K mg t):FnOk P w K mg base (CXC P w (.ref t.x_NoFault)) 7 t.f_pairs_at t.fd_pairs_at ["works","faults","known","wire"] (sp_pa4 K):=by
 refine T.d_pairs_at.F.okC zjv (fun vs H Q E h=>?_) (fun cdv A outer s H vs Q E hr h=>?_)
 ·obtain ⟨x,y,p,w,fs,rfl,_⟩:=h
  rfl
 obtain ⟨x,y,p,w,fs,rfl,hx,wf,F,hp,rz,q⟩:=h
 have i1:=wf.i1
 refine ⟨_,(zag (zap (zan zaC (zal (zed T) (hr.mono (by decide)) rfl T.d_every_pairs.m T.d_every_pairs.F.kp T.d_every_pairs.b .nil zaR (zaa (bpv 0) (zaa (zal (za5 T) (hr.mono (by decide)) rfl T.d_stuck_places.m T.d_stuck_places.F.kp T.d_stuck_places.b .nil zff (zaa (bpv 0) (zaa (bpv 1) (zac)))) (zaa (bpv 2) (zac))))) (bpv 3) (fun _ _=>rfl)))),?_⟩
 refine ⟨_,rfl,_,rfl,_,rfl,x,y,w,fs,rfl,hx,wf,F.rep,F.form,F.few,rz,fun gd ap d H1 s1 nd ed=>?_⟩
 refine ⟨_,rfl,x,d,p,w,fs,qH w.ins.toNat none,rfl,hx.mono s1,wf,ed,fun f hf=>(gd f hf).2,s1 _ _ hp,by rw [xQ];omega,zkr _,fun R ys H2 s2 nR eR hys=>?_⟩
 have lw:=zc6 fs w.gates (qH w.ins.toNat (none:Option Int)) w.gates.length
 have lys:=hys.len.trans lw
 rw [xQ] at lys
 have hk: 0 < ys.length:=by omega
 have q1:atI ys ((0:Nat):Int)=some ys[0]:=zcf (yC hk)
 exact ⟨_,rfl,R,_,_,_,rfl,rfl,.of eR,q1,q ⟨gd,ap⟩ _ H2 (s1.trans s2)⟩
theorem zgG:zav ["works","faults","paper"] ["works","faults","paper"] (zaj zco):=⟨rfl,rfl,rfl,by decide+kernel,rfl,by decide+kernel,by decide+kernel⟩
theorem zfT (T:Txt K mg t):FnOk P w K mg base (CXC P w (.ref t.x_NoFault)) 17 t.f_paper_shows t.fd_paper_shows ["works","faults","paper"] (sp_ps4 K):=by
 refine T.d_paper_shows.F.okC zgG (fun vs H Q E h=>?_) (fun cdv A outer s H vs Q E hr h=>?_)
 ·obtain ⟨x,y,v,w,fs,rfl,_⟩:=h
  rfl
 obtain ⟨x,y,v,w,fs,rfl,hx,wf,F,hv,rz,q⟩:=h
 have hu64:=hr.units
 obtain ⟨a,ga,oa,gs,os,rfl,ha,hg,ho,rg,ro⟩:=zbs hx
 refine ⟨_,(zag (zap (zal (zhX T) (hr.mono (by decide)) rfl T.d_is_let_by.m T.d_is_let_by.F.kp T.d_is_let_by.b .nil zaR (zaa (bpv 0) (zaa (zal (za5 T) (hr.mono (by decide)) rfl T.d_stuck_places.m T.d_stuck_places.F.kp T.d_stuck_places.b .nil zff (zaa (bpv 0) (zaa (bpv 1) (zac)))) (zaa (zah zlY (zat (zaa zhI (zac))) (zan zaM (bpv 0) zad (fun _ _=>rfl))) (zaa (bpv 2) (zac)))))))),?_⟩
 refine ⟨_,rfl,_,rfl,_,rfl,.ref a,y,w,fs,rfl,hx,wf,F.rep,F.form,F.few,rz,fun gd ap d H1 s1 nd ed=>?_⟩
 have i6:=wf.i6
 have i1:=wf.i1
 refine ⟨(by show 1≤yL;decide),fun L1 h1=>?_⟩
 have k1:=zae h1 (.lst [V.non])
 refine ⟨_,rfl,a,_,_,_,rfl,rfl,(s1.trans k1).seqT ha,rfl,L1,_,_,rfl,rfl,zab,by omega,by omega,bigE (by show 1 * _≤_;omega),fun L2 h2=>?_⟩
 rw [zh5]
 have k2:=zae h2 (.lst ((qH w.ins.toNat (none:Option Int)).map optV))
 have s12:=(s1.trans k1).trans k2
 exact ⟨_,rfl,.ref a,v,d,L2,w,fs,qH w.ins.toNat none,.same,rfl,hx.mono s12,wf,(k1.trans k2) _ _ ed,fun f hf=>(gd f hf).2,zab,by rw [xQ];omega,zkr _,hv.mono s12,(by decide),fun H3 s3=>q ⟨gd,ap⟩ _ H3 (s12.trans s3)⟩
theorem zhZ:zav ["works","faults","others"] ["works","faults","others"] (zaj zdr):=⟨rfl,rfl,rfl,by decide+kernel,rfl,by decide+kernel,by decide+kernel⟩
theorem zeH (T:Txt K mg t):FnOk P w K mg base (CXC P w (.ref t.x_NoFault)) 6 t.f_parted_at t.fd_parted_at ["works","faults","others"] (sp_pt4 K):=by
 refine T.d_parted_at.F.okC zhZ (fun vs H Q E h=>?_) (fun cdv A outer s H vs Q E hr h=>?_)
 ·obtain ⟨x,y,z,w,fs,gs,rfl,_⟩:=h
  rfl
 obtain ⟨x,y,z,w,fs,gs,rfl,hx,wf,F,G,rz,q⟩:=h
 have lf:=F.few
 have lg:=G.few
 refine ⟨_,(zag (zap (zal (zcy T) (hr.mono (by decide)) rfl T.d_first_unlike.m T.d_first_unlike.F.kp T.d_first_unlike.b .nil zaR (zaa (bpv 0) (zaa (zal (za5 T) (hr.mono (by decide)) rfl T.d_stuck_places.m T.d_stuck_places.F.kp T.d_stuck_places.b .nil zff (zaa (bpv 0) (zaa (bpv 1) (zac)))) (zaa (zal (za5 T) (hr.mono (by decide)) rfl T.d_stuck_places.m T.d_stuck_places.F.kp T.d_stuck_places.b .nil zff (zaa (bpv 0) (zaa (bpv 2) (zac)))) (zac))))))),?_⟩
 refine ⟨_,rfl,_,rfl,_,rfl,x,y,w,fs,rfl,hx,wf,F.rep,F.form,F.few,(fun n=>rz fun z=>n z.1),fun gd ap d H1 s1 nd ed=>?_⟩
 refine ⟨_,rfl,_,rfl,x,z,w,gs,rfl,hx.mono s1,wf,G.rep.mono s1,G.form,G.few,(fun n=>(rz fun z=>n z.2).mono s1),fun gd2 ap2 e H2 s2 ne ee=>?_⟩
 have s12:=s1.trans s2
 exact ⟨x,d,e,w,fs,gs,rfl,hx.mono s12,wf,s2 _ _ ed,ee,fun f hf=>(gd f hf).2,fun f hf=>(gd2 f hf).2,ap,ap2,by omega,by omega,fun v H3 s3 _=>q ⟨gd,ap⟩ ⟨gd2,ap2⟩ v H3 (s12.trans s3)⟩
theorem zig:zav ["works","faults","way"] ["works","faults","way"] (zaj zdv):=⟨rfl,rfl,rfl,by decide+kernel,rfl,by decide+kernel,by decide+kernel⟩
theorem zht (T:Txt K mg t):FnOk P w K mg base (CXC P w (.ref t.x_NoFault)) 18 t.f_law_asked t.fd_law_asked ["works","faults","way"] (sp_as4 K):=by
 refine T.d_law_asked.F.okC zig (fun vs H Q E h=>?_) (fun cdv A outer s H vs Q E hr h=>?_)
 ·obtain ⟨x,y,way,w,fs,rfl,_⟩:=h
  rfl
 obtain ⟨x,y,way,w,fs,rfl,hx,wf,F,rz,q⟩:=h
 obtain ⟨a,ga,oa,gs,os,rfl,ha,hg,ho,rg,ro⟩:=zbs hx
 have hu64:=hr.units
 have i6:=wf.i6
 have i1:=wf.i1
 have nil4:All4 w []:=⟨fun _ z=>(nomatch z),xG⟩
 refine ⟨_,(zaf (zaT (zay zdg (bpv 2) zad (zaX _)) (zag (zap (zal (zgw T) (hr.mono (by decide)) rfl T.d_first_test.m T.d_first_test.F.kp T.d_first_test.b .nil zff (zaa (bpv 0) (zaa (bpv 1) (zac)))))) zaB)
  (zaf (zaT (zay zdg (bpv 2) zad (zaX _)) (zag (zap (zal (zhe T) (hr.mono (by decide)) rfl T.d_test_told.m T.d_test_told.F.kp T.d_test_told.b .nil zff (zaa (bpv 0) (zaa (bpv 1) (zac)))))) zaB)
  (zaf (zaT (zay zdg (bpv 2) zad (zaX _)) (zag (zap (zal (zie T) (hr.mono (by decide)) rfl T.d_pairs_at.m T.d_pairs_at.F.kp T.d_pairs_at.b .nil zff (zaa (bpv 0) (zaa (bpv 1) (zaa (zah zlY (zat (zaa zhI (zac))) (zan zaM (bpv 0) zad (fun _ _=>rfl))) (zaa zad (zac)))))))) zaB)
  (zaf (zaT (zay zdg (bpv 2) zad (zaX _)) (zag (zap (zal (zfT T) (hr.mono (by decide)) rfl T.d_paper_shows.m T.d_paper_shows.F.kp T.d_paper_shows.b .nil zff (zaa (bpv 0) (zaa (bpv 1) (zaa (zax (zaa zar (zac))) (zac))))))) zaB)
  (zaf (zaT (zay zdg (bpv 2) zad (zaX _)) (zag (zap (zal (zeH T) (hr.mono (by decide)) rfl T.d_parted_at.m T.d_parted_at.F.kp T.d_parted_at.b .nil zff (zaa (bpv 0) (zaa (bpv 1) (zaa (zat zac) (zac))))))) zaB)
  (zag (zap (zal (zeH T) (hr.mono (by decide)) rfl T.d_parted_at.m T.d_parted_at.F.kp T.d_parted_at.b .nil zff (zaa (bpv 0) (zaa (zat zac) (zaa (bpv 1) (zac)))))))))))),?_⟩
 refine ⟨_,rfl,rfl,_,rfl,ite2 (fun _=>?_) (fun _=>?_)⟩
 ·exact ⟨_,rfl,_,rfl,.ref a,y,w,fs,rfl,hx,wf,F,rz,q⟩
 refine ⟨_,rfl,rfl,_,rfl,ite2 (fun _=>?_) (fun _=>?_)⟩
 ·exact ⟨_,rfl,_,rfl,.ref a,y,w,fs,rfl,hx,wf,F,rz,q⟩
 refine ⟨_,rfl,rfl,_,rfl,ite2 (fun _=>?_) (fun _=>?_)⟩
 ·refine ⟨_,rfl,_,rfl,(by show 1≤yL;decide),fun L1 h1=>?_⟩
  have k1:=zae h1 (.lst [V.non])
  refine ⟨_,rfl,a,_,_,_,rfl,rfl,k1.seqT ha,rfl,L1,_,_,rfl,rfl,zab,by omega,by omega,bigE (by show 1 * _≤_;omega),fun L2 h2=>?_⟩
  rw [zh5]
  have k2:=zae h2 (.lst ((qH w.ins.toNat (none:Option Int)).map optV))
  have s12:=k1.trans k2
  exact ⟨.ref a,y,L2,w,fs,rfl,hx.mono s12,wf,F.mono s12,zab,(fun n=>(rz n).mono s12),fun g v H' s=>q g v H' (s12.trans s)⟩
 refine ⟨_,rfl,rfl,_,rfl,ite2 (fun _=>?_) (fun _=>?_)⟩
 ·refine ⟨_,rfl,_,rfl,(by show 1≤yL;decide),fun L1 h1=>?_⟩
  have k1:=zae h1 (.tup [.str "same"])
  exact ⟨.ref a,y,.ref L1,w,fs,rfl,hx.mono k1,wf,F.mono k1,.tup (.of zab) (.cons (.str _) .nil),(fun n=>(rz n).mono k1),fun g v H' s=>q g v H' (k1.trans s)⟩
 refine ⟨_,rfl,rfl,_,rfl,ite2 (fun _=>?_) (fun _=>?_)⟩
 ·refine ⟨_,rfl,_,rfl,(by show 0≤yL;decide),fun L1 h1=>?_⟩
  have k1:=zae h1 (.lst [])
  exact ⟨.ref a,y,.ref L1,w,fs,[],rfl,hx.mono k1,wf,F.mono k1,⟨.lst (.of zab) .nil,(fun _ z=>nomatch z),qN _⟩,(fun n=>(rz fun g=>n ⟨g,nil4⟩).mono k1),fun g _ v H' s=>q g v H' (k1.trans s)⟩
 ·refine ⟨_,rfl,(by show 0≤yL;decide),fun L1 h1=>?_⟩
  have k1:=zae h1 (.lst [])
  exact ⟨_,rfl,.ref a,.ref L1,y,w,[],fs,rfl,hx.mono k1,wf,⟨.lst (.of zab) .nil,(fun _ z=>nomatch z),qN _⟩,F.mono k1,(fun n=>(rz fun g=>n ⟨nil4,g⟩).mono k1),fun _ g v H' s=>q g v H' (k1.trans s)⟩
theorem zb7:zav ["works","faults","way","told","e"] ["works","faults","way"] (zaj zct):=⟨rfl,rfl,rfl,by decide+kernel,rfl,by decide+kernel,by decide+kernel⟩
theorem zll:bootBuiltins "ValueError" =some (.type "ValueError"):=by kernel_rfl
theorem zgD (T:Txt K mg t):FnOk P w K mg base CX0 19 t.f_law_refused t.fd_law_refused ["works","faults","way"] (sp_rf4 K):=by
 refine T.d_law_refused.F.okB zb7 (fun vs H Q E h=>?_) (fun cdv A outer s H vs Q E hr h=>?_)
 ·obtain ⟨x,y,way,w,fs,rfl,_⟩:=h
  rfl
 obtain ⟨x,y,way,w,fs,rfl,hx,wf,F,q⟩:=h
 have hu64:=hr.units
 refine ⟨_,(zaf (zai (k:=3) zb7.nd rfl (Or.inl rfl) (zat zac))
  (zaf (zna (zkN (zht T) (hr.mono (by decide)) rfl T.d_law_asked.m T.d_law_asked.F.kp T.d_law_asked.b .nil (zaa (bpv 0) (zaa (bpv 1) (zaa (bpv 2) (zac))))) rfl rfl rfl rfl T.g_StuckError T.k_NoFault.ex T.k_StuckError.ex (by decide) T.i_in zb7.nd (j:=4) rfl rfl (fun x=>unB (zaf (zai (k:=3) zb7.nd rfl (Or.inl rfl) (zat (zaa (zaw (zl8 T.k_NoFault rfl) rfl T.z_isinstance wL (zaa (bpv 4) (zaa (zde (v:=.ref t.x_NoFault) rfl T.g_NoFault rfl) zac))) (zaa (zaw (zkz T.k_NoFault rfl) rfl T.z_isinstance wL (zaa (bpv 4) (zaa (znx (v:=.ty "ValueError") rfl T.z_ValueError zll rfl) zac))) (zac)))))
  (zag (zbv (zoR (K:=K) qQ jC jD zbl (bpv 3) (zaa (zaw (zkK T.k_NoFault rfl) rfl T.z_isinstance wL (zaa (bpv 4) (zaa (zax (zaa (zde (v:=.ref t.x_NoOrder) rfl T.g_NoOrder rfl) (zaa (zde (v:=.ref t.x_NoRow) rfl T.g_NoRow rfl) (zaa (zde (v:=.ref t.x_NoText) rfl T.g_NoText rfl) (zaa (zde (v:=.ref t.x_NoWorks) rfl T.g_NoWorks rfl) (zaa (zde (v:=.ref t.x_TooMany) rfl T.g_TooMany rfl) zac)))))) zac))) (zac))))))))
  (zag (zap (bpv 3))))),?_⟩
 refine ⟨(by show 0≤yL;decide),fun L hL=>?_⟩
 have k0:=zae hL (.lst [])
 have eL:=at4 (o:=.lst []) hL
 generalize upd H L (.lst [])=H1 at k0 eL
 dsimp only [tSeq,tAsg,tC,zdM]
 refine zpp (fun x H2=>Same H1 H2∧H2 x=none∧¬All4 w fs) (fun G hG=>?_) (fun x H2 ⟨s2,n2,no⟩=>?_)
 ·refine ⟨_,rfl,_,rfl,_,rfl,x,y,way,w,fs,rfl,hx.mono k0,wf,F.mono k0,fun no H2 x2 s2 n2 x3 e3 n3=>?_,fun al v H2 s2=>?_⟩
  ·cases e3
   exact hG _ _ ⟨s2,n2,no⟩
  ·exact ⟨_,rfl,q L [] _ (k0.trans s2) (s2 _ _ eL) (fun n=>absurd al n) fun _=>rfl⟩
 ·have k1:=s2.upd n2 (excO x t.x_NoFault)
  have ex:(upd H2 x (excO x t.x_NoFault)) x=some (excO x t.x_NoFault):=zab
  generalize upd H2 x (excO x t.x_NoFault)=H3 at k1 ex
  refine ⟨_,rfl,x,t.x_NoFault,true,rfl,ex,T.i_self,_,rfl,x,"ValueError",true,rfl,ex,T.i_value,(by show 2≤yL;decide),fun M hM=>?_⟩
  have kM:=zae hM (.lst [.bl true,.bl true])
  have eM:=at4 (o:=.lst [.bl true,.bl true]) hM
  have ex2:=kM _ _ ex
  generalize upd H3 M (.lst [.bl true,.bl true])=H4 at kM eM ex2
  refine ⟨_,rfl,.inl ⟨rfl,_,.of eM⟩,_,rfl,(by show 5≤yL;decide),fun tp htp=>?_⟩
  have kt:=zae htp (.tup [.ref t.x_NoOrder,.ref t.x_NoRow,.ref t.x_NoText,.ref t.x_NoWorks,.ref t.x_TooMany])
  have et:=at4 (o:=.tup [.ref t.x_NoOrder,.ref t.x_NoRow,.ref t.x_NoText,.ref t.x_NoWorks,.ref t.x_TooMany]) htp
  generalize upd H4 tp (.tup [.ref t.x_NoOrder,.ref t.x_NoRow,.ref t.x_NoText,.ref t.x_NoWorks,.ref t.x_TooMany])=H5 at kt et
  refine ⟨x,tp,[t.x_NoOrder,t.x_NoRow,t.x_NoText,t.x_NoWorks,t.x_TooMany],false,rfl,kt _ _ ex2,.of et,T.i_none,?_⟩
  refine ⟨M,_,_,rfl,rfl,kt _ _ eM,(by show 3≤yL;decide),?_⟩
  refine ⟨_,rfl,q M [true,true,false] _ ?_ zab (fun _=>rfl) (fun al=>absurd al no)⟩
  exact ((k0.trans k1).trans (kM.trans kt)).write (k0.free (k1.free hM)) _
theorem za6:zav ["works","faults","row","far","wires","gate","legs","bad","one","at"] ["works","faults","row","far"] (zaj zeI):=⟨rfl,rfl,rfl,by decide+kernel,rfl,by decide+kernel,by decide+kernel⟩
theorem zkM (T:Txt K mg t):FnOk P w K mg base CX0 1 t.f_law_bad t.fd_law_bad ["works","faults","row","far"] (sp_bd4 K):=by
 refine T.d_law_bad.F.okB za6 (fun vs H Q E h=>?_) (fun cdv A outer s H vs Q E hr h=>?_)
 ·obtain ⟨x,y,p,far,w,fs,row,rfl,_⟩:=h
  rfl
 obtain ⟨x,y,p,far,w,fs,row,rfl,hx,wf,gf,hp,lr,nr,f0,f1,q⟩:=h
 have hu64:=hr.units
 obtain ⟨a,ga,oa,gs,os,rfl,ha,hg,ho,rg,ro⟩:=zbs hx
 have lg:gs.length=w.gates.length:=by rw [rg.length,yA]
 have i1:=wf.i1
 have i6:=wf.i6
 have few:=wf.few
 have ff:=gf.few
 obtain ⟨fa,ys,rfl,hq,rq⟩:∃ fa ys,y= .ref fa∧SqL K H fa ys∧Reps K H ys (fs.map fltD):=by
  have z:=gf.rep
  cases z with
  | lst h r=>exact ⟨_,_,rfl,h,r⟩
 have ly:ys.length=fs.length:=by rw [rq.length,yA]
 obtain ⟨r0,r1,r2,r3,r4,rfl⟩:∃ r0 r1 r2 r3 r4,row= [r0,r1,r2,r3,r4]:=by
  match row,lr with
  | [a,b,c,d,e],_=>exact ⟨a,b,c,d,e,rfl⟩
 have n0:=nr r0 (.head _)
 have n1:=nr r1 (.tail _ (.head _))
 have n2:=nr r2 (.tail _ (.tail _ (.head _)))
 have n3:=nr r3 (.tail _ (.tail _ (.tail _ (.head _))))
 have n4:=nr r4 (.tail _ (.tail _ (.tail _ (.tail _ (.head _)))))
 refine ⟨_,(zaf (zai (k:=4) za6.nd rfl (Or.inl rfl) (zah zaZ (zan zaM (bpv 0) zad (fun _ _=>rfl)) (zaw zau rfl T.z_len jJ (zaa (zan zaM (bpv 0) zad (fun _ _=>rfl)) (zac)))))
  (zaf (zai (k:=5) za6.nd rfl (Or.inl rfl) (zah zbb (zan zaC (bpv 2) zad (fun _ _=>rfl)) (zaw (zmc rfl) rfl T.z_max PyProof.Rows.boot_max (zaa zad (zaa (zaw zau rfl T.z_len jJ (zaa (zan zaM (bpv 0) zad (fun _ _=>rfl)) (zac))) (zac))))))
  (zaf (zai (k:=6) za6.nd rfl (Or.inl rfl) zad)
  (zaf (zaT (zay (zof hu64) (zan zaM (bpv 0) zad (fun _ _=>rfl)) (zat zac) (zaX _)) (zag (zai (k:=6) za6.nd rfl (Or.inl rfl) (zaw zau rfl T.z_len jJ (zaa (zan zaM (zan zaC (zan zaM (bpv 0) zad (fun _ _=>rfl)) (bpv 5) (fun _ _=>rfl)) zad (fun _ _=>rfl)) (zac))))) zaB)
  (zaf (zai (k:=7) za6.nd rfl (Or.inl rfl) (zat (zaa (zax (zaa zar (zaa (bpv 4) (zaa zad (zac))))) (zaa (zax (zaa zar (zaa (zah zaZ (bpv 4) (bpv 3)) (zaa zad (zac))))) (zaa (zax (zaa zar (zaa (zah zfd (zdx zdy zad) (bpv 3)) (zaa zad (zac))))) (zaa (zax (zaa zar (zaa zad (zaa (zah zaZ zad (bpv 3)) (zac))))) (zac)))))))
  (zaf (zai (k:=7) za6.nd rfl (Or.inl rfl) (zah zca (bpv 7) (zat (zaa (zax (zaa zar (zaa (zah zbb (zan zaC (bpv 2) zad (fun _ _=>rfl)) (bpv 4)) (zaa (zdx zdy zad) (zac))))) (zaa (zax (zaa zar (zaa (zaw zau rfl T.z_len jJ (zaa (zan zaM (bpv 0) zad (fun _ _=>rfl)) (zac))) (zaa zad (zaa zad (zac)))))) (zaa (zax (zaa zar (zaa (bpv 5) (zaa (bpv 6) (zaa zad (zac)))))) (zac)))))))
  (zaf (zai (k:=7) za6.nd rfl (Or.inl rfl) (zah zca (bpv 7) (zat (zaa (zax (zaa zar (zaa (zdx zdy zad) (zaa zad (zaa zad (zac)))))) (zaa (zax (zaa zar (zaa (bpv 5) (zaa (zah zfd (zdx zdy zad) (bpv 3)) (zaa zad (zac)))))) (zaa (zax (zaa zar (zaa (bpv 5) (zaa zad (zaa zad (zac)))))) (zac)))))))
  (zaf (zai (k:=8) za6.nd rfl (Or.inl rfl) (zan zaC (bpv 7) (zah zbb (zan zaC (bpv 2) zad (fun _ _=>rfl)) zad) (fun _ _=>rfl)))
  (zaf (zaT (zh7 (zlO (zay znP (zah zbb (zan zaC (bpv 2) zad (fun _ _=>rfl)) zad) zad (zaX _)) (zj2 (zay (zof hu64) (bpv 1) (zat zac) (zaX _))))) (zaf (zai (k:=8) za6.nd rfl (Or.inl rfl) (zan zaC (bpv 1) (zah zbb (zan zaC (bpv 2) zad (fun _ _=>rfl)) (zaw zau rfl T.z_len jJ (zaa (bpv 1) (zac)))) (fun _ _=>rfl)))
  (zag (zai (k:=8) za6.nd rfl (Or.inl rfl) (zah zju (zaK zj7 (bpv 8) zbE (zaH (zdx zdy zad))) (zax (zaa (zah zbb (zan zaC (bpv 2) zad (fun _ _=>rfl)) zad) (zac))))))) zaB)
  (zaf (zai (k:=9) za6.nd rfl (Or.inl rfl) (zah zbb (zan zaC (bpv 2) zad (fun _ _=>rfl)) (zah zaZ (zaw zau rfl T.z_len jJ (zaa (bpv 1) (zac))) zad)))
  (zag (zap (zah zca (zah zca (zaK zbX (bpv 1) zbE (zaH (bpv 9))) (zat (zaa (bpv 8) (zac)))) (zaK zbX (bpv 1) (zaH (bpv 9)) zbE)))))))))))))),?_⟩
 refine ⟨_,rfl,a,_,_,_,rfl,rfl,ha,rfl,_,rfl,a,_,_,_,rfl,rfl,ha,rfl,ga,_,rfl,.inl hg,_,_,rfl,rfl,?_⟩
 refine ⟨_,rfl,p,_,_,_,rfl,rfl,hp,rfl,?_⟩
 refine ⟨_,rfl,a,_,_,_,rfl,rfl,ha,rfl,ga,_,rfl,.inl hg,_,_,rfl,_,_,rfl,rfl,?_,?_⟩
 ·split <;> omega
 obtain ⟨gi,egi,g0,g1⟩:∃ gi:Int,gi=r1 % (if (gs.length:Int) > 1 then (gs.length:Int) else 1)∧0≤gi∧(0 < gs.length→gi < gs.length):=by
  refine ⟨_,rfl,jX _ ?_,fun h=>?_⟩
  ·split <;> omega
  ·split
   ·exact jI _ (by omega)
   ·have:=jI r1 (show (0:Int) < 1 by decide)
    omega
 show zdM 5 (V.int (r1 % (if (gs.length:Int) > 1 then (gs.length:Int) else 1))) _ H _
 rw [← egi]
 refine ⟨_,rfl,a,_,_,_,rfl,rfl,ha,rfl,(by show 0≤yL;decide),fun E0' hE0=>?_⟩
 have k0:=zae hE0 (.lst [])
 have e0:=at4 (o:=.lst []) hE0
 generalize upd H E0' (.lst [])=H1 at k0 e0
 refine' joinI4 (fun rest=>_) _
 rotate_left 1
 ·refine ⟨ga,E0',gs,rfl,rfl,k0.seq hg,.of e0,?_⟩
  by_cases hz:gs≠[]
  ·rw [decide_eq_true hz]
   have h0: 0 < gs.length:=ybO.mpr hz
   have g2:=g1 h0
   obtain ⟨g,hgk⟩:∃ g,w.gates[gi.toNat]? =some g:=⟨_,yC (by omega)⟩
   obtain ⟨v,hv,rv⟩:=rg.getD (i:=gi.toNat) (d:=zi5 g) (by rw [yE,hgk];rfl)
   obtain ⟨a1,la,rfl,hA,hL⟩:=zfW rv
   have av:atI gs gi=some (.ref a1):=by
    rw [show gi=(gi.toNat:Int) by omega]
    exact zcf hv
   refine ⟨_,rfl,iteT ⟨_,rfl,a,_,_,_,rfl,rfl,k0.seqT ha,rfl,_,rfl,ga,_,_,_,rfl,rfl,k0.seq hg,av,a1,_,_,_,rfl,rfl,k0.seqT hA,rfl,la,_,rfl,.inr (k0.seqT hL),?_⟩⟩
   generalize ((g.2.map V.int).length:Int)=ll
   exact rest ll
  ·rw [decide_eq_false hz]
   exact ⟨_,rfl,iteF (rest 0)⟩
 intro legs
 refine ⟨_,rfl,(by show 3≤yL;decide),fun A1 hA1=>?_⟩
 have kA1:=zae hA1 (.tup [.str "wire",.int (w.ins+(gs.length:Int)),.int 0])
 have eA1:=at4 (o:=.tup [.str "wire",.int (w.ins+(gs.length:Int)),.int 0]) hA1
 generalize upd H1 A1 (.tup [.str "wire",.int (w.ins+(gs.length:Int)),.int 0])=J1 at kA1 eA1
 refine ⟨_,rfl,_,rfl,_,_,rfl,rfl,(by show 3≤yL;decide),fun A2 hA2=>?_⟩
 have kA2:=zae hA2 (.tup [.str "wire",.int ((w.ins+(gs.length:Int))+far),.int 1])
 have eA2:=at4 (o:=.tup [.str "wire",.int ((w.ins+(gs.length:Int))+far),.int 1]) hA2
 generalize upd J1 A2 (.tup [.str "wire",.int ((w.ins+(gs.length:Int))+far),.int 1])=J2 at kA2 eA2
 refine ⟨_,rfl,_,rfl,_,_,rfl,rfl,(by show 3≤yL;decide),fun A3 hA3=>?_⟩
 have kA3:=zae hA3 (.tup [.str "wire",.int (-1 - far),.int 0])
 have eA3:=at4 (o:=.tup [.str "wire",.int (-1 - far),.int 0]) hA3
 generalize upd J2 A3 (.tup [.str "wire",.int (-1 - far),.int 0])=J3 at kA3 eA3
 refine ⟨_,rfl,_,_,rfl,rfl,(by show 3≤yL;decide),fun A4 hA4=>?_⟩
 have kA4:=zae hA4 (.tup [.str "wire",.int 0,.int (2+far)])
 have eA4:=at4 (o:=.tup [.str "wire",.int 0,.int (2+far)]) hA4
 generalize upd J3 A4 (.tup [.str "wire",.int 0,.int (2+far)])=J4 at kA4 eA4
 refine ⟨(by show 4≤yL;decide),fun L1 hL1=>?_⟩
 have kL1:=zae hL1 (.lst [.ref A1,.ref A2,.ref A3,.ref A4])
 have eL1:=at4 (o:=.lst [.ref A1,.ref A2,.ref A3,.ref A4]) hL1
 generalize upd J4 L1 (.lst [.ref A1,.ref A2,.ref A3,.ref A4])=J5 at kL1 eL1
 have s5:=(k0.trans ((((kA1.trans kA2).trans kA3).trans kA4).trans kL1))
 refine ⟨_,rfl,_,rfl,p,_,_,_,rfl,rfl,s5.seq hp,rfl,_,rfl,_,_,rfl,rfl,by show (0:Int) < (w.ins+(gs.length:Int));omega,_,rfl,(by show 3≤yL;decide),fun A5 hA5=>?_⟩
 have kA5:=zae hA5 (.tup [.str "wire",.int (r1 % (w.ins+(gs.length:Int))),.int (-1)])
 have eA5:=at4 (o:=.tup [.str "wire",.int (r1 % (w.ins+(gs.length:Int))),.int (-1)]) hA5
 generalize upd J5 A5 (.tup [.str "wire",.int (r1 % (w.ins+(gs.length:Int))),.int (-1)])=J6 at kA5 eA5
 have s6:=s5.trans kA5
 refine ⟨_,rfl,a,_,_,_,rfl,rfl,s6.seqT ha,rfl,ga,_,rfl,.inl (s6.seq hg),(by show 4≤yL;decide),fun A6 hA6=>?_⟩
 have kA6:=zae hA6 (.tup [.str "leg",.int (gs.length:Int),.int 0,.int 0])
 have eA6:=at4 (o:=.tup [.str "leg",.int (gs.length:Int),.int 0,.int 0]) hA6
 generalize upd J6 A6 (.tup [.str "leg",.int (gs.length:Int),.int 0,.int 0])=J7 at kA6 eA6
 refine ⟨_,rfl,_,rfl,(by show 4≤yL;decide),fun A7 hA7=>?_⟩
 have kA7:=zae hA7 (.tup [.str "leg",.int gi,.int legs,.int 1])
 have eA7:=at4 (o:=.tup [.str "leg",.int gi,.int legs,.int 1]) hA7
 generalize upd J7 A7 (.tup [.str "leg",.int gi,.int legs,.int 1])=J8 at kA7 eA7
 refine ⟨(by show 3≤yL;decide),fun L2 hL2=>?_⟩
 have kL2:=zae hL2 (.lst [.ref A5,.ref A6,.ref A7])
 have eL2:=at4 (o:=.lst [.ref A5,.ref A6,.ref A7]) hL2
 generalize upd J8 L2 (.lst [.ref A5,.ref A6,.ref A7])=J9 at kL2 eL2
 refine ⟨L1,L2,_,_,rfl,rfl,(((kA5.trans kA6).trans kA7).trans kL2) _ _ eL1,eL2,(by show 7≤yL;decide),fun L3 hL3=>?_⟩
 have kL3:=zae hL3 (.lst [.ref A1,.ref A2,.ref A3,.ref A4,.ref A5,.ref A6,.ref A7])
 have eL3:=at4 (o:=.lst [.ref A1,.ref A2,.ref A3,.ref A4,.ref A5,.ref A6,.ref A7]) hL3
 replace kL3:Same J9 (upd J9 L3 (.lst ([.ref A1,.ref A2,.ref A3,.ref A4]++ [.ref A5,.ref A6,.ref A7]))):=kL3
 replace eL3:(upd J9 L3 (.lst ([.ref A1,.ref A2,.ref A3,.ref A4]++ [.ref A5,.ref A6,.ref A7]))) L3=some (.lst [.ref A1,.ref A2,.ref A3,.ref A4,.ref A5,.ref A6,.ref A7]):=eL3
 generalize upd J9 L3 (.lst ([.ref A1,.ref A2,.ref A3,.ref A4]++ [.ref A5,.ref A6,.ref A7]))=JC at kL3 eL3
 refine ⟨_,rfl,_,rfl,(by show 4≤yL;decide),fun A8 hA8=>?_⟩
 have kA8:=zae hA8 (.tup [.str "leg",.int (-1),.int 0,.int 0])
 have eA8:=at4 (o:=.tup [.str "leg",.int (-1),.int 0,.int 0]) hA8
 generalize upd JC A8 (.tup [.str "leg",.int (-1),.int 0,.int 0])=J10 at kA8 eA8
 refine ⟨_,rfl,_,rfl,_,rfl,_,_,rfl,rfl,(by show 4≤yL;decide),fun A9 hA9=>?_⟩
 have kA9:=zae hA9 (.tup [.str "leg",.int gi,.int (-1 - far),.int 0])
 have eA9:=at4 (o:=.tup [.str "leg",.int gi,.int (-1 - far),.int 0]) hA9
 generalize upd J10 A9 (.tup [.str "leg",.int gi,.int (-1 - far),.int 0])=J11 at kA9 eA9
 refine ⟨_,rfl,(by show 4≤yL;decide),fun A10 hA10=>?_⟩
 have kA10:=zae hA10 (.tup [.str "leg",.int gi,.int 0,.int 2])
 have eA10:=at4 (o:=.tup [.str "leg",.int gi,.int 0,.int 2]) hA10
 generalize upd J11 A10 (.tup [.str "leg",.int gi,.int 0,.int 2])=J12 at kA10 eA10
 refine ⟨(by show 3≤yL;decide),fun L4 hL4=>?_⟩
 have kL4:=zae hL4 (.lst [.ref A8,.ref A9,.ref A10])
 have eL4:=at4 (o:=.lst [.ref A8,.ref A9,.ref A10]) hL4
 generalize upd J12 L4 (.lst [.ref A8,.ref A9,.ref A10])=J13 at kL4 eL4
 refine ⟨L3,L4,_,_,rfl,rfl,(((kA8.trans kA9).trans kA10).trans kL4) _ _ eL3,eL4,(by show 10≤yL;decide),fun L5 hL5=>?_⟩
 have kL5:Same J13 (upd J13 L5 (.lst ([.ref A1,.ref A2,.ref A3,.ref A4,.ref A5,.ref A6,.ref A7]++ [.ref A8,.ref A9,.ref A10]))):=zae hL5 _
 have eL5:(upd J13 L5 (.lst ([.ref A1,.ref A2,.ref A3,.ref A4,.ref A5,.ref A6,.ref A7]++ [.ref A8,.ref A9,.ref A10]))) L5=some (.lst [.ref A1,.ref A2,.ref A3,.ref A4,.ref A5,.ref A6,.ref A7,.ref A8,.ref A9,.ref A10]):=zab
 generalize upd J13 L5 (.lst ([.ref A1,.ref A2,.ref A3,.ref A4,.ref A5,.ref A6,.ref A7]++ [.ref A8,.ref A9,.ref A10]))=JD at kL5 eL5
 have ten:Reps K JD [.ref A1,.ref A2,.ref A3,.ref A4,.ref A5,.ref A6,.ref A7,.ref A8,.ref A9,.ref A10] (List.map fltD [(⟨zbd (w.ins+(gs.length:Int)),0⟩:Flt),(⟨zbd ((w.ins+(gs.length:Int))+far),1⟩:Flt),(⟨zbd (-1 - far),0⟩:Flt),(⟨zbd 0,2+far⟩:Flt),(⟨zbd (r1 % (w.ins+(gs.length:Int))),-1⟩:Flt),(⟨legK (gs.length:Int) 0,0⟩:Flt),(⟨legK gi legs,1⟩:Flt),(⟨legK (-1) 0,0⟩:Flt),(⟨legK gi (-1 - far),0⟩:Flt),(⟨legK gi 0,2⟩:Flt)]):=(.cons (zbY (f:=⟨zbd (w.ins+(gs.length:Int)),0⟩) (.of ((((((((((((((kA2.trans kA3).trans kA4).trans kL1).trans kA5).trans kA6).trans kA7).trans kL2).trans kL3).trans kA8).trans kA9).trans kA10).trans kL4).trans kL5) _ _ eA1))) (.cons (zbY (f:=⟨zbd ((w.ins+(gs.length:Int))+far),1⟩) (.of (((((((((((((kA3.trans kA4).trans kL1).trans kA5).trans kA6).trans kA7).trans kL2).trans kL3).trans kA8).trans kA9).trans kA10).trans kL4).trans kL5) _ _ eA2))) (.cons (zbY (f:=⟨zbd (-1 - far),0⟩) (.of ((((((((((((kA4.trans kL1).trans kA5).trans kA6).trans kA7).trans kL2).trans kL3).trans kA8).trans kA9).trans kA10).trans kL4).trans kL5) _ _ eA3))) (.cons (zbY (f:=⟨zbd 0,2+far⟩) (.of (((((((((((kL1.trans kA5).trans kA6).trans kA7).trans kL2).trans kL3).trans kA8).trans kA9).trans kA10).trans kL4).trans kL5) _ _ eA4))) (.cons (zbY (f:=⟨zbd (r1 % (w.ins+(gs.length:Int))),-1⟩) (.of (((((((((kA6.trans kA7).trans kL2).trans kL3).trans kA8).trans kA9).trans kA10).trans kL4).trans kL5) _ _ eA5))) (.cons (zbY (f:=⟨legK (gs.length:Int) 0,0⟩) (.of ((((((((kA7.trans kL2).trans kL3).trans kA8).trans kA9).trans kA10).trans kL4).trans kL5) _ _ eA6))) (.cons (zbY (f:=⟨legK gi legs,1⟩) (.of (((((((kL2.trans kL3).trans kA8).trans kA9).trans kA10).trans kL4).trans kL5) _ _ eA7))) (.cons (zbY (f:=⟨legK (-1) 0,0⟩) (.of ((((kA9.trans kA10).trans kL4).trans kL5) _ _ eA8))) (.cons (zbY (f:=⟨legK gi (-1 - far),0⟩) (.of (((kA10.trans kL4).trans kL5) _ _ eA9))) (.cons (zbY (f:=⟨legK gi 0,2⟩) (.of ((kL4.trans kL5) _ _ eA10))) .nil))))))))))
 have sD:=(k0.trans ((((((((((((((kA1.trans kA2).trans kA3).trans kA4).trans kL1).trans kA5).trans kA6).trans kA7).trans kL2).trans kL3).trans kA8).trans kA9).trans kA10).trans kL4).trans kL5))
 obtain ⟨gl,egl,form⟩:∃ gl:List Flt,gl= [⟨zbd (w.ins+(gs.length:Int)),0⟩,⟨zbd ((w.ins+(gs.length:Int))+far),1⟩,⟨zbd (-1 - far),0⟩,⟨zbd 0,2+far⟩,⟨zbd (r1 % (w.ins+(gs.length:Int))),-1⟩,⟨legK (gs.length:Int) 0,0⟩,⟨legK gi legs,1⟩,⟨legK (-1) 0,0⟩,⟨legK gi (-1 - far),0⟩,⟨legK gi 0,2⟩]∧∀ f∈gl,zes f:=by
  refine ⟨_,rfl,fun f hf=>?_⟩
  simp only [yO,qJ,or_false] at hf
  rcases hf with rfl | rfl | rfl | rfl | rfl | rfl | rfl | rfl | rfl | rfl
  ·exact .inl ⟨_,rfl⟩
  ·exact .inl ⟨_,rfl⟩
  ·exact .inl ⟨_,rfl⟩
  ·exact .inl ⟨_,rfl⟩
  ·exact .inl ⟨_,rfl⟩
  ·exact .inr ⟨_,_,rfl⟩
  ·exact .inr ⟨_,_,rfl⟩
  ·exact .inr ⟨_,_,rfl⟩
  ·exact .inr ⟨_,_,rfl⟩
  ·exact .inr ⟨_,_,rfl⟩
 have lgl:gl.length=10:=by rw [egl];rfl
 rw [← egl] at ten
 obtain ⟨Ab,fb,av,rb,mb⟩:=zn5 ten (c:=r2 % 10) (jX _ (by decide)) (by rw [lgl];exact jI _ (by decide))
 have fob:=form fb mb
 refine ⟨_,rfl,_,rfl,p,_,_,_,rfl,rfl,sD.seq hp,rfl,_,_,rfl,rfl,(by show (0:Int) < 10;decide),L5,_,_,_,rfl,rfl,.of eL5,av,?_⟩
 refine' joinV4 (C:=fun a f H'=>Same JD H'∧Rep K H' (.ref a) (fltD f)∧zes f) (fun rest=>_) _
 rotate_left 1
 ·refine ⟨_,rfl,p,_,_,_,rfl,rfl,sD.seq hp,rfl,_,_,rfl,rfl,(by show (0:Int) < 8;decide),_,_,rfl,rfl,_,rfl,ite2 (fun c=>?_) (fun c=>iteF ?_)⟩
  rotate_left
  ·have z:Same JD JD∧Rep K JD (.ref Ab) (fltD fb)∧zes fb:=⟨Same.refl _,rb,fob⟩
   generalize eJ:JD=J' at z ⊢
   have z2:Same JD J'∧Rep K J' (.ref Ab) (fltD fb)∧zes fb:=by rw [eJ];exact z
   generalize Ab=A' at z2 ⊢
   generalize fb=f' at z2
   exact rest A' f' J' z2
  refine ⟨_,rfl,(by show 0≤yL;decide),fun E1 hE1=>?_⟩
  have k1:=zae hE1 (.lst [])
  have e1:=at4 (o:=.lst []) hE1
  generalize upd JD E1 (.lst [])=JE at k1 e1
  have sE:=sD.trans k1
  refine ⟨fa,E1,ys,rfl,rfl,sE.seq hq,.of e1,?_⟩
  by_cases hz:ys≠[]
  ·rw [decide_eq_true hz]
   have l0: 0 < ys.length:=ybO.mpr hz
   obtain ⟨fa1,f,av2,rf,mf⟩:=zn5 (rq.mono sE) (c:=r2 % (ys.length:Int)) (jX _ (by omega)) (by rw [← ly];exact jI _ (by omega))
   have gff:=gf.good f mf
   obtain ⟨fa2,ef,hf⟩:=zgm rf
   cases ef
   refine ⟨_,rfl,iteT ⟨_,rfl,_,rfl,p,_,_,_,rfl,rfl,sE.seq hp,rfl,_,rfl,fa,_,rfl,.inl (sE.seq hq),_,_,rfl,rfl,(by show (0:Int) < (ys.length:Int);omega),fa,_,_,_,rfl,rfl,sE.seq hq,av2,_,rfl,_,rfl,_,rfl,fa1,_,rfl,hf,zeK _ _,fun T1 h1=>?_⟩⟩
   rw [show (-(1:Int))= -1 from rfl,zdT]
   have kT1:=zae h1 (.tup (f.place.map kV))
   have eT1:=at4 (o:=.tup (f.place.map kV)) h1
   generalize upd JE T1 (.tup (f.place.map kV))=JF at kT1 eT1
   refine ⟨_,rfl,p,_,_,_,rfl,rfl,(sE.trans kT1).seq hp,rfl,_,_,rfl,rfl,(by show (0:Int) < 2;decide),(by show 1≤yL;decide),fun T2 h2=>?_⟩
   have kT2:=zae h2 (.tup [.int (r3 % 2)])
   have lp:=znD gff
   refine ⟨T1,T2,_,_,rfl,rfl,.of (kT2 _ _ eT1),.of zab,(fun z=>by have:=congrArg vC z;rw [yA] at this;simp at this;rw [this] at lp;simp at lp),bigE (by rw [yA];simp;omega),(fun z=>nomatch z),fun _ T3 h3=>?_⟩
   have kT3:=zae h3 (.tup (f.place.map kV++ [.int (r3 % 2)]))
   exact rest T3 ⟨f.place,r3 % 2⟩ _ ⟨((k1.trans kT1).trans kT2).trans kT3,zbY (f:=⟨f.place,r3 % 2⟩) (.of zab),show zes ⟨f.place,r3 % 2⟩ from (zd5 gff:zes f)⟩
  ·rw [decide_eq_false hz]
   exact ⟨_,rfl,iteF (rest Ab fb JE ⟨k1,rb.mono k1,fob⟩)⟩
 rintro b1 f1 Hb ⟨sb,rb1,fo1⟩
 have s1:=sD.trans sb
 obtain ⟨jn,ej,hj⟩:∃ jn:Nat,r4 % ((ys.length:Int)+1)=(jn:Int)∧jn≤ys.length:=by
  have a1:=jX r4 (show ((ys.length:Int)+1)≠0 by omega)
  have a2:=jI r4 (show (0:Int) < (ys.length:Int)+1 by omega)
  exact ⟨(r4 % ((ys.length:Int)+1)).toNat,by omega,by omega⟩
 refine ⟨_,rfl,p,_,_,_,rfl,rfl,s1.seq hp,rfl,_,rfl,fa,_,rfl,.inl (s1.seq hq),_,_,rfl,rfl,_,_,rfl,rfl,(by show (0:Int) < (ys.length:Int)+1;omega),?_⟩
 show zdM 9 (V.int (r4 % ((ys.length:Int)+1))) _ _ _
 rw [ej]
 refine ⟨_,rfl,_,rfl,_,rfl,fa,_,rfl,s1.seq hq,fun B1 hB1=>?_⟩
 rw [zjF ys hj]
 have m1:=zae hB1 (.lst (ys.take jn))
 have eB1:=at4 (o:=.lst (ys.take jn)) hB1
 generalize upd Hb B1 (.lst (ys.take jn))=Hc at m1 eB1
 refine ⟨_,rfl,(by show 1≤yL;decide),fun B2 hB2=>?_⟩
 have m2:=zae hB2 (.lst [.ref b1])
 have eB2:=at4 (o:=.lst [.ref b1]) hB2
 generalize upd Hc B2 (.lst [.ref b1])=Hd at m2 eB2
 have lt:(ys.take jn).length=jn:=by rw [yR];omega
 refine ⟨B1,B2,_,_,rfl,rfl,m2 _ _ eB1,eB2,bigE (by rw [lt,qO];omega),fun B3 hB3=>?_⟩
 have m3:=zae hB3 (.lst (ys.take jn++ [.ref b1]))
 have eB3:=at4 (o:=.lst (ys.take jn++ [.ref b1])) hB3
 generalize upd Hd B3 (.lst (ys.take jn++ [.ref b1]))=He at m3 eB3
 have m13:=(m1.trans m2).trans m3
 refine ⟨_,rfl,_,rfl,_,rfl,fa,_,rfl,(s1.trans m13).seq hq,fun B4 hB4=>?_⟩
 rw [zpj ys hj]
 have m4:=zae hB4 (.lst (ys.drop jn))
 have eB4:=at4 (o:=.lst (ys.drop jn)) hB4
 generalize upd He B4 (.lst (ys.drop jn))=Hf at m4 eB4
 refine ⟨B3,B4,_,_,rfl,rfl,m4 _ _ eB3,eB4,bigE (by simp;omega),fun B5 hB5=>?_⟩
 have m5:=zae hB5 (.lst (ys.take jn++ [.ref b1]++ys.drop jn))
 have m15:=(m13.trans m4).trans m5
 refine q B5 (fs.take jn++ [f1]++fs.drop jn) _ (s1.trans m15) (.lst (.of zab) ?_) (fun f hf=>?_) (by simp;omega)
 ·have r0:=rq.mono (s1.trans m15)
  have ee:(fs.take jn++ [f1]++fs.drop jn).map fltD=(fs.map fltD).take jn++ [fltD f1]++(fs.map fltD).drop jn:=by simp [wB,wT]
  rw [ee]
  exact ((zgV r0 jn).append (.cons (rb1.mono m15) .nil)).append (zha r0 jn)
 ·rcases yP.mp hf with hf | hf
  ·rcases yP.mp hf with hf | hf
   ·exact zd5 (gf.good f (xJ hf))
   ·rw [yF.mp hf];exact fo1
  ·exact zd5 (gf.good f (kA hf))
theorem zd9:zav ["works","faults","things"] ["works","faults"] (zaj zcm):=⟨rfl,rfl,rfl,by decide+kernel,rfl,by decide+kernel,by decide+kernel⟩
theorem zgz (T:Txt K mg t):FnOk P w K mg base CX0 2 t.f_law_is_good t.fd_law_is_good ["works","faults"] (sp_gd4 K):=by
 refine T.d_law_is_good.F.okB zd9 (fun vs H Q E h=>?_) (fun cdv A outer s H vs Q E hr h=>?_)
 ·obtain ⟨x,y,w,fs,rfl,_⟩:=h
  rfl
 obtain ⟨x,y,w,fs,rfl,hx,wf,hy,ff,lf,q⟩:=h
 have hu64:=hr.units
 refine ⟨_,(zaf (zfp (k:=2) rfl (N:=["fault"]) (n:=1) (cap:=[]) (zbt rfl rfl) zd9.nd rfl rfl (zaJ (bpv 1)) (zaL (by decide)) (fun _ _ _ _=>(zam (k:=0) (show (["fault"]:List Str).Nodup by decide+kernel) rfl (Or.inl rfl))) (fun _ _ _ _=>zaI) (fun _ _ _ _=>(zaK (zmI (K:=K)) (bpv 0) zbE (zaH (zdx zdy zad)))) rfl)
  (zaf (zaT (zay op_ne (zjl rfl hu64 rfl T.z_len rfl T.z_set (bpv 2)) (zaw zau rfl T.z_len jJ (zaa (bpv 2) (zac))) (zaX _)) (zag (zap zf7)) zaB)
  (zag (zap (zaw (zgk rfl) rfl T.z_all yaB (zaa (zaO rfl (N:=["fault","works"]) (n:=1) (cap:=[0]) (zbt rfl rfl) (zaJ (bpv 1)) (zaL (by decide)) (fun _ _ _ _=>(zam (k:=0) (show (["fault","works"]:List Str).Nodup by decide+kernel) rfl (Or.inl rfl))) (fun _ _ _ _=>zaI) (fun _ _ _ _=>(zfr (zo5 (K:=K) hu64) (bpv 0) (zal (zcD T) (hr.mono (by decide)) rfl T.d_law_every_fault.m T.d_law_every_fault.F.kp T.d_law_every_fault.b .nil zaR (zaa (bpv 1) (zac))) rfl))) (zac))))))),?_⟩
 cases hy with
 | @lst fa ys _ hq rq=>
  have ly:ys.length=fs.length:=by rw [rq.length,yA]
  refine ⟨_,rfl,fa,rfl,⟨_,hq⟩,fun D hD=>za0 (K:=K) (a:=fa) (xs:=ys)
   (fun i H4=>∃ zs:List (List Key×Addr),Off [D] H H4∧H4 D=some (.lst (zs.map fun z=>V.ref z.2))∧(∀ z∈zs,z.2≠D∧H4 z.2=some (.tup (z.1.map kV)))∧zs.map (·.1)=(fs.take i).map (·.place))
   ⟨[],Off.start hD _,zab,(fun _ z=>nomatch z),rfl⟩ (fun i H4 _ ⟨_,off,_⟩=>off.same.seq hq) ?_ ?_⟩
  ·rintro i v H4 hv ⟨zs,off,eD,tz,mz⟩
   obtain ⟨dd,hdd,rv⟩:=rq.get hv
   rw [yE] at hdd
   cases hz:fs[i]? with
   | none=>rw [hz] at hdd;cases hdd
   | some f=>
    rw [hz] at hdd
    cases hdd
    obtain ⟨fa1,rfl,hf⟩:=zgm rv
    have li:i < fs.length:=(yG.mp hz).1
    have lz:zs.length=i:=by
     have:=congrArg vC mz
     simp at this
     omega
    refine ⟨_,rfl,_,rfl,_,rfl,fa1,_,rfl,off.same.seqT hf,zeK _ _,fun T1 h1=>?_⟩
    rw [show (-(1:Int))= -1 from rfl,zdT]
    have k1:=zae h1 (.tup (f.place.map kV))
    have tD:T1≠D:=xU (zao eD h1)
    refine ⟨_,k1 _ _ eD,big (by rw [yA];omega),zs++ [(f.place,T1)],(off.new h1 _).write (.head _) _,by rw [zab,yM];rfl,fun z hz2=>?_,?_⟩
    ·rcases yP.mp hz2 with hz2 | hz2
     ·obtain ⟨a1,a2⟩:=tz z hz2
      exact ⟨a1,by rw [zak a1];exact k1 _ _ a2⟩
     ·rw [yF.mp hz2]
      exact ⟨tD,by rw [zak tD];exact zab⟩
    ·rw [yM,mz,yV,hz,yM]
     rfl
  ·rintro H4 ⟨zs,off,eD,tz,mz⟩
   rw [ly,qB] at mz
   have lz:zs.length=fs.length:=by
    have:=congrArg vC mz
    simpa using this
   have s4:=off.same
   refine ⟨_,rfl,D,zs,rfl,eD,(fun z hz=>(tz z hz).2),by omega,fun Ds nd mem=>?_⟩
   rw [mz] at mem
   refine ⟨_,rfl,D,_,rfl,.inl (.of eD),?_⟩
   rw [yA,lz]
   refine ⟨rfl,_,rfl,ite2 (fun c=>?_) (fun c=>?_)⟩
   ·refine q false _ s4 ⟨fun z=>(nomatch z),fun al=>?_⟩
    have e:Ds.length=fs.length:=by
     rw [((yaT nd al.2).mpr mem).length_eq,yA]
    rw [e] at c
    simp at c
   ·have e:Ds.length=fs.length:=by
     have:(Ds.length:Int)=fs.length:=by simpa using c
     omega
    have ap:zcq fs:=nd4 nd (fun x hx=>(mem x).mp hx) (by rw [yA,e];exact yN _)
    refine ⟨_,rfl,fa,rfl,⟨_,s4.seq hq⟩,fun D2 hD2=>za0 (K:=K) (a:=fa) (xs:=ys)
     (fun i H5=>∃ bs:List Bool,Off [D2] H4 H5∧H5 D2=some (.lst (bs.map V.bl))∧bs.length=i∧(bs.all id=true↔∀ f∈fs.take i,zd7 w f))
     ⟨[],Off.start hD2 _,zab,rfl,⟨fun _ _ z=>(nomatch z),fun _=>rfl⟩⟩ (fun i H5 _ ⟨_,of5,_⟩=>(s4.trans of5.same).seq hq) ?_ ?_⟩
    ·rintro i v H5 hv ⟨bs,of5,eD2,lb,ab⟩
     obtain ⟨dd,hdd,rv⟩:=rq.get hv
     rw [yE] at hdd
     cases hz:fs[i]? with
     | none=>rw [hz] at hdd;cases hdd
     | some f=>
      rw [hz] at hdd
      cases hdd
      have li:i < fs.length:=(yG.mp hz).1
      have s5:=s4.trans of5.same
      have et:fs.take (i+1)=fs.take i++ [f]:=by rw [yV,hz];rfl
      refine ⟨_,rfl,_,rfl,x,w,rfl,hx.mono s5,wf,fun r xs H6 s6 nr er rs=>?_⟩
      have put:∀ b:Bool,(b=true↔zd7 w f)→∃ xs,H6 D2=some (.lst xs)∧xs.length < yL∧∃ bs:List Bool,Off [D2] H4 (upd H6 D2 (.lst (xs++ [.bl b])))∧(upd H6 D2 (.lst (xs++ [.bl b]))) D2=some (.lst (bs.map V.bl))∧bs.length=i+1∧(bs.all id=true↔∀ f∈fs.take (i+1),zd7 w f):=fun b hb=>by
       refine ⟨_,s6 _ _ eD2,big (by rw [yA];omega),bs++ [b],(of5.grow s6).write (.head _) _,by rw [zab,yM];rfl,by simp [lb],?_⟩
       rw [et,yco,qA,ab]
       constructor
       ·rintro ⟨h1,h2⟩ g hg
        rcases yP.mp hg with hg | hg
        ·exact h1 g hg
        ·rw [yF.mp hg]
         exact hb.mp (by simpa using h2)
       ·intro h
        exact ⟨fun g hg=>h g (yP.mpr (.inl hg)),by
         have:=hb.mpr (h f (yP.mpr (.inr (.head _))))
         simp [this]⟩
      exact ⟨fltD f,zbI w,rv.mono (s5.trans s6),.lst (.of er) rs,zjj 7 (ff f (yI hz)),fun e he=>zkf 7 he,fun mf=>put true ⟨fun _=>zjY mf,fun _=>rfl⟩,fun z=>put false ⟨fun e=>(nomatch e),fun g=>absurd (zj1 g) z⟩⟩
    ·rintro H5 ⟨bs,of5,eD2,lb,ab⟩
     rw [ly,qB] at ab
     refine ⟨_,bs,rfl,.of eD2,q _ _ (s4.trans of5.same) ?_⟩
     rw [ab]
     exact ⟨fun g=>⟨g,ap⟩,fun al=>al.1⟩
theorem zdR:zav ["script","works","row","far","k","faults","due","way","given"] ["script"] (zaj zio):=⟨rfl,rfl,rfl,by decide+kernel,rfl,by decide+kernel,by decide+kernel⟩
theorem ok_law (T:Txt K mg t):FnOk P w K mg base CX0 20 t.f_law t.fd_law ["script"] (zj3 K):=by
 refine T.d_law.F.okB zdR (fun vs H Q E h=>?_) (fun cdv A outer s H vs Q E hr h=>?_)
 ·obtain ⟨a,ns,rfl,_⟩:=h
  rfl
 obtain ⟨a,ns,rfl,hS,h63,q⟩:=h
 have hu64:=hr.units
 refine ⟨_,(zaf (zai (k:=1) zdR.nd rfl (Or.inl rfl) (zal (ziN T) (hr.mono (by decide)) rfl T.d_law_works.m T.d_law_works.F.kp T.d_law_works.b .nil zaR (zaa (bpv 0) (zaa zad (zaa zad (zaa zad (zac)))))))
  (zaf (zai (k:=2) zdR.nd rfl (Or.inl rfl) (zal (zcT T) (hr.mono (by decide)) rfl T.d_law_numbers.m T.d_law_numbers.F.kp T.d_law_numbers.b .nil zaR (zaa (zal (zcW T) (hr.mono (by decide)) rfl T.d_law_cell_at.m T.d_law_cell_at.F.kp T.d_law_cell_at.b .nil zaR (zaa (bpv 0) (zaa zad (zac)))) (zaa zad (zaa zad (zac))))))
  (zaf (zai (k:=3) zdR.nd rfl (Or.inl rfl) (zah zbb (zal (zcW T) (hr.mono (by decide)) rfl T.d_law_cell_at.m T.d_law_cell_at.F.kp T.d_law_cell_at.b .nil zaR (zaa (bpv 0) (zaa zad (zac)))) (zah zg0 zad zad)))
  (zaf (za4 qV rfl (zaU rfl T.z_range (zaa zad (zac))) (zam (k:=4) zdR.nd rfl (Or.inl rfl)) (zaf (zai (k:=5) zdR.nd rfl (Or.inl rfl) (zal (zeC T) (hr.mono (by decide)) rfl T.d_law_some_faults.m T.d_law_some_faults.F.kp T.d_law_some_faults.b .nil zaR (zaa (bpv 1) (zaa (zaK zbX (bpv 2) (zaH (zah zdN zad (bpv 4))) (zaH (zah zaZ (zah zdN zad (bpv 4)) zad))) (zac)))))
  (zaf (zaT (zay znP (zah zbb (zan zaC (bpv 2) (zah zaZ (zah zdN zad (bpv 4)) zad) (fun _ _=>rfl)) zad) zad (zaX _)) (zag (zai (k:=5) zdR.nd rfl (Or.inl rfl) (zal (zkM T) (hr.mono (by decide)) rfl T.d_law_bad.m T.d_law_bad.F.kp T.d_law_bad.b .nil zaR (zaa (bpv 1) (zaa (bpv 5) (zaa (zaK zbX (bpv 2) (zaH (zah zaZ (zah zdN zad (bpv 4)) zad)) (zaH (zah zaZ (zah zdN zad (bpv 4)) zad))) (zaa (bpv 3) (zac)))))))) zaB)
  (zaf (zai (k:=6) zdR.nd rfl (Or.inl rfl) (zat zac))
  (zaf (zaT (zmR (zmT (zal (zgz T) (hr.mono (by decide)) rfl T.d_law_is_good.m T.d_law_is_good.F.kp T.d_law_is_good.b .nil zaR (zaa (bpv 1) (zaa (bpv 5) (zac)))))) (zag (zai (k:=6) zdR.nd rfl (Or.inl rfl) (zat (zaa zf7 (zaa zf7 (zaa zf7 (zac))))))) zaB)
  (zag (za4 qV rfl (zaU rfl T.z_range (zaa zad (zac))) (zam (k:=7) zdR.nd rfl (Or.inl rfl)) (zaf (zai (k:=8) zdR.nd rfl (Or.inl rfl) (zcx zhY rfl T.z_list PyProof.Rows.boot_list (zaa (bpv 5) (zac))))
  (zag (zaT (zh7 (zmr (zay (zo4 hu64) (zal (zgD T) (hr.mono (by decide)) rfl T.d_law_refused.m T.d_law_refused.F.kp T.d_law_refused.b .nil zaR (zaa (bpv 1) (zaa (bpv 8) (zaa (bpv 7) (zac))))) (bpv 6) (zaX _)) (zjt (zay (op_neD hu64) (bpv 8) (bpv 5) (zaX _))))) (zag (zap zf7)) zaB))))))))))
  (zag (zap zf7)))))),?_⟩
 refine ⟨_,rfl,a,ns,6,6,12,rfl,hS,h63,by decide,by decide,by decide,by decide,fun r w H1 s1 rw1 wf _ _ _=>?_⟩
 refine ⟨_,rfl,a,ns,1,rfl,s1.seq hS,fun c1=>?_⟩
 refine ⟨c1,45,60,rfl,by decide,by decide,by decide,fun R row H3 s3 nR eR lr br=>?_⟩
 have rw3:=rw1.mono s3
 refine ⟨_,rfl,a,ns,1,rfl,(s1.trans s3).seq hS,fun c2=>?_⟩
 refine ⟨_,_,rfl,rfl,⟨by decide,by decide,by decide⟩,_,_,rfl,rfl,(by show (0:Int) < 10 ^ (20:Int).toNat;decide),?_⟩
 obtain ⟨far,efar,f0,f1⟩:∃ far:Int,far=c2 % 10 ^ (20:Int).toNat∧0≤far∧far < 10 ^ 20:=⟨_,rfl,jX _ (by decide),jI _ (by decide)⟩
 show zdM 3 (V.int (c2 % 10 ^ (20:Int).toNat)) _ _ _
 rw [← efar]
 refine ⟨_,rfl,by decide,by decide,zbR (fun k σ H5=>∃ (o4 o5 o6 o7 o8:Option V),σ = [some (.ref a),some (.ref r),some (.ref R),some (.int far),o4,o5,o6,o7,o8]∧Same H3 H5)
  ⟨_,_,_,_,_,rfl,Same.refl _⟩ ?_ ?_⟩
 ·rintro k σ H5 hk2 ⟨o4,o5,o6,o7,o8,rfl,s5⟩
  rw [vX]
  have hk:k < 3:=hk2
  refine ⟨_,rfl,_,rfl,_,rfl,_,_,rfl,rfl,.inl ⟨by decide,by decide⟩,_,rfl,_,rfl,_,_,rfl,rfl,.inl ⟨by decide,by decide⟩,_,_,rfl,rfl,_,rfl,R,_,rfl,.of (s5 _ _ eR),fun S hS2=>?_⟩
  obtain ⟨zs,ezs⟩:∃ zs,(row.drop (15 * (k:Int)).toNat).take (15 * (k:Int)+9 - 15 * (k:Int)).toNat=zs:=⟨_,rfl⟩
  have lz:zs.length=9:=by rw [← ezs,yR,jW];omega
  have bz:∀ z∈zs,0≤z:=fun z hz=>(br z (by rw [← ezs] at hz;exact kA (xJ hz))).1
  have e9:cutV (row.map V.int) (some (15 * (k:Int))) (some (15 * (k:Int)+9))=zs.map V.int:=by rw [← ezs];exact zhn row (by omega) (by omega) (by omega)
  have kS:=zae hS2 (.lst (cutV (row.map V.int) (some (15 * (k:Int))) (some (15 * (k:Int)+9))))
  have s5S:=s5.trans kS
  refine ⟨.ref r,S,w,zs,rfl,rw3.mono s5S,wf,.of (zab.trans (congrArg (fun l=>some (HO.lst l)) e9)),lz,bz,fun fa fs H6 s6 nfa gf=>?_⟩
  have s36:=s5S.trans s6
  have ff:=gf.few
  obtain ⟨z9,hz9⟩:∃ z,row[15 * k+9]? =some z:=⟨_,yC (by omega)⟩
  have a9:atI (row.map V.int) (15 * (k:Int)+9)=some (.int z9):=by
   rw [show 15 * (k:Int)+9=((15 * k+9:Nat):Int) by omega]
   exact zcf (by rw [yE,hz9];rfl)
  refine' joinF4 (C:=fun a' fs' H'=>Same H6 H'∧Rep K H' (.ref a') (.list (fs'.map fltD))∧(∀ f∈fs',zes f)∧fs'.length≤9) (fun rest=>_) _
  rotate_left 1
  ·refine ⟨_,rfl,_,rfl,_,_,rfl,rfl,.inl ⟨by decide,by decide⟩,_,_,rfl,rfl,R,_,_,_,rfl,rfl,.of (s36 _ _ eR),a9,_,_,rfl,rfl,(by show (0:Int) < 8;decide),_,_,rfl,rfl,_,rfl,ite2 (fun c=>?_) (fun c=>?_)⟩
   ·refine ⟨_,rfl,_,rfl,_,rfl,_,rfl,_,_,rfl,rfl,.inl ⟨by decide,by decide⟩,_,_,rfl,rfl,_,rfl,_,rfl,_,_,rfl,rfl,.inl ⟨by decide,by decide⟩,_,_,rfl,rfl,_,rfl,R,_,rfl,.of (s36 _ _ eR),fun S2 hS3=>?_⟩
    obtain ⟨ys,eys⟩:∃ ys,(row.drop (15 * (k:Int)+10).toNat).take (15 * (k:Int)+15 - (15 * (k:Int)+10)).toNat=ys:=⟨_,rfl⟩
    have lys:ys.length=5:=by rw [← eys,yR,jW];omega
    have bys:∀ z∈ys,0≤z:=fun z hz=>(br z (by rw [← eys] at hz;exact kA (xJ hz))).1
    have e5:cutV (row.map V.int) (some (15 * (k:Int)+10)) (some (15 * (k:Int)+15))=ys.map V.int:=by rw [← eys];exact zhn row (by omega) (by omega) (by omega)
    have kS2:=zae hS3 (.lst (cutV (row.map V.int) (some (15 * (k:Int)+10)) (some (15 * (k:Int)+15))))
    refine ⟨_,rfl,.ref r,.ref fa,S2,far,w,fs,ys,rfl,rw3.mono (s36.trans kS2),wf,gf.mono kS2,.of (zab.trans (congrArg (fun l=>some (HO.lst l)) e5)),lys,bys,f0,f1,fun fb bs H7 s7 rb fob lb=>?_⟩
    exact rest fb bs H7 ⟨kS2.trans s7,rb,fob,lb⟩
   ·exact rest fa fs H6 ⟨Same.refl _,gf.rep,(fun f hf=>zd5 (gf.good f hf)),by omega⟩
  rintro fb bs H7 ⟨s7,rb,fob,lb⟩
  have s37:=s36.trans s7
  refine ⟨(by show 0≤yL;decide),fun D0 hD0=>?_⟩
  have kD:=zae hD0 (.lst [])
  have eD:=at4 (o:=.lst []) hD0
  generalize upd H7 D0 (.lst [])=H8 at kD eD
  refine' joinB4 (C:=fun D us H'=>Same H8 H'∧H' D=some (.lst (us.map V.bl))∧(¬All4 w bs→us= [true,true,false])∧(All4 w bs→us= [])) (fun rest=>_) _
  rotate_left 1
  ·refine ⟨_,rfl,_,rfl,.ref r,.ref fb,w,bs,rfl,rw3.mono (s37.trans kD),wf,rb.mono kD,fob,lb,fun b H9 s9 hb=>?_⟩
   refine ⟨_,rfl,?_⟩
   cases b with
   | false=>
    have no:¬All4 w bs:=fun al=>nomatch hb.mpr al
    refine iteT ⟨(by show 3≤yL;decide),fun D1 hD1=>?_⟩
    have kD1:=zae hD1 (.lst [.bl true,.bl true,.bl false])
    have eD1:=at4 (o:=.lst [.bl true,.bl true,.bl false]) hD1
    generalize upd H9 D1 (.lst [.bl true,.bl true,.bl false])=HA at kD1 eD1
    generalize eu:[true,true,false]=us
    exact rest D1 us HA ⟨s9.trans kD1,by rw [← eu];exact eD1,fun _=>eu.symm,fun al=>absurd al no⟩
   | true=>
    exact iteF (rest D0 [] H9 ⟨s9,s9 _ _ eD,fun no=>absurd (hb.mp rfl) no,fun _=>rfl⟩)
  rintro D us H9 ⟨s9,eD9,u1,u2⟩
  have s39:=(s37.trans kD).trans s9
  have rb9:=rb.mono (kD.trans s9)
  obtain ⟨ws,hw9,rw9⟩:∃ ws,SqL K H9 fb ws∧Reps K H9 ws (bs.map fltD):=by
   cases rb9 with
   | lst h r=>exact ⟨_,h,r⟩
  refine ⟨_,rfl,by decide,by decide,zbR (fun jj σ Hb=>∃ (o7 o8:Option V),σ = [some (.ref a),some (.ref r),some (.ref R),some (.int far),some (.int k),some (.ref fb),some (.ref D),o7,o8]∧Same H9 Hb)
   ⟨_,_,rfl,Same.refl _⟩ ?_ ?_⟩
  ·rintro jj σ Hb hjj ⟨o7',o8',rfl,sb⟩
   rw [vX]
   refine ⟨_,rfl,fb,_,rfl,.inl (sb.seq hw9),fun G hG=>?_⟩
   have kG:=zae hG (.lst ws)
   have eG:=at4 (o:=.lst ws) hG
   generalize upd Hb G (.lst ws)=Hc at kG eG
   have sc:=sb.trans kG
   have rG:Rep K Hc (.ref G) (.list (bs.map fltD)):=.lst (.of eG) (rw9.mono sc)
   refine ⟨_,rfl,_,rfl,_,rfl,.ref r,.ref G,jj,w,bs,rfl,rw3.mono (s39.trans sc),wf,⟨rG,fob,by omega⟩,fun rr vs' Hd sd er v1 v2=>?_⟩
   have ev:vs'=us:=by
    by_cases al:All4 w bs
    ·rw [v2 al,u2 al]
    ·rw [v1 al,u1 al]
   subst ev
   refine ⟨_,rfl,false,rr,D,vs',vs',rfl,rfl,.of er,.of ((sc.trans sd) _ _ eD9),?_⟩
   refine ⟨false,by simp,iteF ⟨_,rfl,_,rfl,.list (bs.map fltD),.list (bs.map fltD),rG.mono sd,rb9.mono (sc.trans sd),zka fob 6,zka fob 6,fun _=>⟨_,rfl,iteF ⟨_,_,rfl,sc.trans sd⟩⟩,fun z=>absurd rfl z⟩⟩
  ·rintro σ Hb ⟨o7',o8',rfl,sb⟩
   exact ⟨_,_,_,_,_,rfl,s39.trans sb⟩
 ·rintro σ H5 ⟨o4,o5,o6,o7,o8,rfl,s5⟩
  exact q _
end
noncomputable def DfK (K:PySem.W.Frag) (x:Str) (st:Stmt) (f:Addr):Prop:=∃ (oc:Value) (od:Option Addr) (kV dc pm:Value) (an:Option Addr) (cd ct:Value) (sl:Array (Option Value)),PySem.W.nsIn K qM x=some (some (.ref f))∧K.lookup f=some ⟨oc,od,.func (PySem.W.fnOf x x (zbS st) (zbp st) (zaj st) .none kV dc pm an cd ct),sl⟩∧PySem.W.codeIn K cd x=true∧PySem.W.keepIn K (.ref f)=true
noncomputable def DfV (K:PySem.W.Frag) (x:Str) (st:Stmt) (f T:Addr) (kT:Tok):Prop:=∃ (oc:Value) (od:Option Addr) (kV dc pm:Value) (an:Option Addr) (cd ct:Value) (sl:Array (Option Value)) (cT:Value) (dT:Option Addr) (nT:Nat) (sT:Array (Option Value)),PySem.W.nsIn K qM x=some (some (.ref f))∧K.lookup f=some ⟨oc,od,.func (PySem.W.fnOf x x (zbS st) (zbp st) (zaj st) (.ref T) kV dc pm an cd ct),sl⟩∧PySem.W.codeIn K cd x=true∧PySem.W.keepIn K (.ref f)=true∧K.lookup T=some ⟨cT,dT,.seq #[.int 1 kT] nT,sT⟩
theorem DfK.mk {K:PySem.W.Frag}{h:Heap}{mg:Str→Option Value}{x:Str}{st:Stmt}{f:Addr}(d:DfK K x st f)(X:K.In h)(G:h.Ns qM mg)(ps:List Str)
  (hb:∀ (kV doc pm:Value) (an:Option Addr) (cdv ct:Value) (us:List Value),us.length=ps.length→bindArgs (PySem.W.fnOf x x (zbS st) (zbp st) (zaj st) .none kV doc pm an cdv ct) ⟨us,[]⟩=pure (ps.zip us)):∃ fd,Def K mg x st ps f fd:=by
 obtain ⟨oc,od,kV,dc,pm,an,cd,ct,sl,a,l,cc,k⟩:=d
 exact ⟨_,zmP (st:=st) l cc k,(zmP (st:=st) l cc k).binds hb,PySem.W.mg_of X G a⟩
theorem all_mk {l:ybv}{w:World}{K:PySem.W.Frag}{h:Heap}{mg:Str→Option Value}{fa f1 f2 f3 f4 f5 f6 f7 f8 f9 f10 f11 f12 f13 f14 f15 f16 f17 f18 f19 f20 f21 f22 f23 f24 f25 f26 f27 f28 f29 f30 f31 f32 f33 f34 f35 f36 f37 f38:Addr}(X:K.In h)(G:h.Ns qM mg)(hfa:mg "law" =some (.ref fa))
  (h1:DfK K "every_row" zdm f1)
  {T2:Addr} {kT2:Tok} (h2:DfV K "gate_worth" zb8 f2 T2 kT2)
  (h3:DfK K "every_fault" zci f3)
  (h4:DfK K "stuck_places" zbZ f4)
  {T5:Addr} {kT5:Tok} (h5:DfV K "worths_with" zbV f5 T5 kT5)
  (h6:DfK K "leg_worths" zcF f6)
  {T7:Addr} {kT7:Tok} (h7:DfV K "outputs_with" zbF f7 T7 kT7)
  (h8:DfK K "pairs_at" zdY f8)
  (h9:DfK K "paper_shows" zco f9)
  (h10:DfK K "is_let_by" zdt f10)
  (h11:DfK K "every_pairs" zcr f11)
  (h12:DfK K "input_pairs" zcj f12)
  (h13:DfK K "leg_pairs" zdj f13)
  (h14:DfK K "with_stuck" zcJ f14)
  (h15:DfK K "gate_pairs" zcP f15)
  (h16:DfK K "every_choice" zb6 f16)
  (h17:DfK K "chosen_pair" zcl f17)
  (h18:DfK K "outputs_alike" zbW f18)
  (h19:DfK K "are_alike" zdn f19)
  (h20:DfK K "outputs_seen" zb4 f20)
  (h21:DfK K "rows_at_once" zb2 f21)
  (h22:DfK K "first_unlike" zb0 f22)
  (h23:DfK K "unlike_numbers" zbG f23)
  (h24:DfK K "first_test" zcR f24)
  (h25:DfK K "test_told" zdu f25)
  (h26:DfK K "paper_behind" zb3 f26)
  (h27:DfK K "parted_at" zdr f27)
  (h28:DfK K "_law_cell_at" zck f28)
  (h29:DfK K "_law_numbers" zcp f29)
  (h30:DfK K "_law_gate" zdV f30)
  (h31:DfK K "_law_works" zdp f31)
  (h32:DfK K "_law_every_fault" zbA f32)
  (h33:DfK K "_law_some_faults" zbD f33)
  (h34:DfK K "_law_asked" zdv f34)
  (h35:DfK K "_law_refused" zct f35)
  (h36:DfK K "_law_bad" zeI f36)
  (h37:DfK K "_law_is_good" zcm f37)
  (h38:DfK K "law" zio f38)
  (z1:PySem.W.nsIn K qM "ValueError" =some none)
  (z2:PySem.W.nsIn K qM "all" =some none)
  (z3:PySem.W.nsIn K qM "dict" =some none)
  (z4:PySem.W.nsIn K qM "enumerate" =some none)
  (z5:PySem.W.nsIn K qM "int" =some none)
  (z6:PySem.W.nsIn K qM "isinstance" =some none)
  (z7:PySem.W.nsIn K qM "len" =some none)
  (z8:PySem.W.nsIn K qM "list" =some none)
  (z9:PySem.W.nsIn K qM "max" =some none)
  (z10:PySem.W.nsIn K qM "min" =some none)
  (z11:PySem.W.nsIn K qM "range" =some none)
  (z12:PySem.W.nsIn K qM "set" =some none)
  (z13:PySem.W.nsIn K qM "sorted" =some none)
  (z14:PySem.W.nsIn K qM "tuple" =some none)
  (z15:PySem.W.nsIn K qM "zip" =some none)
  {u1_:Addr} (au1:PySem.W.nsIn K qM "FOLDED_KINDS" =some (some (.ref u1_))) (ku1:TupK K u1_ ["and","or","odd"])
  {x1_:Addr} (ax1:PySem.W.nsIn K qM "StuckError" =some (some (.ref x1_))) (kx1:XcOk K x1_ "ValueError" "ValueError.__new__" [.type "ValueError",.type "Exception",.type "BaseException",.type "object"])
  {x2_:Addr} (ax2:PySem.W.nsIn K qM "NoWorks" =some (some (.ref x2_))) (kx2:XcOk K x2_ "ValueError" "ValueError.__new__" [.type "ValueError",.type "Exception",.type "BaseException",.type "object"])
  {x3_:Addr} (ax3:PySem.W.nsIn K qM "NoRow" =some (some (.ref x3_))) (kx3:XcOk K x3_ "ValueError" "ValueError.__new__" [.type "ValueError",.type "Exception",.type "BaseException",.type "object"])
  {x4_:Addr} (ax4:PySem.W.nsIn K qM "NoFault" =some (some (.ref x4_))) (kx4:XcOk K x4_ "ValueError" "ValueError.__new__" [.type "ValueError",.type "Exception",.type "BaseException",.type "object"])
  {x5_:Addr} (ax5:PySem.W.nsIn K qM "NoText" =some (some (.ref x5_))) (kx5:XcOk K x5_ "ValueError" "ValueError.__new__" [.type "ValueError",.type "Exception",.type "BaseException",.type "object"])
  {x6_:Addr} (ax6:PySem.W.nsIn K qM "NoOrder" =some (some (.ref x6_))) (kx6:XcOk K x6_ "ValueError" "ValueError.__new__" [.type "ValueError",.type "Exception",.type "BaseException",.type "object"])
  {x7_:Addr} (ax7:PySem.W.nsIn K qM "TooMany" =some (some (.ref x7_))) (kx7:XcOk K x7_ "ValueError" "ValueError.__new__" [.type "ValueError",.type "Exception",.type "BaseException",.type "object"])
  (ff1:PySem.W.kitAny K (.ref x4_) [.ref x6_,.ref x3_,.ref x5_,.ref x2_,.ref x7_]=some false)
  (ff2:PySem.W.kitOne K (.ref x4_) (.ref x4_)=some true)
  (ff3:PySem.W.kitOne K (.ref x4_) (.type "ValueError")=some true)
  (ff4:(zjI K x4_).contains (.ref x1_)=true)
  :∃ fd:FuncData,(∀ (s:Shared) (v:Value),BindsTo s fd ⟨[v],[]⟩ [("script",v)])∧∀ base:Heap,K.In base→base.Ns qM mg→FnOk l.prog w K mg base CX0 20 fa fd ["script"] (zj3 K):=by
 obtain ⟨oc,od,kVL,dcL,pmL,anL,cdL,ctL,sl,aL,lL,cL,kL⟩:=h38
 have e:=hfa.symm.trans (PySem.W.mg_of X G aL)
 cases e
 obtain ⟨e1,D1⟩:=h1.mk X G ["works"] fun _ _ _ _ _ _ us hl=>by obtain ⟨x0,e⟩:=zhR hl;subst e;rfl
 obtain ⟨oc,od,kV,dc,pm,an,cd,ct,sl,cT,dT,nT,sT,a2,l2,c2,k2,v2⟩:=h2
 have F2:=zjh (st:=zb8) l2 c2 k2
 have b2:=F2.binds (ps:=["kind","worths","ones"]) (ds:=[]) fun _ _ _ _ _ _ s us X hl=>match us,hl with | [_,_,_],_=>PySem.W.binds_K X rfl v2 rfl rfl rfl
 have e2:=F2.binds (ps:=["kind","worths","ones"]) (ds:=[.int 1 kT2]) fun _ _ _ _ _ _ s us X hl=>match us,(show us.length=2 by rw [yJ] at hl;exact ybx hl) with | [_,_],_=>PySem.W.binds_K X rfl v2 rfl rfl rfl
 obtain ⟨e3,D3⟩:=h3.mk X G ["works"] fun _ _ _ _ _ _ us hl=>by obtain ⟨x0,e⟩:=zhR hl;subst e;rfl
 obtain ⟨e4,D4⟩:=h4.mk X G ["works","faults"] fun _ _ _ _ _ _ us hl=>by obtain ⟨x0,x1,e⟩:=zgE hl;subst e;rfl
 obtain ⟨oc,od,kV,dc,pm,an,cd,ct,sl,cT,dT,nT,sT,a5,l5,c5,k5,v5⟩:=h5
 have F5:=zjh (st:=zbV) l5 c5 k5
 have b5:=F5.binds (ps:=["works","stuck","row","ones"]) (ds:=[]) fun _ _ _ _ _ _ s us X hl=>match us,hl with | [_,_,_,_],_=>PySem.W.binds_K X rfl v5 rfl rfl rfl
 have e5:=F5.binds (ps:=["works","stuck","row","ones"]) (ds:=[.int 1 kT5]) fun _ _ _ _ _ _ s us X hl=>match us,(show us.length=3 by rw [yJ] at hl;exact ybx hl) with | [_,_,_],_=>PySem.W.binds_K X rfl v5 rfl rfl rfl
 obtain ⟨e6,D6⟩:=h6.mk X G ["stuck","gate","worths"] fun _ _ _ _ _ _ us hl=>by obtain ⟨x0,x1,x2,e⟩:=zeY hl;subst e;rfl
 obtain ⟨oc,od,kV,dc,pm,an,cd,ct,sl,cT,dT,nT,sT,a7,l7,c7,k7,v7⟩:=h7
 have F7:=zjh (st:=zbF) l7 c7 k7
 have b7:=F7.binds (ps:=["works","stuck","row","ones"]) (ds:=[]) fun _ _ _ _ _ _ s us X hl=>match us,hl with | [_,_,_,_],_=>PySem.W.binds_K X rfl v7 rfl rfl rfl
 have e7:=F7.binds (ps:=["works","stuck","row","ones"]) (ds:=[.int 1 kT7]) fun _ _ _ _ _ _ s us X hl=>match us,(show us.length=3 by rw [yJ] at hl;exact ybx hl) with | [_,_,_],_=>PySem.W.binds_K X rfl v7 rfl rfl rfl
 obtain ⟨e8,D8⟩:=h8.mk X G ["works","faults","known","wire"] fun _ _ _ _ _ _ us hl=>by obtain ⟨x0,x1,x2,x3,e⟩:=znH hl;subst e;rfl
 obtain ⟨e9,D9⟩:=h9.mk X G ["works","faults","paper"] fun _ _ _ _ _ _ us hl=>by obtain ⟨x0,x1,x2,e⟩:=zeY hl;subst e;rfl
 obtain ⟨e10,D10⟩:=h10.mk X G ["works","stuck","known","paper"] fun _ _ _ _ _ _ us hl=>by obtain ⟨x0,x1,x2,x3,e⟩:=znH hl;subst e;rfl
 obtain ⟨e11,D11⟩:=h11.mk X G ["works","stuck","known"] fun _ _ _ _ _ _ us hl=>by obtain ⟨x0,x1,x2,e⟩:=zeY hl;subst e;rfl
 obtain ⟨e12,D12⟩:=h12.mk X G ["worth"] fun _ _ _ _ _ _ us hl=>by obtain ⟨x0,e⟩:=zhR hl;subst e;rfl
 obtain ⟨e13,D13⟩:=h13.mk X G ["stuck","gate","wires"] fun _ _ _ _ _ _ us hl=>by obtain ⟨x0,x1,x2,e⟩:=zeY hl;subst e;rfl
 obtain ⟨e14,D14⟩:=h14.mk X G ["pairs","stuck","place"] fun _ _ _ _ _ _ us hl=>by obtain ⟨x0,x1,x2,e⟩:=zeY hl;subst e;rfl
 obtain ⟨e15,D15⟩:=h15.mk X G ["kind","legs"] fun _ _ _ _ _ _ us hl=>by obtain ⟨x0,x1,e⟩:=zgE hl;subst e;rfl
 obtain ⟨e16,D16⟩:=h16.mk X G ["legs"] fun _ _ _ _ _ _ us hl=>by obtain ⟨x0,e⟩:=zhR hl;subst e;rfl
 obtain ⟨e17,D17⟩:=h17.mk X G ["kind","choice"] fun _ _ _ _ _ _ us hl=>by obtain ⟨x0,x1,e⟩:=zgE hl;subst e;rfl
 obtain ⟨e18,D18⟩:=h18.mk X G ["works","stuck","known"] fun _ _ _ _ _ _ us hl=>by obtain ⟨x0,x1,x2,e⟩:=zeY hl;subst e;rfl
 obtain ⟨e19,D19⟩:=h19.mk X G ["pairs"] fun _ _ _ _ _ _ us hl=>by obtain ⟨x0,e⟩:=zhR hl;subst e;rfl
 obtain ⟨e20,D20⟩:=h20.mk X G ["works","stuck"] fun _ _ _ _ _ _ us hl=>by obtain ⟨x0,x1,e⟩:=zgE hl;subst e;rfl
 obtain ⟨e21,D21⟩:=h21.mk X G ["inputs"] fun _ _ _ _ _ _ us hl=>by obtain ⟨x0,e⟩:=zhR hl;subst e;rfl
 obtain ⟨e22,D22⟩:=h22.mk X G ["works","stuck","others"] fun _ _ _ _ _ _ us hl=>by obtain ⟨x0,x1,x2,e⟩:=zeY hl;subst e;rfl
 obtain ⟨e23,D23⟩:=h23.mk X G ["seen","others"] fun _ _ _ _ _ _ us hl=>by obtain ⟨x0,x1,e⟩:=zgE hl;subst e;rfl
 obtain ⟨e24,D24⟩:=h24.mk X G ["works","faults"] fun _ _ _ _ _ _ us hl=>by obtain ⟨x0,x1,e⟩:=zgE hl;subst e;rfl
 obtain ⟨e25,D25⟩:=h25.mk X G ["works","faults"] fun _ _ _ _ _ _ us hl=>by obtain ⟨x0,x1,e⟩:=zgE hl;subst e;rfl
 obtain ⟨e26,D26⟩:=h26.mk X G ["works","stuck","known"] fun _ _ _ _ _ _ us hl=>by obtain ⟨x0,x1,x2,e⟩:=zeY hl;subst e;rfl
 obtain ⟨e27,D27⟩:=h27.mk X G ["works","faults","others"] fun _ _ _ _ _ _ us hl=>by obtain ⟨x0,x1,x2,e⟩:=zeY hl;subst e;rfl
 obtain ⟨e28,D28⟩:=h28.mk X G ["script","k"] fun _ _ _ _ _ _ us hl=>by obtain ⟨x0,x1,e⟩:=zgE hl;subst e;rfl
 obtain ⟨e29,D29⟩:=h29.mk X G ["cell","many","base"] fun _ _ _ _ _ _ us hl=>by obtain ⟨x0,x1,x2,e⟩:=zeY hl;subst e;rfl
 obtain ⟨e30,D30⟩:=h30.mk X G ["row","wires","two"] fun _ _ _ _ _ _ us hl=>by obtain ⟨x0,x1,x2,e⟩:=zeY hl;subst e;rfl
 obtain ⟨e31,D31⟩:=h31.mk X G ["script","most_inputs","most_gates","most_of_two"] fun _ _ _ _ _ _ us hl=>by obtain ⟨x0,x1,x2,x3,e⟩:=znH hl;subst e;rfl
 obtain ⟨e32,D32⟩:=h32.mk X G ["works"] fun _ _ _ _ _ _ us hl=>by obtain ⟨x0,e⟩:=zhR hl;subst e;rfl
 obtain ⟨e33,D33⟩:=h33.mk X G ["works","row"] fun _ _ _ _ _ _ us hl=>by obtain ⟨x0,x1,e⟩:=zgE hl;subst e;rfl
 obtain ⟨e34,D34⟩:=h34.mk X G ["works","faults","way"] fun _ _ _ _ _ _ us hl=>by obtain ⟨x0,x1,x2,e⟩:=zeY hl;subst e;rfl
 obtain ⟨e35,D35⟩:=h35.mk X G ["works","faults","way"] fun _ _ _ _ _ _ us hl=>by obtain ⟨x0,x1,x2,e⟩:=zeY hl;subst e;rfl
 obtain ⟨e36,D36⟩:=h36.mk X G ["works","faults","row","far"] fun _ _ _ _ _ _ us hl=>by obtain ⟨x0,x1,x2,x3,e⟩:=znH hl;subst e;rfl
 obtain ⟨e37,D37⟩:=h37.mk X G ["works","faults"] fun _ _ _ _ _ _ us hl=>by obtain ⟨x0,x1,e⟩:=zgE hl;subst e;rfl
 have F38:=zmP (st:=zio) lL cL kL
 have b38:=F38.binds (ps:=["script"]) fun _ _ _ _ _ _ us hl=>by obtain ⟨x0,e⟩:=zhR hl;subst e;rfl
 refine ⟨PySem.W.fnOf "law" "law" (zbS zio) (zbp zio) (zaj zio) .none kVL dcL pmL anL cdL ctL,fun s v=>.of_eq rfl,fun base _ _=>?_⟩
 exact ok_law (t:=⟨f1,e1,f2,_,T2,kT2,f3,e3,f4,e4,f5,_,T5,kT5,f6,e6,f7,_,T7,kT7,f8,e8,f9,e9,f10,e10,f11,e11,f12,e12,f13,e13,f14,e14,f15,e15,f16,e16,f17,e17,f18,e18,f19,e19,f20,e20,f21,e21,f22,e22,f23,e23,f24,e24,f25,e25,f26,e26,f27,e27,f28,e28,f29,e29,f30,e30,f31,e31,f32,e32,f33,e33,f34,e34,f35,e35,f36,e36,f37,e37,_,_,u1_,x1_,x2_,x3_,x4_,x5_,x6_,x7_⟩) ⟨D1,⟨F2,b2,e2,PySem.W.mg_of X G a2⟩,D3,D4,⟨F5,b5,e5,PySem.W.mg_of X G a5⟩,D6,⟨F7,b7,e7,PySem.W.mg_of X G a7⟩,D8,D9,D10,D11,D12,D13,D14,D15,D16,D17,D18,D19,D20,D21,D22,D23,D24,D25,D26,D27,D28,D29,D30,D31,D32,D33,D34,D35,D36,D37,⟨F38,b38,PySem.W.mg_of X G aL⟩,PySem.W.mg_none_of X G z1,PySem.W.mg_none_of X G z2,PySem.W.mg_none_of X G z3,PySem.W.mg_none_of X G z4,PySem.W.mg_none_of X G z5,PySem.W.mg_none_of X G z6,PySem.W.mg_none_of X G z7,PySem.W.mg_none_of X G z8,PySem.W.mg_none_of X G z9,PySem.W.mg_none_of X G z10,PySem.W.mg_none_of X G z11,PySem.W.mg_none_of X G z12,PySem.W.mg_none_of X G z13,PySem.W.mg_none_of X G z14,PySem.W.mg_none_of X G z15,PySem.W.mg_of X G au1,ku1,PySem.W.mg_of X G ax1,kx1,PySem.W.mg_of X G ax2,kx2,PySem.W.mg_of X G ax3,kx3,PySem.W.mg_of X G ax4,kx4,PySem.W.mg_of X G ax5,kx5,PySem.W.mg_of X G ax6,kx6,PySem.W.mg_of X G ax7,kx7,ff1,ff2,ff3,ff4⟩
theorem walk {l:ybv}{q:Program}{loose:List Str}{XP:(Str→Option Value)→Heap→Prop}{YP:World→Heap→Prop}{d:DefRec}{K:Params→PySem.W.Frag}(hn:l.most=some 63)(hdf:d.params.defaults= [])
  (hY:∀ (w:World) (h:Heap),YP w h→(K w.params).In h)
  (F:∀ (w:World) (mg:Str→Option Value) (fa:Addr) (h:Heap),(K w.params).In h→h.Ns qM mg→mg d.name=some (.ref fa)→
   ∃ fd:FuncData,(∀ (s:Shared) (u:Value),BindsTo s fd ⟨[u],[]⟩ [("script",u)])∧∀ base:Heap,(K w.params).In base→base.Ns qM mg→FnOk l.prog w (K w.params) mg base CX0 20 fa fd ["script"] (zj3 (K w.params))):
  PySem.W.WalkO q loose XP YP l.row.toRowW d [] (fun f vs=>ycu f vs):=
 L2.zpt (n:=63) (k:=20) (x:="script") (CX:=fun _=>CX0) (sp:=fun w=>zj3 (K w.params)) hn (by decide) hdf ⟨rfl,by decide,by decide,rfl⟩ hY F (fun _ _ a ns hl _ hS=>⟨a,ns,rfl,hS,hl,fun _=>rfl⟩) fun _ _ _ _ _ z=>z
end My
open PySem PySem.W PyProof.Rows
set_option maxRecDepth 100000 in
set_option maxHeartbeats 0 in
theorem PySem.Challenge.cw_stuckwires_k14_no_faults_holds : PySem.Challenge.rw_stuckwires_k14_no_faults.Holds := by
 w_on;o_law
 refine PySem.W.holds_open (q:=My.view) (loose:=My.loo)
  (Xt:=fun s=>xlAt My.view [] s && recOk (RowW.records (OpenRow.toRowW jL.row)) s) (XP:=XL My.view [])
  (Yf:=Hook.obs (kHook My.part My.ziQ (fun _=>by kernel_rfl))) (Ya:=Hook.val (kHook My.part My.ziQ (fun _=>by kernel_rfl)))
  (YP:=Hook.says (kHook My.part My.ziQ (fun _=>by kernel_rfl))) (N:=5484) ?hl (Hook.of _) (Hook.keeps _)
  (fun s e=>xl_of s (ybJ.mp e).1) XL.keeps (by rfl) (by rfl) (by rfl)
  (fun s e=>recFacts_of (ybJ.mp e).2) (by rfl) (by first | assumption | decide+kernel) (by decide+kernel)
  ⟨rfl,rfl,rfl,rfl,rfl,by decide+kernel⟩ ?hw ?hc
 case hl=>exact My.hl0
 case hw=>w_witness2
 k_fill
 refine My.walk (l:=jL) rfl rfl (fun w h Y=>PySem.W.kIn_of Y) ?F
 case F=>
  intro w mg fa h KX G hmg
  refine' My.all_mk KX G hmg ?h1 ?h2 ?h3 ?h4 ?h5 ?h6 ?h7 ?h8 ?h9 ?h10 ?h11 ?h12 ?h13 ?h14 ?h15 ?h16 ?h17 ?h18 ?h19 ?h20 ?h21 ?h22 ?h23 ?h24 ?h25 ?h26 ?h27 ?h28 ?h29 ?h30 ?h31 ?h32 ?h33 ?h34 ?h35 ?h36 ?h37 ?h38 ?z1 ?z2 ?z3 ?z4 ?z5 ?z6 ?z7 ?z8 ?z9 ?z10 ?z11 ?z12 ?z13 ?z14 ?z15 ?au1 ?ku1 ?ax1 ?kx1 ?ax2 ?kx2 ?ax3 ?kx3 ?ax4 ?kx4 ?ax5 ?kx5 ?ax6 ?kx6 ?ax7 ?kx7 ?ff1 ?ff2 ?ff3 ?ff4
  all_goals first | ((iterate 9 apply Exists.intro);(refine ⟨?_,?_,?_,?_⟩ <;> k_is)) | ((iterate 13 apply Exists.intro);(refine ⟨?_,?_,?_,?_,?_⟩ <;> k_is)) | skip
  (case z1=>k_is)
  (case z2=>k_is)
  (case z3=>k_is)
  (case z4=>k_is)
  (case z5=>k_is)
  (case z6=>k_is)
  (case z7=>k_is)
  (case z8=>k_is)
  (case z9=>k_is)
  (case z10=>k_is)
  (case z11=>k_is)
  (case z12=>k_is)
  (case z13=>k_is)
  (case z14=>k_is)
  (case z15=>k_is)
  (case au1=>k_is)
  (case ku1=>(unfold L2.TupK;kernel_rfl))
  (case ax1=>k_is)
  (case kx1=>exact ⟨by kernel_rfl,xI,by kernel_rfl,by kernel_rfl,by kernel_rfl,by decide,by decide⟩)
  (case ax2=>k_is)
  (case kx2=>exact ⟨by kernel_rfl,xI,by kernel_rfl,by kernel_rfl,by kernel_rfl,by decide,by decide⟩)
  (case ax3=>k_is)
  (case kx3=>exact ⟨by kernel_rfl,xI,by kernel_rfl,by kernel_rfl,by kernel_rfl,by decide,by decide⟩)
  (case ax4=>k_is)
  (case kx4=>exact ⟨by kernel_rfl,xI,by kernel_rfl,by kernel_rfl,by kernel_rfl,by decide,by decide⟩)
  (case ax5=>k_is)
  (case kx5=>exact ⟨by kernel_rfl,xI,by kernel_rfl,by kernel_rfl,by kernel_rfl,by decide,by decide⟩)
  (case ax6=>k_is)
  (case kx6=>exact ⟨by kernel_rfl,xI,by kernel_rfl,by kernel_rfl,by kernel_rfl,by decide,by decide⟩)
  (case ax7=>k_is)
  (case kx7=>exact ⟨by kernel_rfl,xI,by kernel_rfl,by kernel_rfl,by kernel_rfl,by decide,by decide⟩)
  (case ff1=>kernel_rfl)
  (case ff2=>kernel_rfl)
  (case ff3=>kernel_rfl)
  (case ff4=>kernel_rfl)
