import PyProof.Rows.All
import Wide.All
import OpenK.AllK
import Wide.FinOn
import Lean
import PyProof.EqAt
import PyProof.EqKinds
import PyProof.TupleCall
import PySem.Challenge.RW_stuckwires_k37_more_inputs_than_three
set_option Elab.async false
set_option linter.all false
set_option maxRecDepth 100000
set_option genSizeOf false
local macro_rules | `(tactic| omega)=>`(tactic| lia)
namespace L2
open PySem
noncomputable def zaq (s:Stmt):Arguments:=match s with
 | .FunctionDef _ a _ _ _ _ _ _ _ _=>a
 | _=>{posonlyargs:=[],args:=[],vararg:=none,kwonlyargs:=[],kw_defaults:=[],kwarg:=none,defaults:=[]}
noncomputable def zap (s:Stmt):List Stmt:=match s with
 | .FunctionDef _ _ b _ _ _ _ _ _ _=>b
 | _=>[]
noncomputable def zag (s:Stmt):Scope:=match s with
 | .FunctionDef _ _ _ _ _ _ sc _ _ _=>sc
 | _=>{kind:=.function,names:=[],isGenerator:=false,isCoroutine:=false}
end L2
namespace My
open PySem L2
noncomputable def top (i:Nat):Stmt:=PySem.Challenge.pw_stuckwires_k37_more_inputs_than_three.main.body.getD i (.Pass ⟨0,0,0,0⟩)
noncomputable abbrev zca:Stmt:=top 9
noncomputable abbrev zcc:Stmt:=top 10
noncomputable abbrev zbR:Stmt:=top 11
noncomputable abbrev zbA:Stmt:=top 13
noncomputable abbrev zby:Stmt:=top 14
noncomputable abbrev zbL:Stmt:=top 15
noncomputable abbrev zbd:Stmt:=top 16
noncomputable abbrev zbj:Stmt:=top 18
noncomputable abbrev zbe:Stmt:=top 19
noncomputable abbrev zcf:Stmt:=top 20
noncomputable abbrev zbg:Stmt:=top 21
noncomputable abbrev zaR:Stmt:=top 22
noncomputable abbrev zbb:Stmt:=top 23
noncomputable abbrev zcb:Stmt:=top 26
noncomputable abbrev zbC:Stmt:=top 27
noncomputable abbrev zbS:Stmt:=top 28
noncomputable abbrev zbN:Stmt:=top 29
noncomputable abbrev zba:Stmt:=top 30
noncomputable abbrev zbO:Stmt:=top 31
noncomputable abbrev zfz:Stmt:=top 32
noncomputable abbrev za6:Stmt:=top 33
noncomputable abbrev za7:Stmt:=top 34
noncomputable abbrev zbX:Stmt:=top 35
noncomputable abbrev zaS:Stmt:=top 36
noncomputable abbrev zbK:Stmt:=top 39
noncomputable abbrev zbY:Stmt:=top 40
noncomputable abbrev zbV:Stmt:=top 41
noncomputable abbrev zcL:Stmt:=top 42
noncomputable abbrev zbI:Stmt:=top 43
noncomputable abbrev zbB:Stmt:=top 45
noncomputable abbrev zbQ:Stmt:=top 46
noncomputable abbrev zct:Stmt:=top 47
noncomputable abbrev zbf:Stmt:=top 48
noncomputable abbrev zb8:Stmt:=top 49
noncomputable abbrev zcs:Stmt:=top 50
noncomputable abbrev zbP:Stmt:=top 51
noncomputable abbrev zbh:Stmt:=top 52
noncomputable abbrev zbx:Stmt:=top 53
noncomputable abbrev zbz:Stmt:=top 54
noncomputable abbrev zcq:Stmt:=top 55
noncomputable abbrev zcr:Stmt:=top 56
noncomputable abbrev zbw:Stmt:=top 57
noncomputable abbrev zcn:Stmt:=top 58
noncomputable abbrev zbc:Stmt:=top 59
noncomputable abbrev zb9:Stmt:=top 60
noncomputable abbrev zcp:Stmt:=top 61
noncomputable abbrev zfL:Stmt:=top 62
end My
namespace My
open PySem PySem.W
noncomputable abbrev dE (P:Params) (x:Str) (n:Nat) (v:Value):DictEntry:=.mk (PyData.keyHash P x) (.str x n) v
noncomputable abbrev tO (vs:Array Value):Obj:=.mk (.type "tuple") none (.seq vs) #[]
noncomputable abbrev fO (x:Str) (s:Stmt) (dV kV doc pm:Value) (an:Option Addr) (cd ct:Value):Obj:=.mk (.type "function") none (.func (PySem.W.fnOf x x (L2.zaq s) (L2.zap s) (L2.zag s) dV kV doc pm an cd ct)) #[]
noncomputable def part:Params→Frag:=fun P=>
 (nat_lit 2,PySem.Obj.mk .none none (PySem.Data.dict #[]) #[])::
 (nat_lit 3,PySem.Obj.mk (.type "dict") none (PySem.Data.dict #[dE P "__name__" 165 (.str "law_stuckwires_k37_more_inputs_than_three" 532),dE P "__doc__" 166 .none,dE P "__package__" 167 .none,dE P "__loader__" 168 (.builtin "__main__.__loader__#opaque"),dE P "__spec__" 169 .none,dE P "__annotations__" 170 (.ref 6),dE P "__builtins__" 171 (.ref 4),dE P "__file__" 173 (.str "/claim/cut.py" 172),dE P "__cached__" 174 .none,dE P "StuckError" 206 (.ref 24),dE P "NoWorks" 222 (.ref 37),dE P "NoRow" 238 (.ref 49),dE P "NoFault" 254 (.ref 61),dE P "NoText" 270 (.ref 73),dE P "NoOrder" 286 (.ref 85),dE P "TooMany" 302 (.ref 97),dE P "every_row" 310 (.ref 104),dE P "check_row" 316 (.ref 109),dE P "gate_worth" 328 (.ref 117),dE P "every_fault" 336 (.ref 122),dE P "worths_with" 343 (.ref 128),dE P "leg_worths" 349 (.ref 133),dE P "outputs_with" 356 (.ref 139),dE P "outputs_seen" 364 (.ref 144),dE P "rows_at_once" 370 (.ref 149),dE P "outputs_in" 376 (.ref 154),dE P "seen_of_each" 385 (.ref 161),dE P "unlike_numbers" 391 (.ref 166),dE P "finding_rows" 403 (.ref 173),dE P "MOST_INPUTS" 407 (.int 3 406),dE P "finds_all" 413 (.ref 178),dE P "fewest_rows" 419 (.ref 183),dE P "need_paper" 428 (.ref 190),dE P "need_shows" 437 (.ref 197),dE P "check_inputs" 444 (.ref 204),dE P "meets_each" 450 (.ref 209),dE P "meet" 456 (.ref 214),dE P "fewest_numbers" 462 (.ref 219),dE P "longer_choices" 468 (.ref 224),dE P "need_behind" 474 (.ref 229),dE P "is_need_let_by" 488 (.ref 236),dE P "WELL" 492 (.ref 237),dE P "plan_depth" 499 (.ref 244),dE P "seen_of_all" 507 (.ref 251),dE P "next_number" 513 (.ref 256),dE P "parts_at" 525 (.ref 263),dE P "depth_behind" 531 (.ref 268),dE P "_law_cell_at" 541 (.ref 275),dE P "_law_digits" 554 (.ref 282),dE P "_law_gate" 560 (.ref 287),dE P "_law_works_of" 578 (.ref 294),dE P "_law_worth" 586 (.ref 301),dE P "_law_outs" 592 (.ref 306),dE P "_law_faults" 603 (.ref 313),dE P "_law_all_rows" 614 (.ref 320),dE P "_law_answers" 620 (.ref 325),dE P "_law_finding" 626 (.ref 330),dE P "_law_open" 632 (.ref 335),dE P "_law_copy" 639 (.ref 342),dE P "_law_refused" 650 (.ref 349),dE P "_law_some" 660 (.ref 356),dE P "_law_found_by" 668 (.ref 363),dE P "_law_paper" 681 (.ref 370),dE P "_law_walk" 687 (.ref 375),dE P "law" 693 (.ref 380)] 65) #[])::
 (nat_lit 15,tO #[.type "ValueError"])::
 (nat_lit 22,tO #[])::
 (nat_lit 23,PySem.Obj.mk (.type "dict") none (PySem.Data.dict #[dE P "__module__" 196 (.str "stuckwires.errors" 187),dE P "__firstlineno__" 200 (.int 2 199),dE P "__static_attributes__" 201 (.ref 22),dE P "__weakref__" 203 (.ref 25),dE P "__doc__" 204 .none] 3) #[])::
 (nat_lit 24,PySem.Obj.mk (.type "type") none (PySem.Data.cls (PySem.ClassData.mk "StuckError" [.type "ValueError"] [.ref 24,.type "ValueError",.type "Exception",.type "BaseException",.type "object"] 23 "StuckError" Bool.true [] [.ref 37,.ref 49,.ref 61,.ref 73,.ref 85,.ref 97] Bool.false none Bool.false)) #[Option.some (.ref 15),none,Option.some (.str "StuckError" 189),Option.some (.str "StuckError" 197),Option.some (.builtin "ValueError.__new__"),Option.some (.bool Bool.true)])::
 (nat_lit 25,PySem.Obj.mk (.type "getset_descriptor") none (PySem.Data.fields #[.str "__weakref__" 202,.ref 24,.builtin "ExceptionGroup.__weakref__",.none]) #[])::
 (nat_lit 28,tO #[.ref 24])::
 (nat_lit 35,tO #[])::
 (nat_lit 36,PySem.Obj.mk (.type "dict") none (PySem.Data.dict #[dE P "__module__" 214 (.str "stuckwires.errors" 187),dE P "__firstlineno__" 218 (.int 4 217),dE P "__static_attributes__" 219 (.ref 35),dE P "__doc__" 220 .none] 2) #[])::
 (nat_lit 37,PySem.Obj.mk (.type "type") none (PySem.Data.cls (PySem.ClassData.mk "NoWorks" [.ref 24] [.ref 37,.ref 24,.type "ValueError",.type "Exception",.type "BaseException",.type "object"] 36 "NoWorks" Bool.true [] [] Bool.false none Bool.false)) #[Option.some (.ref 28),none,Option.some (.str "NoWorks" 207),Option.some (.str "NoWorks" 215),Option.some (.builtin "ValueError.__new__"),Option.some (.bool Bool.true)])::
 (nat_lit 40,tO #[.ref 24])::
 (nat_lit 47,tO #[])::
 (nat_lit 48,PySem.Obj.mk (.type "dict") none (PySem.Data.dict #[dE P "__module__" 230 (.str "stuckwires.errors" 187),dE P "__firstlineno__" 234 (.int 6 233),dE P "__static_attributes__" 235 (.ref 47),dE P "__doc__" 236 .none] 2) #[])::
 (nat_lit 49,PySem.Obj.mk (.type "type") none (PySem.Data.cls (PySem.ClassData.mk "NoRow" [.ref 24] [.ref 49,.ref 24,.type "ValueError",.type "Exception",.type "BaseException",.type "object"] 48 "NoRow" Bool.true [] [] Bool.false none Bool.false)) #[Option.some (.ref 40),none,Option.some (.str "NoRow" 223),Option.some (.str "NoRow" 231),Option.some (.builtin "ValueError.__new__"),Option.some (.bool Bool.true)])::
 (nat_lit 52,tO #[.ref 24])::
 (nat_lit 59,tO #[])::
 (nat_lit 60,PySem.Obj.mk (.type "dict") none (PySem.Data.dict #[dE P "__module__" 246 (.str "stuckwires.errors" 187),dE P "__firstlineno__" 250 (.int 8 249),dE P "__static_attributes__" 251 (.ref 59),dE P "__doc__" 252 .none] 2) #[])::
 (nat_lit 61,PySem.Obj.mk (.type "type") none (PySem.Data.cls (PySem.ClassData.mk "NoFault" [.ref 24] [.ref 61,.ref 24,.type "ValueError",.type "Exception",.type "BaseException",.type "object"] 60 "NoFault" Bool.true [] [] Bool.false none Bool.false)) #[Option.some (.ref 52),none,Option.some (.str "NoFault" 239),Option.some (.str "NoFault" 247),Option.some (.builtin "ValueError.__new__"),Option.some (.bool Bool.true)])::
 (nat_lit 64,tO #[.ref 24])::
 (nat_lit 71,tO #[])::
 (nat_lit 72,PySem.Obj.mk (.type "dict") none (PySem.Data.dict #[dE P "__module__" 262 (.str "stuckwires.errors" 187),dE P "__firstlineno__" 266 (.int 10 265),dE P "__static_attributes__" 267 (.ref 71),dE P "__doc__" 268 .none] 2) #[])::
 (nat_lit 73,PySem.Obj.mk (.type "type") none (PySem.Data.cls (PySem.ClassData.mk "NoText" [.ref 24] [.ref 73,.ref 24,.type "ValueError",.type "Exception",.type "BaseException",.type "object"] 72 "NoText" Bool.true [] [] Bool.false none Bool.false)) #[Option.some (.ref 64),none,Option.some (.str "NoText" 255),Option.some (.str "NoText" 263),Option.some (.builtin "ValueError.__new__"),Option.some (.bool Bool.true)])::
 (nat_lit 76,tO #[.ref 24])::
 (nat_lit 83,tO #[])::
 (nat_lit 84,PySem.Obj.mk (.type "dict") none (PySem.Data.dict #[dE P "__module__" 278 (.str "stuckwires.errors" 187),dE P "__firstlineno__" 282 (.int 12 281),dE P "__static_attributes__" 283 (.ref 83),dE P "__doc__" 284 .none] 2) #[])::
 (nat_lit 85,PySem.Obj.mk (.type "type") none (PySem.Data.cls (PySem.ClassData.mk "NoOrder" [.ref 24] [.ref 85,.ref 24,.type "ValueError",.type "Exception",.type "BaseException",.type "object"] 84 "NoOrder" Bool.true [] [] Bool.false none Bool.false)) #[Option.some (.ref 76),none,Option.some (.str "NoOrder" 271),Option.some (.str "NoOrder" 279),Option.some (.builtin "ValueError.__new__"),Option.some (.bool Bool.true)])::
 (nat_lit 88,tO #[.ref 24])::
 (nat_lit 95,tO #[])::
 (nat_lit 96,PySem.Obj.mk (.type "dict") none (PySem.Data.dict #[dE P "__module__" 294 (.str "stuckwires.errors" 187),dE P "__firstlineno__" 298 (.int 14 297),dE P "__static_attributes__" 299 (.ref 95),dE P "__doc__" 300 .none] 2) #[])::
 (nat_lit 97,PySem.Obj.mk (.type "type") none (PySem.Data.cls (PySem.ClassData.mk "TooMany" [.ref 24] [.ref 97,.ref 24,.type "ValueError",.type "Exception",.type "BaseException",.type "object"] 96 "TooMany" Bool.true [] [] Bool.false none Bool.false)) #[Option.some (.ref 88),none,Option.some (.str "TooMany" 287),Option.some (.str "TooMany" 295),Option.some (.builtin "ValueError.__new__"),Option.some (.bool Bool.true)])::
 (nat_lit 100,tO #[])::
 (nat_lit 103,PySem.Obj.mk (.type "code") none (PySem.Data.fields #[.str "every_row" 305,.str "every_row" 306,.str "/claim/cut.py" 307,.int 17 0,.int 1 0,.int 0 0,.int 0 0,.int 3 0,.ref 100,.bool Bool.true,.int 181 0,.ref 101,.none,.none,.none,.ref 102,.int 308 0,.int 17 0,.str "/claim/cut.py" 309]) #[])::
 (nat_lit 104,fO "every_row" zca .none .none .none (.str "stuckwires.works" 303) none (.ref 103) .none)::
 (nat_lit 105,tO #[])::
 (nat_lit 108,PySem.Obj.mk (.type "code") none (PySem.Data.fields #[.str "check_row" 311,.str "check_row" 312,.str "/claim/cut.py" 313,.int 22 0,.int 2 0,.int 0 0,.int 0 0,.int 3 0,.ref 105,.bool Bool.true,.int 181 0,.ref 106,.none,.none,.none,.ref 107,.int 314 0,.int 22 0,.str "/claim/cut.py" 315]) #[])::
 (nat_lit 109,fO "check_row" zcc .none .none .none (.str "stuckwires.works" 303) none (.ref 108) .none)::
 (nat_lit 110,tO #[.int 1 317])::
 (nat_lit 111,tO #[])::
 (nat_lit 113,tO #[.str "kind" 321,.str "worths" 322,.str "ones" 323,.str "told" 324,.str "worth" 325])::
 (nat_lit 114,tO #[])::
 (nat_lit 116,PySem.Obj.mk (.type "code") none (PySem.Data.fields #[.str "gate_worth" 318,.str "gate_worth" 319,.str "/claim/cut.py" 320,.int 27 0,.int 3 0,.int 0 0,.int 0 0,.int 3 0,.ref 111,.bool Bool.true,.int 181 0,.ref 112,.none,.ref 113,.ref 114,.ref 115,.int 326 0,.int 27 0,.str "/claim/cut.py" 327]) #[])::
 (nat_lit 117,fO "gate_worth" zbR (.ref 110) .none .none (.str "stuckwires.works" 303) none (.ref 116) .none)::
 (nat_lit 118,tO #[])::
 (nat_lit 121,PySem.Obj.mk (.type "code") none (PySem.Data.fields #[.str "every_fault" 331,.str "every_fault" 332,.str "/claim/cut.py" 333,.int 42 0,.int 1 0,.int 0 0,.int 0 0,.int 3 0,.ref 118,.bool Bool.true,.int 181 0,.ref 119,.none,.none,.none,.ref 120,.int 334 0,.int 42 0,.str "/claim/cut.py" 335]) #[])::
 (nat_lit 122,fO "every_fault" zbA .none .none .none (.str "stuckwires.faults" 329) none (.ref 121) .none)::
 (nat_lit 123,tO #[.int 1 337])::
 (nat_lit 124,tO #[])::
 (nat_lit 127,PySem.Obj.mk (.type "code") none (PySem.Data.fields #[.str "worths_with" 338,.str "worths_with" 339,.str "/claim/cut.py" 340,.int 52 0,.int 4 0,.int 0 0,.int 0 0,.int 3 0,.ref 124,.bool Bool.true,.int 181 0,.ref 125,.none,.none,.none,.ref 126,.int 341 0,.int 52 0,.str "/claim/cut.py" 342]) #[])::
 (nat_lit 128,fO "worths_with" zby (.ref 123) .none .none (.str "stuckwires.faults" 329) none (.ref 127) .none)::
 (nat_lit 129,tO #[])::
 (nat_lit 132,PySem.Obj.mk (.type "code") none (PySem.Data.fields #[.str "leg_worths" 344,.str "leg_worths" 345,.str "/claim/cut.py" 346,.int 59 0,.int 3 0,.int 0 0,.int 0 0,.int 3 0,.ref 129,.bool Bool.true,.int 181 0,.ref 130,.none,.none,.none,.ref 131,.int 347 0,.int 59 0,.str "/claim/cut.py" 348]) #[])::
 (nat_lit 133,fO "leg_worths" zbL .none .none .none (.str "stuckwires.faults" 329) none (.ref 132) .none)::
 (nat_lit 134,tO #[.int 1 350])::
 (nat_lit 135,tO #[])::
 (nat_lit 138,PySem.Obj.mk (.type "code") none (PySem.Data.fields #[.str "outputs_with" 351,.str "outputs_with" 352,.str "/claim/cut.py" 353,.int 61 0,.int 4 0,.int 0 0,.int 0 0,.int 3 0,.ref 135,.bool Bool.true,.int 181 0,.ref 136,.none,.none,.none,.ref 137,.int 354 0,.int 61 0,.str "/claim/cut.py" 355]) #[])::
 (nat_lit 139,fO "outputs_with" zbd (.ref 134) .none .none (.str "stuckwires.faults" 329) none (.ref 138) .none)::
 (nat_lit 140,tO #[])::
 (nat_lit 143,PySem.Obj.mk (.type "code") none (PySem.Data.fields #[.str "outputs_seen" 359,.str "outputs_seen" 360,.str "/claim/cut.py" 361,.int 65 0,.int 2 0,.int 0 0,.int 0 0,.int 3 0,.ref 140,.bool Bool.true,.int 181 0,.ref 141,.none,.none,.none,.ref 142,.int 362 0,.int 65 0,.str "/claim/cut.py" 363]) #[])::
 (nat_lit 144,fO "outputs_seen" zbj .none .none .none (.str "stuckwires.seen" 357) none (.ref 143) .none)::
 (nat_lit 145,tO #[])::
 (nat_lit 148,PySem.Obj.mk (.type "code") none (PySem.Data.fields #[.str "rows_at_once" 365,.str "rows_at_once" 366,.str "/claim/cut.py" 367,.int 70 0,.int 1 0,.int 0 0,.int 0 0,.int 3 0,.ref 145,.bool Bool.true,.int 181 0,.ref 146,.none,.none,.none,.ref 147,.int 368 0,.int 70 0,.str "/claim/cut.py" 369]) #[])::
 (nat_lit 149,fO "rows_at_once" zbe .none .none .none (.str "stuckwires.seen" 357) none (.ref 148) .none)::
 (nat_lit 150,tO #[])::
 (nat_lit 153,PySem.Obj.mk (.type "code") none (PySem.Data.fields #[.str "outputs_in" 371,.str "outputs_in" 372,.str "/claim/cut.py" 373,.int 78 0,.int 2 0,.int 0 0,.int 0 0,.int 3 0,.ref 150,.bool Bool.true,.int 181 0,.ref 151,.none,.none,.none,.ref 152,.int 374 0,.int 78 0,.str "/claim/cut.py" 375]) #[])::
 (nat_lit 154,fO "outputs_in" zcf .none .none .none (.str "stuckwires.seen" 357) none (.ref 153) .none)::
 (nat_lit 155,tO #[])::
 (nat_lit 157,tO #[.str "works" 380,.str "seen" 381,.str "fault" 382])::
 (nat_lit 158,tO #[])::
 (nat_lit 160,PySem.Obj.mk (.type "code") none (PySem.Data.fields #[.str "seen_of_each" 377,.str "seen_of_each" 378,.str "/claim/cut.py" 379,.int 80 0,.int 1 0,.int 0 0,.int 0 0,.int 3 0,.ref 155,.bool Bool.true,.int 181 0,.ref 156,.none,.ref 157,.ref 158,.ref 159,.int 383 0,.int 80 0,.str "/claim/cut.py" 384]) #[])::
 (nat_lit 161,fO "seen_of_each" zbg .none .none .none (.str "stuckwires.seen" 357) none (.ref 160) .none)::
 (nat_lit 162,tO #[])::
 (nat_lit 165,PySem.Obj.mk (.type "code") none (PySem.Data.fields #[.str "unlike_numbers" 386,.str "unlike_numbers" 387,.str "/claim/cut.py" 388,.int 85 0,.int 2 0,.int 0 0,.int 0 0,.int 3 0,.ref 162,.bool Bool.true,.int 181 0,.ref 163,.none,.none,.none,.ref 164,.int 389 0,.int 85 0,.str "/claim/cut.py" 390]) #[])::
 (nat_lit 166,fO "unlike_numbers" zaR .none .none .none (.str "stuckwires.seen" 357) none (.ref 165) .none)::
 (nat_lit 167,tO #[])::
 (nat_lit 169,tO #[.str "works" 395,.str "right" 396,.str "finding" 397,.str "fault" 398,.str "seen" 399,.str "numbers" 400])::
 (nat_lit 170,tO #[])::
 (nat_lit 172,PySem.Obj.mk (.type "code") none (PySem.Data.fields #[.str "finding_rows" 392,.str "finding_rows" 393,.str "/claim/cut.py" 394,.int 90 0,.int 1 0,.int 0 0,.int 0 0,.int 3 0,.ref 167,.bool Bool.true,.int 181 0,.ref 168,.none,.ref 169,.ref 170,.ref 171,.int 401 0,.int 90 0,.str "/claim/cut.py" 402]) #[])::
 (nat_lit 173,fO "finding_rows" zbb .none .none .none (.str "stuckwires.seen" 357) none (.ref 172) .none)::
 (nat_lit 174,tO #[])::
 (nat_lit 177,PySem.Obj.mk (.type "code") none (PySem.Data.fields #[.str "finds_all" 408,.str "finds_all" 409,.str "/claim/cut.py" 410,.int 100 0,.int 2 0,.int 0 0,.int 0 0,.int 3 0,.ref 174,.bool Bool.true,.int 181 0,.ref 175,.none,.none,.none,.ref 176,.int 411 0,.int 100 0,.str "/claim/cut.py" 412]) #[])::
 (nat_lit 178,fO "finds_all" zcb .none .none .none (.str "stuckwires.fewest" 404) none (.ref 177) .none)::
 (nat_lit 179,tO #[])::
 (nat_lit 182,PySem.Obj.mk (.type "code") none (PySem.Data.fields #[.str "fewest_rows" 414,.str "fewest_rows" 415,.str "/claim/cut.py" 416,.int 105 0,.int 1 0,.int 0 0,.int 0 0,.int 3 0,.ref 179,.bool Bool.true,.int 181 0,.ref 180,.none,.none,.none,.ref 181,.int 417 0,.int 105 0,.str "/claim/cut.py" 418]) #[])::
 (nat_lit 183,fO "fewest_rows" zbC .none .none .none (.str "stuckwires.fewest" 404) none (.ref 182) .none)::
 (nat_lit 184,tO #[])::
 (nat_lit 186,tO #[.str "works" 423,.str "finding" 424,.str "fewest" 425])::
 (nat_lit 187,tO #[])::
 (nat_lit 189,PySem.Obj.mk (.type "code") none (PySem.Data.fields #[.str "need_paper" 420,.str "need_paper" 421,.str "/claim/cut.py" 422,.int 109 0,.int 1 0,.int 0 0,.int 0 0,.int 3 0,.ref 184,.bool Bool.true,.int 181 0,.ref 185,.none,.ref 186,.ref 187,.ref 188,.int 426 0,.int 109 0,.str "/claim/cut.py" 427]) #[])::
 (nat_lit 190,fO "need_paper" zbS .none .none .none (.str "stuckwires.fewest" 404) none (.ref 189) .none)::
 (nat_lit 191,tO #[])::
 (nat_lit 193,tO #[.str "works" 432,.str "k" 433,.str "paper" 434])::
 (nat_lit 194,tO #[])::
 (nat_lit 196,PySem.Obj.mk (.type "code") none (PySem.Data.fields #[.str "need_shows" 429,.str "need_shows" 430,.str "/claim/cut.py" 431,.int 114 0,.int 3 0,.int 0 0,.int 0 0,.int 3 0,.ref 191,.bool Bool.true,.int 181 0,.ref 192,.none,.ref 193,.ref 194,.ref 195,.int 435 0,.int 114 0,.str "/claim/cut.py" 436]) #[])::
 (nat_lit 197,fO "need_shows" zbN .none .none .none (.str "stuckwires.fewest" 404) none (.ref 196) .none)::
 (nat_lit 198,tO #[])::
 (nat_lit 200,tO #[.str "works" 441])::
 (nat_lit 201,tO #[])::
 (nat_lit 203,PySem.Obj.mk (.type "code") none (PySem.Data.fields #[.str "check_inputs" 438,.str "check_inputs" 439,.str "/claim/cut.py" 440,.int 116 0,.int 1 0,.int 0 0,.int 0 0,.int 3 0,.ref 198,.bool Bool.true,.int 181 0,.ref 199,.none,.ref 200,.ref 201,.ref 202,.int 442 0,.int 116 0,.str "/claim/cut.py" 443]) #[])::
 (nat_lit 204,fO "check_inputs" zba .none .none .none (.str "stuckwires.fewest" 404) none (.ref 203) .none)::
 (nat_lit 205,tO #[])::
 (nat_lit 208,PySem.Obj.mk (.type "code") none (PySem.Data.fields #[.str "meets_each" 445,.str "meets_each" 446,.str "/claim/cut.py" 447,.int 119 0,.int 2 0,.int 0 0,.int 0 0,.int 3 0,.ref 205,.bool Bool.true,.int 181 0,.ref 206,.none,.none,.none,.ref 207,.int 448 0,.int 119 0,.str "/claim/cut.py" 449]) #[])::
 (nat_lit 209,fO "meets_each" zbO .none .none .none (.str "stuckwires.fewest" 404) none (.ref 208) .none)::
 (nat_lit 210,tO #[])::
 (nat_lit 213,PySem.Obj.mk (.type "code") none (PySem.Data.fields #[.str "meet" 451,.str "meet" 452,.str "/claim/cut.py" 453,.int 121 0,.int 2 0,.int 0 0,.int 0 0,.int 3 0,.ref 210,.bool Bool.true,.int 181 0,.ref 211,.none,.none,.none,.ref 212,.int 454 0,.int 121 0,.str "/claim/cut.py" 455]) #[])::
 (nat_lit 214,fO "meet" zfz .none .none .none (.str "stuckwires.fewest" 404) none (.ref 213) .none)::
 (nat_lit 215,tO #[])::
 (nat_lit 218,PySem.Obj.mk (.type "code") none (PySem.Data.fields #[.str "fewest_numbers" 457,.str "fewest_numbers" 458,.str "/claim/cut.py" 459,.int 123 0,.int 2 0,.int 0 0,.int 0 0,.int 3 0,.ref 215,.bool Bool.true,.int 181 0,.ref 216,.none,.none,.none,.ref 217,.int 460 0,.int 123 0,.str "/claim/cut.py" 461]) #[])::
 (nat_lit 219,fO "fewest_numbers" za6 .none .none .none (.str "stuckwires.fewest" 404) none (.ref 218) .none)::
 (nat_lit 220,tO #[])::
 (nat_lit 223,PySem.Obj.mk (.type "code") none (PySem.Data.fields #[.str "longer_choices" 463,.str "longer_choices" 464,.str "/claim/cut.py" 465,.int 130 0,.int 2 0,.int 0 0,.int 0 0,.int 3 0,.ref 220,.bool Bool.true,.int 181 0,.ref 221,.none,.none,.none,.ref 222,.int 466 0,.int 130 0,.str "/claim/cut.py" 467]) #[])::
 (nat_lit 224,fO "longer_choices" za7 .none .none .none (.str "stuckwires.fewest" 404) none (.ref 223) .none)::
 (nat_lit 225,tO #[])::
 (nat_lit 228,PySem.Obj.mk (.type "code") none (PySem.Data.fields #[.str "need_behind" 469,.str "need_behind" 470,.str "/claim/cut.py" 471,.int 136 0,.int 3 0,.int 0 0,.int 0 0,.int 3 0,.ref 225,.bool Bool.true,.int 181 0,.ref 226,.none,.none,.none,.ref 227,.int 472 0,.int 136 0,.str "/claim/cut.py" 473]) #[])::
 (nat_lit 229,fO "need_behind" zbX .none .none .none (.str "stuckwires.fewest" 404) none (.ref 228) .none)::
 (nat_lit 230,tO #[])::
 (nat_lit 232,tO #[.str "finding" 478,.str "taken" 479,.str "k" 480,.str "paper" 481,.str "fault" 482,.str "numbers" 483,.str "number" 484,.str "inner" 485])::
 (nat_lit 233,tO #[])::
 (nat_lit 235,PySem.Obj.mk (.type "code") none (PySem.Data.fields #[.str "is_need_let_by" 475,.str "is_need_let_by" 476,.str "/claim/cut.py" 477,.int 143 0,.int 4 0,.int 0 0,.int 0 0,.int 3 0,.ref 230,.bool Bool.true,.int 181 0,.ref 231,.none,.ref 232,.ref 233,.ref 234,.int 486 0,.int 143 0,.str "/claim/cut.py" 487]) #[])::
 (nat_lit 236,fO "is_need_let_by" zaS .none .none .none (.str "stuckwires.fewest" 404) none (.ref 235) .none)::
 (nat_lit 237,tO #[.str "well" 491])::
 (nat_lit 238,tO #[])::
 (nat_lit 240,tO #[.str "works" 496])::
 (nat_lit 241,tO #[])::
 (nat_lit 243,PySem.Obj.mk (.type "code") none (PySem.Data.fields #[.str "plan_depth" 493,.str "plan_depth" 494,.str "/claim/cut.py" 495,.int 158 0,.int 1 0,.int 0 0,.int 0 0,.int 3 0,.ref 238,.bool Bool.true,.int 181 0,.ref 239,.none,.ref 240,.ref 241,.ref 242,.int 497 0,.int 158 0,.str "/claim/cut.py" 498]) #[])::
 (nat_lit 244,fO "plan_depth" zbK .none .none .none (.str "stuckwires.answers" 489) none (.ref 243) .none)::
 (nat_lit 245,tO #[])::
 (nat_lit 247,tO #[.str "works" 503,.str "left" 504])::
 (nat_lit 248,tO #[])::
 (nat_lit 250,PySem.Obj.mk (.type "code") none (PySem.Data.fields #[.str "seen_of_all" 500,.str "seen_of_all" 501,.str "/claim/cut.py" 502,.int 161 0,.int 1 0,.int 0 0,.int 0 0,.int 3 0,.ref 245,.bool Bool.true,.int 181 0,.ref 246,.none,.ref 247,.ref 248,.ref 249,.int 505 0,.int 161 0,.str "/claim/cut.py" 506]) #[])::
 (nat_lit 251,fO "seen_of_all" zbY .none .none .none (.str "stuckwires.answers" 489) none (.ref 250) .none)::
 (nat_lit 252,tO #[])::
 (nat_lit 255,PySem.Obj.mk (.type "code") none (PySem.Data.fields #[.str "next_number" 508,.str "next_number" 509,.str "/claim/cut.py" 510,.int 165 0,.int 2 0,.int 0 0,.int 0 0,.int 3 0,.ref 252,.bool Bool.true,.int 181 0,.ref 253,.none,.none,.none,.ref 254,.int 511 0,.int 165 0,.str "/claim/cut.py" 512]) #[])::
 (nat_lit 256,fO "next_number" zbV .none .none .none (.str "stuckwires.answers" 489) none (.ref 255) .none)::
 (nat_lit 257,tO #[])::
 (nat_lit 259,tO #[.str "left" 517,.str "number" 518,.str "parts" 519,.str "name" 520,.str "seen" 521,.str "part" 522])::
 (nat_lit 260,tO #[])::
 (nat_lit 262,PySem.Obj.mk (.type "code") none (PySem.Data.fields #[.str "parts_at" 514,.str "parts_at" 515,.str "/claim/cut.py" 516,.int 174 0,.int 2 0,.int 0 0,.int 0 0,.int 3 0,.ref 257,.bool Bool.true,.int 181 0,.ref 258,.none,.ref 259,.ref 260,.ref 261,.int 523 0,.int 174 0,.str "/claim/cut.py" 524]) #[])::
 (nat_lit 263,fO "parts_at" zcL .none .none .none (.str "stuckwires.answers" 489) none (.ref 262) .none)::
 (nat_lit 264,tO #[])::
 (nat_lit 267,PySem.Obj.mk (.type "code") none (PySem.Data.fields #[.str "depth_behind" 526,.str "depth_behind" 527,.str "/claim/cut.py" 528,.int 180 0,.int 2 0,.int 0 0,.int 0 0,.int 3 0,.ref 264,.bool Bool.true,.int 181 0,.ref 265,.none,.none,.none,.ref 266,.int 529 0,.int 180 0,.str "/claim/cut.py" 530]) #[])::
 (nat_lit 268,fO "depth_behind" zbI .none .none .none (.str "stuckwires.answers" 489) none (.ref 267) .none)::
 (nat_lit 269,tO #[])::
 (nat_lit 271,tO #[.str "script" 537,.str "k" 538])::
 (nat_lit 272,tO #[])::
 (nat_lit 274,PySem.Obj.mk (.type "code") none (PySem.Data.fields #[.str "_law_cell_at" 534,.str "_law_cell_at" 535,.str "/claim/cut.py" 536,.int 186 0,.int 2 0,.int 0 0,.int 0 0,.int 3 0,.ref 269,.bool Bool.true,.int 181 0,.ref 270,.none,.ref 271,.ref 272,.ref 273,.int 539 0,.int 186 0,.str "/claim/cut.py" 540]) #[])::
 (nat_lit 275,fO "_law_cell_at" zbB .none .none .none (.str "law_stuckwires_k37_more_inputs_than_three" 532) none (.ref 274) .none)::
 (nat_lit 276,tO #[])::
 (nat_lit 278,tO #[.str "cell" 545,.str "many" 546,.str "top" 547,.str "found" 548,.str "rest" 549,.str "k" 550,.str "stir" 551])::
 (nat_lit 279,tO #[])::
 (nat_lit 281,PySem.Obj.mk (.type "code") none (PySem.Data.fields #[.str "_law_digits" 542,.str "_law_digits" 543,.str "/claim/cut.py" 544,.int 190 0,.int 3 0,.int 0 0,.int 0 0,.int 3 0,.ref 276,.bool Bool.true,.int 181 0,.ref 277,.none,.ref 278,.ref 279,.ref 280,.int 552 0,.int 190 0,.str "/claim/cut.py" 553]) #[])::
 (nat_lit 282,fO "_law_digits" zbQ .none .none .none (.str "law_stuckwires_k37_more_inputs_than_three" 532) none (.ref 281) .none)::
 (nat_lit 283,tO #[])::
 (nat_lit 286,PySem.Obj.mk (.type "code") none (PySem.Data.fields #[.str "_law_gate" 555,.str "_law_gate" 556,.str "/claim/cut.py" 557,.int 202 0,.int 2 0,.int 0 0,.int 0 0,.int 3 0,.ref 283,.bool Bool.true,.int 181 0,.ref 284,.none,.none,.none,.ref 285,.int 558 0,.int 202 0,.str "/claim/cut.py" 559]) #[])::
 (nat_lit 287,fO "_law_gate" zct .none .none .none (.str "law_stuckwires_k37_more_inputs_than_three" 532) none (.ref 286) .none)::
 (nat_lit 288,tO #[])::
 (nat_lit 290,tO #[.str "script" 564,.str "inputs" 565,.str "most" 566,.str "first" 567,.str "many" 568,.str "cells" 569,.str "gates" 570,.str "cell" 571,.str "wires" 572,.str "xs" 573,.str "outputs" 574,.str "k" 575])::
 (nat_lit 291,tO #[])::
 (nat_lit 293,PySem.Obj.mk (.type "code") none (PySem.Data.fields #[.str "_law_works_of" 561,.str "_law_works_of" 562,.str "/claim/cut.py" 563,.int 208 0,.int 3 0,.int 0 0,.int 0 0,.int 3 0,.ref 288,.bool Bool.true,.int 181 0,.ref 289,.none,.ref 290,.ref 291,.ref 292,.int 576 0,.int 208 0,.str "/claim/cut.py" 577]) #[])::
 (nat_lit 294,fO "_law_works_of" zbf .none .none .none (.str "law_stuckwires_k37_more_inputs_than_three" 532) none (.ref 293) .none)::
 (nat_lit 295,tO #[])::
 (nat_lit 297,tO #[.str "kind" 582,.str "legs" 583])::
 (nat_lit 298,tO #[])::
 (nat_lit 300,PySem.Obj.mk (.type "code") none (PySem.Data.fields #[.str "_law_worth" 579,.str "_law_worth" 580,.str "/claim/cut.py" 581,.int 222 0,.int 2 0,.int 0 0,.int 0 0,.int 3 0,.ref 295,.bool Bool.true,.int 181 0,.ref 296,.none,.ref 297,.ref 298,.ref 299,.int 584 0,.int 222 0,.str "/claim/cut.py" 585]) #[])::
 (nat_lit 301,fO "_law_worth" zb8 .none .none .none (.str "law_stuckwires_k37_more_inputs_than_three" 532) none (.ref 300) .none)::
 (nat_lit 302,tO #[])::
 (nat_lit 305,PySem.Obj.mk (.type "code") none (PySem.Data.fields #[.str "_law_outs" 587,.str "_law_outs" 588,.str "/claim/cut.py" 589,.int 234 0,.int 3 0,.int 0 0,.int 0 0,.int 3 0,.ref 302,.bool Bool.true,.int 181 0,.ref 303,.none,.none,.none,.ref 304,.int 590 0,.int 234 0,.str "/claim/cut.py" 591]) #[])::
 (nat_lit 306,fO "_law_outs" zcs .none .none .none (.str "law_stuckwires_k37_more_inputs_than_three" 532) none (.ref 305) .none)::
 (nat_lit 307,tO #[])::
 (nat_lit 309,tO #[.str "works" 596,.str "found" 597,.str "wire" 598,.str "g" 599,.str "p" 600])::
 (nat_lit 310,tO #[])::
 (nat_lit 312,PySem.Obj.mk (.type "code") none (PySem.Data.fields #[.str "_law_faults" 593,.str "_law_faults" 594,.str "/claim/cut.py" 595,.int 249 0,.int 1 0,.int 0 0,.int 0 0,.int 3 0,.ref 307,.bool Bool.true,.int 181 0,.ref 308,.none,.ref 309,.ref 310,.ref 311,.int 601 0,.int 249 0,.str "/claim/cut.py" 602]) #[])::
 (nat_lit 313,fO "_law_faults" zbP .none .none .none (.str "law_stuckwires_k37_more_inputs_than_three" 532) none (.ref 312) .none)::
 (nat_lit 314,tO #[])::
 (nat_lit 316,tO #[.str "inputs" 607,.str "found" 608,.str "k" 609,.str "longer_rows" 610,.str "row" 611])::
 (nat_lit 317,tO #[])::
 (nat_lit 319,PySem.Obj.mk (.type "code") none (PySem.Data.fields #[.str "_law_all_rows" 604,.str "_law_all_rows" 605,.str "/claim/cut.py" 606,.int 257 0,.int 1 0,.int 0 0,.int 0 0,.int 3 0,.ref 314,.bool Bool.true,.int 181 0,.ref 315,.none,.ref 316,.ref 317,.ref 318,.int 612 0,.int 257 0,.str "/claim/cut.py" 613]) #[])::
 (nat_lit 320,fO "_law_all_rows" zbh .none .none .none (.str "law_stuckwires_k37_more_inputs_than_three" 532) none (.ref 319) .none)::
 (nat_lit 321,tO #[])::
 (nat_lit 324,PySem.Obj.mk (.type "code") none (PySem.Data.fields #[.str "_law_answers" 615,.str "_law_answers" 616,.str "/claim/cut.py" 617,.int 265 0,.int 1 0,.int 0 0,.int 0 0,.int 3 0,.ref 321,.bool Bool.true,.int 181 0,.ref 322,.none,.none,.none,.ref 323,.int 618 0,.int 265 0,.str "/claim/cut.py" 619]) #[])::
 (nat_lit 325,fO "_law_answers" zbx .none .none .none (.str "law_stuckwires_k37_more_inputs_than_three" 532) none (.ref 324) .none)::
 (nat_lit 326,tO #[])::
 (nat_lit 329,PySem.Obj.mk (.type "code") none (PySem.Data.fields #[.str "_law_finding" 621,.str "_law_finding" 622,.str "/claim/cut.py" 623,.int 271 0,.int 1 0,.int 0 0,.int 0 0,.int 3 0,.ref 326,.bool Bool.true,.int 181 0,.ref 327,.none,.none,.none,.ref 328,.int 624 0,.int 271 0,.str "/claim/cut.py" 625]) #[])::
 (nat_lit 330,fO "_law_finding" zbz .none .none .none (.str "law_stuckwires_k37_more_inputs_than_three" 532) none (.ref 329) .none)::
 (nat_lit 331,tO #[])::
 (nat_lit 334,PySem.Obj.mk (.type "code") none (PySem.Data.fields #[.str "_law_open" 627,.str "_law_open" 628,.str "/claim/cut.py" 629,.int 278 0,.int 2 0,.int 0 0,.int 0 0,.int 3 0,.ref 331,.bool Bool.true,.int 181 0,.ref 332,.none,.none,.none,.ref 333,.int 630 0,.int 278 0,.str "/claim/cut.py" 631]) #[])::
 (nat_lit 335,fO "_law_open" zcq .none .none .none (.str "law_stuckwires_k37_more_inputs_than_three" 532) none (.ref 334) .none)::
 (nat_lit 336,tO #[])::
 (nat_lit 338,tO #[.str "works" 636])::
 (nat_lit 339,tO #[])::
 (nat_lit 341,PySem.Obj.mk (.type "code") none (PySem.Data.fields #[.str "_law_copy" 633,.str "_law_copy" 634,.str "/claim/cut.py" 635,.int 284 0,.int 1 0,.int 0 0,.int 0 0,.int 3 0,.ref 336,.bool Bool.true,.int 181 0,.ref 337,.none,.ref 338,.ref 339,.ref 340,.int 637 0,.int 284 0,.str "/claim/cut.py" 638]) #[])::
 (nat_lit 342,fO "_law_copy" zcr .none .none .none (.str "law_stuckwires_k37_more_inputs_than_three" 532) none (.ref 341) .none)::
 (nat_lit 343,tO #[])::
 (nat_lit 345,tO #[.str "which" 643,.str "works" 644,.str "classes" 645,.str "e" 646,.str "others" 647])::
 (nat_lit 346,tO #[])::
 (nat_lit 348,PySem.Obj.mk (.type "code") none (PySem.Data.fields #[.str "_law_refused" 640,.str "_law_refused" 641,.str "/claim/cut.py" 642,.int 286 0,.int 2 0,.int 0 0,.int 0 0,.int 3 0,.ref 343,.bool Bool.true,.int 181 0,.ref 344,.none,.ref 345,.ref 346,.ref 347,.int 648 0,.int 286 0,.str "/claim/cut.py" 649]) #[])::
 (nat_lit 349,fO "_law_refused" zbw .none .none .none (.str "law_stuckwires_k37_more_inputs_than_three" 532) none (.ref 348) .none)::
 (nat_lit 350,tO #[])::
 (nat_lit 352,tO #[.str "number" 654,.str "many" 655,.str "found" 656,.str "k" 657])::
 (nat_lit 353,tO #[])::
 (nat_lit 355,PySem.Obj.mk (.type "code") none (PySem.Data.fields #[.str "_law_some" 651,.str "_law_some" 652,.str "/claim/cut.py" 653,.int 299 0,.int 2 0,.int 0 0,.int 0 0,.int 3 0,.ref 350,.bool Bool.true,.int 181 0,.ref 351,.none,.ref 352,.ref 353,.ref 354,.int 658 0,.int 299 0,.str "/claim/cut.py" 659]) #[])::
 (nat_lit 356,fO "_law_some" zcn .none .none .none (.str "law_stuckwires_k37_more_inputs_than_three" 532) none (.ref 355) .none)::
 (nat_lit 357,tO #[])::
 (nat_lit 359,tO #[.str "finding" 664,.str "some" 665])::
 (nat_lit 360,tO #[])::
 (nat_lit 362,PySem.Obj.mk (.type "code") none (PySem.Data.fields #[.str "_law_found_by" 661,.str "_law_found_by" 662,.str "/claim/cut.py" 663,.int 308 0,.int 2 0,.int 0 0,.int 0 0,.int 3 0,.ref 357,.bool Bool.true,.int 181 0,.ref 358,.none,.ref 359,.ref 360,.ref 361,.int 666 0,.int 308 0,.str "/claim/cut.py" 667]) #[])::
 (nat_lit 363,fO "_law_found_by" zbc .none .none .none (.str "law_stuckwires_k37_more_inputs_than_three" 532) none (.ref 362) .none)::
 (nat_lit 364,tO #[])::
 (nat_lit 366,tO #[.str "finding" 672,.str "xs" 673,.str "left" 674,.str "fault" 675,.str "parts" 676,.str "row" 677,.str "rest" 678])::
 (nat_lit 367,tO #[])::
 (nat_lit 369,PySem.Obj.mk (.type "code") none (PySem.Data.fields #[.str "_law_paper" 669,.str "_law_paper" 670,.str "/claim/cut.py" 671,.int 310 0,.int 2 0,.int 0 0,.int 0 0,.int 3 0,.ref 364,.bool Bool.true,.int 181 0,.ref 365,.none,.ref 366,.ref 367,.ref 368,.int 679 0,.int 310 0,.str "/claim/cut.py" 680]) #[])::
 (nat_lit 370,fO "_law_paper" zb9 .none .none .none (.str "law_stuckwires_k37_more_inputs_than_three" 532) none (.ref 369) .none)::
 (nat_lit 371,tO #[])::
 (nat_lit 374,PySem.Obj.mk (.type "code") none (PySem.Data.fields #[.str "_law_walk" 682,.str "_law_walk" 683,.str "/claim/cut.py" 684,.int 318 0,.int 4 0,.int 0 0,.int 0 0,.int 3 0,.ref 371,.bool Bool.true,.int 181 0,.ref 372,.none,.none,.none,.ref 373,.int 685 0,.int 318 0,.str "/claim/cut.py" 686]) #[])::
 (nat_lit 375,fO "_law_walk" zcp .none .none .none (.str "law_stuckwires_k37_more_inputs_than_three" 532) none (.ref 374) .none)::
 (nat_lit 376,tO #[])::
 (nat_lit 379,PySem.Obj.mk (.type "code") none (PySem.Data.fields #[.str "law" 688,.str "law" 689,.str "/claim/cut.py" 690,.int 330 0,.int 1 0,.int 0 0,.int 0 0,.int 3 0,.ref 376,.bool Bool.true,.int 181 0,.ref 377,.none,.none,.none,.ref 378,.int 691 0,.int 330 0,.str "/claim/cut.py" 692]) #[])::
 (nat_lit 380,fO "law" zfL .none .none .none (.str "law_stuckwires_k37_more_inputs_than_three" 532) none (.ref 379) .none)::[]
def ze9:List Addr:=[2,3,15,22,23,24,25,28,35,36,37,40,47,48,49,52,59,60,61,64,71,72,73,76,83,84,85,88,95,96,97,100,103,104,105,108,109,110,111,113,114,116,117,118,121,122,123,124,127,128,129,132,133,134,135,138,139,140,143,144,145,148,149,150,153,154,155,157,158,160,161,162,165,166,167,169,170,172,173,174,177,178,179,182,183,184,186,187,189,190,191,193,194,196,197,198,200,201,203,204,205,208,209,210,213,214,215,218,219,220,223,224,225,228,229,230,232,233,235,236,237,238,240,241,243,244,245,247,248,250,251,252,255,256,257,259,260,262,263,264,267,268,269,271,272,274,275,276,278,279,281,282,283,286,287,288,290,291,293,294,295,297,298,300,301,302,305,306,307,309,310,312,313,314,316,317,319,320,321,324,325,326,329,330,331,334,335,336,338,339,341,342,343,345,346,348,349,350,352,353,355,356,357,359,360,362,363,364,366,367,369,370,371,374,375,376,379,380]
noncomputable def view:Program:={PySem.Challenge.pw_stuckwires_k37_more_inputs_than_three with main:={PySem.Challenge.pw_stuckwires_k37_more_inputs_than_three.main with body:=[1,2,3,4,5,6,7,9,10,13,15,18,19,20,21,22,23,25,26,27,28,29,30,31,32,33,34,35,36,38,39,40,41,42,43,45,46,47,48,49,50,51,52,53,54,55,56,57,58,59,60,61,62].map top}}
end My
section
open PySem PySem.W PyProof.Rows
theorem My.mpE {α β γ :Type}{o:Option α}{f: α→β×γ}{b: β×γ}(h1:o.map (fun s=>(f s).1)=some b.1)(h2:o.map (fun s=>(f s).2)=some b.2):o.map (fun s=>f s)=some b:=by
 cases o with
 | none=>cases h1
 | some a=>exact congrArg some (Prod.ext (Option.some.inj h1) (Option.some.inj h2))
theorem My.mpP {α β γ :Type}{o:Option α}{f: α→β}{g: α→γ}{b: β}{c: γ}(h1:o.map (fun s=>f s)=some b)(h2:o.map (fun s=>g s)=some c):o.map (fun s=>(f s,g s))=some (b,c):=by
 cases o with
 | none=>cases h1
 | some a=>exact congrArg some (Prod.ext (Option.some.inj h1) (Option.some.inj h2))
set_option maxRecDepth 100000 in
set_option maxHeartbeats 0 in
theorem My.hlD (w:World):(openEnds treeTable PySem.Challenge.rw_stuckwires_k37_more_inputs_than_three.row.prog w 5940).map (fun s=>(openSeen My.view ["gate_worth","worths_with","outputs_with"] (importedModules PySem.Challenge.rw_stuckwires_k37_more_inputs_than_three.row.prog.main.body) (fun s=>xlAt My.view [] s && recOk (RowW.records (OpenRow.toRowW PySem.Challenge.rw_stuckwires_k37_more_inputs_than_three.row)) s) true s).1)=some ((openGood My.view ["gate_worth","worths_with","outputs_with"]).1):=by kernel_rfl
set_option maxRecDepth 100000 in
set_option maxHeartbeats 0 in
theorem My.hlE (w:World):(openEnds treeTable PySem.Challenge.rw_stuckwires_k37_more_inputs_than_three.row.prog w 5940).map (fun s=>(openSeen My.view ["gate_worth","worths_with","outputs_with"] (importedModules PySem.Challenge.rw_stuckwires_k37_more_inputs_than_three.row.prog.main.body) (fun s=>xlAt My.view [] s && recOk (RowW.records (OpenRow.toRowW PySem.Challenge.rw_stuckwires_k37_more_inputs_than_three.row)) s) true s).2)=some ((openGood My.view ["gate_worth","worths_with","outputs_with"]).2):=by kernel_rfl
set_option maxRecDepth 100000 in
set_option maxHeartbeats 0 in
theorem My.hlB (w:World):(openEnds treeTable PySem.Challenge.rw_stuckwires_k37_more_inputs_than_three.row.prog w 5940).map (fun s=>(Hook.obs (kHook My.part My.ze9 (fun _=>by kernel_rfl))) s)=some ((Hook.val (kHook My.part My.ze9 (fun _=>by kernel_rfl))) w):=by kernel_rfl
set_option maxRecDepth 100000 in
set_option maxHeartbeats 0 in
theorem My.hl0:PySem.W.LeftO PySem.Challenge.rw_stuckwires_k37_more_inputs_than_three.row.prog My.view ["gate_worth","worths_with","outputs_with"] (fun s=>xlAt My.view [] s && recOk (RowW.records (OpenRow.toRowW PySem.Challenge.rw_stuckwires_k37_more_inputs_than_three.row)) s) (Hook.obs (kHook My.part My.ze9 (fun _=>by kernel_rfl))) (Hook.val (kHook My.part My.ze9 (fun _=>by kernel_rfl))) 5940:=fun w=>My.mpP (My.mpE (My.hlD w) (My.hlE w)) (My.hlB w)
end
namespace L2
open PySem PySem.Spec PyProof.Rows
noncomputable abbrev Key:=Sum Int Str
noncomputable def zi4:Key→Value→Bool
 | .inl k,v=>Value.isInt k v
 | .inr x,v=>Value.isStrOf x v
noncomputable def keyH (w:World):Key→Int
 | .inl k=>hashInt k
 | .inr x=>hashStr w x
theorem zbu:∀ {k:Key} {v:Value},zi4 k v=true→(∃ i t,k=Sum.inl i∧v=Value.int i t)∨(∃ x t,k=Sum.inr x∧v=Value.str x t)
 | .inl i,v,h=>by
  obtain ⟨t,e⟩:=Value.isInt_shape (k:=i) (v:=v) h
  exact .inl ⟨i,t,rfl,e⟩
 | .inr x,v,h=>by
  obtain ⟨t,e⟩:=Value.isStrOf_shape (x:=x) (v:=v) h
  exact .inr ⟨x,t,rfl,e⟩
theorem zjY (i:Int)(t:Tok):zi4 (.inl i) (.int i t)=true:=by simp [zi4,Value.isInt]
theorem zj6 (x:Str)(t:Tok):zi4 (.inr x) (.str x t)=true:=by simp [zi4,Value.isStrOf]
theorem key_ll (a b:Int):decide ((Sum.inl a:Key)=Sum.inl b)=(a==b):=by
 by_cases e:a=b
 ·subst e;simp
 ·have h:¬(Sum.inl a:Key)=Sum.inl b:=fun q=>e (Sum.inl.inj q)
  rw [decide_eq_false h]
  exact (beq_eq_false_iff_ne.mpr e).symm
theorem key_rr (a b:Str):decide ((Sum.inr a:Key)=Sum.inr b)=decide (a=b):=by
 by_cases e:a=b
 ·subst e;simp
 ·have h:¬(Sum.inr a:Key)=Sum.inr b:=fun q=>e (Sum.inr.inj q)
  rw [decide_eq_false h,decide_eq_false e]
theorem key_lr (a:Int)(b:Str):decide ((Sum.inl a:Key)=Sum.inr b)=false:=decide_eq_false (fun q=>nomatch q)
theorem key_rl (a:Str)(b:Int):decide ((Sum.inr a:Key)=Sum.inl b)=false:=decide_eq_false (fun q=>nomatch q)
noncomputable def zaG (prog:Program) (w:World):PySem.KeyKind prog w Key where
 is:=zi4
 hash:=keyH w
 inj:=fun v a b ha hb=>by
  rcases zbu ha with ⟨i,t,rfl,rfl⟩ | ⟨x,t,rfl,rfl⟩
  ·rcases zbu hb with ⟨j,u,rfl,e⟩ | ⟨y,u,rfl,e⟩
   ·injection e with e1 _;rw [e1]
   ·exact nomatch e
  ·rcases zbu hb with ⟨j,u,rfl,e⟩ | ⟨y,u,rfl,e⟩
   ·exact nomatch e
   ·injection e with e1 _;rw [e1]
 byValue:=fun k v h=>by
  rcases zbu h with ⟨i,t,rfl,rfl⟩ | ⟨x,t,rfl,rfl⟩ <;> rfl
 pyHash:=fun hv h=>by
  rcases zbu hv with ⟨i,t,rfl,rfl⟩ | ⟨x,t,rfl,rfl⟩
  ·exact wpAny_pyHash_int h
  ·exact wpAny_pyHash_str h
 eqBool:=fun hu hv h=>by
  rcases zbu hu with ⟨i,t,rfl,rfl⟩ | ⟨x,t,rfl,rfl⟩
  ·rcases zbu hv with ⟨j,u,rfl,rfl⟩ | ⟨y,u,rfl,rfl⟩
   ·rw [key_ll] at h;exact wpAny_eqBool_int h
   ·rw [key_lr] at h;exact SeqAt.EqAt.int_str i t y u _ _ _ _ h
  ·rcases zbu hv with ⟨j,u,rfl,rfl⟩ | ⟨y,u,rfl,rfl⟩
   ·rw [key_rl] at h;exact SeqAt.EqAt.str_int x t j u _ _ _ _ h
   ·rw [key_rr] at h;exact wpAny_eqBool_str h
 «strs» :=fun k x t v h=>by
  rcases zbu h with ⟨i,u,rfl,e⟩ | ⟨y,u,rfl,e⟩
  ·exact nomatch e
  ·injection e with e1 _
   subst e1
   cases v <;> rfl
theorem zhz (prog:Program)(w:World)(i:Int)(t:Tok):(zaG prog w).is (.inl i) (.int i t)=true:=zjY i t
theorem zhv (prog:Program)(w:World)(x:Str)(t:Tok):(zaG prog w).is (.inr x) (.str x t)=true:=zj6 x t
end L2
namespace L2
open PySem PySem.Spec PyProof.Rows
inductive V where
 | non | bl (b:Bool) | int (i:Int) | str (x:Str) | byt (b:Array UInt8) | flt (b:UInt64) | ref (a:Addr) | ty (n:String)
 deriving DecidableEq
noncomputable def RelV:V→Value→Prop
 | .non,u=>u=Value.none
 | .bl b,u=>u=Value.bool b
 | .int i,u=>∃ t,u=Value.int i t
 | .str x,u=>∃ t,u=Value.str x t
 | .byt b,u=>∃ t,u=Value.bytes b t
 | .flt b,u=>∃ t,u=Value.float b t
 | .ref a,u=>u=Value.ref a
 | .ty n,u=>u=Value.type n
noncomputable abbrev Vals:List V→List Value→Prop:=Paired RelV
theorem Vals.length {xs:List V}{us:List Value}(r:Vals xs us):xs.length=us.length:=Paired.length r
theorem Vals.get:∀ {xs:List V} {us:List Value} {i:Nat} {x:V},Vals xs us→xs[i]? =some x→∃ u,us[i]? =some u∧RelV x u
 | _,_,_,_,.nil,e=>by simp at e
 | _,_,0,_,.cons r _,e=>by simp at e;subst e;exact ⟨_,rfl,r⟩
 | _,_,i+1,x,.cons _ t,e=>by
  obtain ⟨u,h1,h2⟩:=Vals.get (i:=i) (x:=x) t (by simpa using e)
  exact ⟨u,by simpa using h1,h2⟩
theorem Vals.set {x:V}{u:Value}(r:RelV x u):∀ {xs:List V} {us:List Value} (i:Nat),Vals xs us→Vals (xs.set i x) (us.set i u)
 | _,_,_,.nil=>.nil
 | _,_,0,.cons _ t=>.cons r t
 | _,_,i+1,.cons q t=>.cons q (Vals.set r i t)
theorem Vals.append:∀ {xs ys:List V} {us ws:List Value},Vals xs us→Vals ys ws→Vals (xs++ys) (us++ws)
 | _,_,_,_,.nil,s=>s
 | _,_,_,_,.cons r t,s=>.cons r (Vals.append t s)
theorem Vals.take:∀ {xs:List V} {us:List Value} (n:Nat),Vals xs us→Vals (xs.take n) (us.take n)
 | _,_,0,_=>.nil
 | _,_,_+1,.nil=>.nil
 | _,_,n+1,.cons r t=>.cons r (Vals.take n t)
theorem Vals.drop:∀ {xs:List V} {us:List Value} (n:Nat),Vals xs us→Vals (xs.drop n) (us.drop n)
 | _,_,0,r=>r
 | _,_,_+1,.nil=>.nil
 | _,_,n+1,.cons _ t=>Vals.drop n t
noncomputable def RelO:Option V→Option Value→Prop
 | some v,some u=>RelV v u
 | none,none=>True
 | _,_=>False
noncomputable def KV {κ :Type}:List (κ×V)→List (κ×Value)→Prop:=Paired fun (p: κ×V) (q: κ×Value)=>p.1=q.1∧RelV p.2 q.2
noncomputable def kV:Key→V
 | .inl i=>.int i
 | .inr x=>.str x
inductive HO where
  | lst (xs:List V)
  | tup (xs:List V)
  | dK (kvs:List (Key×V)) | dT (kvs:List (List Key×V))
  | set (S:Int→Bool) (n:Nat)
  | ins (C dx:Addr) (fs:List (Str×V))
  | own (x:Addr)
  | xd (fs:List (Str×V))
  | met (f x:Addr)
  | rng (lo hi:Int)
  | frz (o:Obj) (u:HO)
  | tbl (ps:Array Value)
  | ext (φ :Heap→Prop)
noncomputable abbrev Hp:=Addr→Option HO
noncomputable def upd (H:Hp) (a:Addr) (o:HO):Hp:=fun b=>if b=a then some o else H b
theorem zab {H:Hp}{a:Addr}{o:HO}:upd H a o a=some o:=by unfold upd;rw [if_pos rfl]
theorem zai {H:Hp}{a b:Addr}{o:HO}(h:b≠a):upd H a o b=H b:=by unfold upd;rw [if_neg h]
theorem zi3 {H:Hp}{a b:Addr}{o u:HO}(h:H a=some o)(h':H b=some u)(d:o≠u):a≠b:=by
 intro e;subst e;rw [h] at h';exact d (Option.some.inj h')
theorem zal {H:Hp}{a b:Addr}{o:HO}(h:H a=some o)(h':H b=none):a≠b:=by
 intro e;subst e;rw [h] at h';cases h'
noncomputable def RdT (H:Hp) (b:Addr) (xs:List V):Prop:=H b=some (.tup xs)∨∃ o,H b=some (.frz o (.tup xs))
theorem RdT.put {H:Hp}{a c:Addr}{o:HO}{xs:List V}(q:RdT H c xs)(n:c≠a):RdT (upd H a o) c xs:=by
 rcases q with q | ⟨u,q⟩
 ·exact .inl (by rw [zai n];exact q)
 ·exact .inr ⟨u,by rw [zai n];exact q⟩
theorem RdT.upd {H:Hp}{a c:Addr}{o:HO}{xs:List V}(q:RdT H c xs)(n:H a=none):RdT (L2.upd H a o) c xs:=by
 rcases q with q | ⟨u,q⟩
 ·exact RdT.put (.inl q) (zal q n)
 ·exact RdT.put (.inr ⟨u,q⟩) (zal q n)
theorem RdT.same {H H':Hp}{c:Addr}{xs:List V}(q:RdT H c xs)(s:∀ b o,H b=some o→H' b=some o):RdT H' c xs:=by
 rcases q with q | ⟨u,q⟩
 ·exact .inl (s _ _ q)
 ·exact .inr ⟨u,s _ _ q⟩
theorem RdT.write {H:Hp}{D c:Addr}{l:List V}{o:HO}{xs:List V}(q:RdT H c xs)(hD:H D=some (.lst l)):RdT (L2.upd H D o) c xs:=by
 rcases q with q | ⟨u,q⟩
 ·exact RdT.put (.inl q) (zi3 q hD (fun z=>nomatch z))
 ·exact RdT.put (.inr ⟨u,q⟩) (zi3 q hD (fun z=>nomatch z))
theorem RdT.keep {H H':Hp}{c:Addr}{xs:List V}(q:RdT H c xs)(k:∀ o,H c=some o→(∃ ys,o= .tup ys∨∃ u,o= .frz u (.tup ys))→H' c=some o):RdT H' c xs:=by
 rcases q with q | ⟨u,q⟩
 ·exact .inl (k _ q ⟨xs,.inl rfl⟩)
 ·exact .inr ⟨u,k _ q ⟨xs,.inr ⟨u,rfl⟩⟩⟩
section
variable (P:Program) (w:World)
noncomputable def zbm (H:Hp) (h:Heap) (a:Addr):HO→Prop
 | .lst xs=>xs.length≤sizeLine∧∃ (its:List Value) (n:Nat),Vals xs its∧h.get? a=some {cls:=.type "list",data:=.seq its.toArray n}
 | .tup xs=>xs.length≤sizeLine∧∃ its:List Value,Vals xs its∧IsTup h a its.toArray
 | .dK kvs=>kvs.length≤sizeLine∧(a==sysModules)=false∧∃ vs,KV kvs vs∧h.DictOf (zaG P w) a vs
 | .dT kvs=>kvs.length≤sizeLine∧(a==sysModules)=false∧∃ xs:List (List Key×Addr×Value),
   Paired (fun (p:List Key×V) (q:List Key×Addr×Value)=>p.1=q.1∧RdT H q.2.1 (p.1.map kV)∧RelV p.2 q.2.2) kvs xs∧
   ∃ o es ep,h.get? a=some o∧o.ExactDict∧o.data= .dict es ep∧es.toList=xs.map (entryOfKey (tupleKind (zaG P w)))∧(xs.map (·.1)).Nodup
 | .set S n=>h.SetOf (intKind P w) a S n
 | .ins C dx fs=>H dx=some (.own a)∧fs.length≤1000∧dx≠a∧h.get? a=some (PySem.W.instObj C dx)∧
   ∃ mA,h.Ns1 dx mA∧(∀ f,RelO (fs.lookup f) (mA f))∧PySem.Within mA (fs.map (·.1))
 | .own _=>∃ o,h.get? a=some o
 | .xd fs=>∃ mA,h.Ns1 a mA∧∀ f,RelO (fs.lookup f) (mA f)
 | .rng lo hi=>∃ t u v,h.get? a=some {cls:=.type "range",data:=.fields #[.int lo t,.int hi u,.int 1 v]}
 | .frz o u=>h.get? a=some o∧zbm H h a u
 | .tbl ps=>h.get? a=some {cls:=.none,data:=.fields ps}
 | .met f x=>h.get? a=some (PySem.W.methodObj (.ref f) (.ref x))
 | .ext φ =>φ h∧(∃ o,h.get? a=some o)∧∀ h1 h2:Heap,φ h1→(∀ o,h1.get? a=some o→h2.get? a=some o)→φ h2
noncomputable def HOk (H:Hp) (h:Heap):Prop:=∀ a o,H a=some o→zbm P w H h a o
end
section
variable {P:Program} {w:World} {H H':Hp} {h h':Heap} {a:Addr} {o:HO}
theorem zbm.lt (x:zbm P w H h a o):a < h.objs.size:=by
 cases o with
 | lst xs=>obtain ⟨_,_,_,_,e⟩:=x;exact Heap.lt_size e
 | tup xs=>obtain ⟨_,_,_,p⟩:=x;exact p.lt
 | dK kvs=>obtain ⟨_,_,_,_,o,_,_,e,_⟩:=x;exact Heap.lt_size e
 | dT kvs=>obtain ⟨_,_,_,_,o,_,_,e,_⟩:=x;exact Heap.lt_size e
 | set S n=>obtain ⟨o,_,_,_,e,_⟩:=x;exact Heap.lt_size e
 | ins C dx fs=>obtain ⟨_,_,_,e,_⟩:=x;exact Heap.lt_size e
 | own y=>obtain ⟨_,e⟩:=x;exact Heap.lt_size e
 | xd fs=>obtain ⟨_,⟨_,_,_,e,_⟩,_⟩:=x;exact Heap.lt_size e
 | rng lo hi=>obtain ⟨_,_,_,e⟩:=x;exact Heap.lt_size e
 | frz ob u=>obtain ⟨e,_⟩:=x;exact Heap.lt_size e
 | tbl ps=>exact Heap.lt_size (show h.get? a=some _ from x)
 | met f y=>exact Heap.lt_size (show h.get? a=some _ from x)
 | ext φ =>obtain ⟨_,⟨_,e⟩,_⟩:=x;exact Heap.lt_size e
theorem Paired.mapP {α β :Type}{F G: α→β→Prop}:∀ {l₁ :List α} {l₂ :List β},Paired F l₁ l₂→(∀ a b,F a b→G a b)→Paired G l₁ l₂
 | _,_,.nil,_=>.nil
 | _,_,.cons r t,f=>.cons (f _ _ r) (Paired.mapP t f)
theorem zbm.stay (x:zbm P w H h a o)(k:∀ b u,(b=a∨H b=some (.own a))→h.get? b=some u→h'.get? b=some u)
  (ho:∀ b,H b=some (.own a)→H' b=some (.own a)) (ht:∀ b xs,RdT H b xs→RdT H' b xs):zbm P w H' h' a o:=by
 induction o with
 | lst xs=>obtain ⟨z,its,n,r,e⟩:=x;exact ⟨z,its,n,r,k _ _ (.inl rfl) e⟩
 | tup xs=>obtain ⟨z,its,r,ob,e,c⟩:=x;exact ⟨z,its,r,ob,k _ _ (.inl rfl) e,c⟩
 | dK kvs=>obtain ⟨z,y,vs,r,ob,es,ep,e,c⟩:=x;exact ⟨z,y,vs,r,ob,es,ep,k _ _ (.inl rfl) e,c⟩
 | dT kvs=>
  obtain ⟨z,y,xs,r,ob,es,ep,e,c⟩:=x
  exact ⟨z,y,xs,Paired.mapP r fun p q z=>⟨z.1,ht _ _ z.2.1,z.2.2⟩,ob,es,ep,k _ _ (.inl rfl) e,c⟩
 | set S n=>obtain ⟨ob,es,ep,t,e,c⟩:=x;exact ⟨ob,es,ep,t,k _ _ (.inl rfl) e,c⟩
 | ins C dx fs=>
  obtain ⟨d,z,ne,e,mA,⟨od,es,ep,e2,c⟩,r⟩:=x
  exact ⟨ho _ d,z,ne,k _ _ (.inl rfl) e,mA,⟨od,es,ep,k _ _ (.inr d) e2,c⟩,r⟩
 | own y=>obtain ⟨ob,e⟩:=x;exact ⟨ob,k _ _ (.inl rfl) e⟩
 | xd fs=>obtain ⟨mA,⟨od,es,ep,e,c⟩,r⟩:=x;exact ⟨mA,⟨od,es,ep,k _ _ (.inl rfl) e,c⟩,r⟩
 | rng lo hi=>obtain ⟨t,u,v,e⟩:=x;exact ⟨t,u,v,k _ _ (.inl rfl) e⟩
 | frz ob u ih=>obtain ⟨e,q⟩:=x;exact ⟨k _ _ (.inl rfl) e,ih q⟩
 | tbl ps=>
  have e:h.get? a=some {cls:=.none,data:=.fields ps}:=x
  show h'.get? a=some {cls:=.none,data:=.fields ps}
  exact k a _ (.inl rfl) e
 | met f y=>
  have e:h.get? a=some (PySem.W.methodObj (.ref f) (.ref y)):=x
  show h'.get? a=some (PySem.W.methodObj (.ref f) (.ref y))
  exact k a _ (.inl rfl) e
 | ext φ =>obtain ⟨p,⟨o,e⟩,st⟩:=x;exact ⟨st _ _ p fun o q=>k _ _ (.inl rfl) q,⟨o,k _ _ (.inl rfl) e⟩,st⟩
theorem HOk.lt (x:HOk P w H h)(e:H a=some o):a < h.objs.size:=(x a o e).lt
theorem HOk.fresh (x:HOk P w H h)(e:h.objs.size≤a):H a=none:=by
 cases q:H a with
 | none=>rfl
 | some u=>exact absurd (Nat.lt_of_lt_of_le (x.lt q) e) (Nat.lt_irrefl _)
theorem HOk.kept (x:HOk P w H h)(k:∀ b u,h.get? b=some u→h'.get? b=some u):HOk P w H h':=fun a o e=>
 (x a o e).stay (fun b u _ q=>k b u q) (fun _ q=>q) fun _ _ q=>q
theorem HOk.laid (x:HOk P w H h)(k:∀ b u,h.get? b=some u→h'.get? b=some u)(hp:h.objs.size≤a)(new:zbm P w (upd H a o) h' a o):HOk P w (upd H a o) h':=fun b u e=>by
 have hn:=x.fresh hp
 by_cases hb:b=a
 ·subst hb;rw [zab] at e;cases e;exact new
 ·rw [zai hb] at e
  exact (x b u e).stay (fun c v _ q=>k c v q) (fun c q=>by rw [zai (zal q hn)];exact q) fun c xs q=>q.upd hn
end
noncomputable def Rd (H:Hp) (a:Addr) (u:HO):Prop:=H a=some u∨∃ o,H a=some (.frz o u)
theorem Rd.ok {P:Program}{w:World}{H:Hp}{h:Heap}{a:Addr}{u:HO}(r:Rd H a u)(x:HOk P w H h):zbm P w H h a u:=by
 rcases r with r | ⟨o,r⟩
 ·exact x a u r
 ·obtain ⟨_,q⟩:=x a _ r
  exact q
noncomputable def Mut:Option HO→Prop
 | some (.lst _)=>True
 | some (.dK _)=>True
 | some (.dT _)=>True
 | some (.set _ _)=>True
 | some (.ins _ _ _)=>True
 | some (.ext _)=>True
 | _=>False
section
variable {P:Program} {w:World} {H:Hp} {h h':Heap} {x e:Addr} {o':HO}
theorem HOk.write (ok:HOk P w H h)(mu:Mut (H x))(he:e=x∨H e=some (.own x))(k:∀ b u,b≠e→h.get? b=some u→h'.get? b=some u)(heo:∃ u,h'.get? e=some u)
  (new:zbm P w (upd H x o') h' x o'):HOk P w (upd H x o') h':=fun b u q=>by
 have nown:∀ c y,H c=some (.own y)→c≠x:=fun c y r z=>by subst z;rw [r] at mu;exact mu
 have ntup:∀ c xs,RdT H c xs→c≠x:=fun c xs r z=>by subst z;rcases r with r | ⟨_,r⟩ <;> (rw [r] at mu;exact mu)
 by_cases hb:b=x
 ·subst hb;rw [zab] at q;cases q;exact new
 ·rw [zai hb] at q
  by_cases hbe:b=e
  ·have q':H b=some (.own x):=by
    rcases he with z | z
    ·exact absurd (hbe.trans z) hb
    ·rw [hbe];exact z
   rw [q] at q';cases q'
   obtain ⟨v,hv⟩:=heo
   exact ⟨v,by rw [hbe];exact hv⟩
  ·refine (ok b u q).stay (fun c v hc r=>k c v ?_ r) (fun c r=>by rw [zai (nown c b r)];exact r) fun c xs r=>r.put (ntup c xs r)
   rcases hc with rfl | hc
   ·exact hbe
   ·rintro rfl
    rcases he with z | z
    ·exact nown c b hc z
    ·rw [hc] at z;cases z;exact hb rfl
end
structure Un (fs ex:List Addr) (H H':Hp) (h h':Heap):Prop where
 keep:∀ b o,h.get? b=some o→H b=none→b∉fs→b∉ex→h'.get? b=some o
 slot:∀ b o,h.get? b=some o→H b=none→b∈fs→b∉ex→∃ sl,h'.get? b=some {o with slots:=sl}
 free:∀ b o,h.get? b=some o→H b=none→b∉ex→H' b=none
 there:∀ b o,h.get? b=some o→b∉ex→∃ o',h'.get? b=some o'
 tups:∀ b xs,H b=some (.tup xs)→H' b=some (.tup xs)
 frzs:∀ b o u,H b=some (.frz o u)→H' b=some (.frz o u)
 tbls:∀ b ps,H b=some (.tbl ps)→∃ more,H' b=some (.tbl (ps++more))
section
variable {fs fs' ex ex':List Addr} {H H1 H2:Hp} {h h1 h2 h':Heap} {a x e:Addr} {o:HO}
theorem Un.any (u:Un fs ex H H1 h h1){b:Addr}{ob:Obj}(q:h.get? b=some ob)(n:H b=none)(hx:b∉ex):∃ sl,h1.get? b=some {ob with slots:=sl}:=by
 by_cases hb:b∈fs
 ·exact u.slot b ob q n hb hx
 ·exact ⟨ob.slots,u.keep b ob q n hb hx⟩
theorem Un.kept (k:∀ b u,h.get? b=some u→h'.get? b=some u):Un fs ex H H h h':=
 ⟨fun b ob q _ _ _=>k b ob q,fun b ob q _ _ _=>⟨ob.slots,k b ob q⟩,fun _ _ _ n _=>n,fun b ob q _=>⟨ob,k b ob q⟩,fun _ _ q=>q,fun _ _ _ q=>q,fun _ ps q=>⟨#[],by rw [q];simp⟩⟩
theorem Un.refl:Un fs ex H H h h:=Un.kept fun _ _ q=>q
theorem Un.laid (k:∀ b u,h.get? b=some u→h'.get? b=some u)(hp:h.objs.size≤a)(hn:H a=none):Un fs ex H (upd H a o) h h' where
 keep:=fun b u q _ _ _=>k b u q
 slot:=fun b u q _ _ _=>⟨u.slots,k b u q⟩
 free:=fun b u q n _=>by rw [zai (Nat.ne_of_lt (Nat.lt_of_lt_of_le (Heap.lt_size q) hp))];exact n
 there:=fun b u q _=>⟨u,k b u q⟩
 tups:=fun b xs q=>by rw [zai (zal q hn)];exact q
 frzs:=fun b u xs q=>by rw [zai (zal q hn)];exact q
 tbls:=fun b ps q=>⟨#[],by rw [zai (zal q hn),q];simp⟩
theorem Un.write (mu:Mut (H x))(he:e=x∨H e=some (.own x))(k:∀ b u,b≠e→h.get? b=some u→h'.get? b=some u)(heo:∃ u,h'.get? e=some u):Un fs ex H (upd H x o) h h':=by
 have hx:∀ b,H b=none→b≠x:=fun b n z=>by subst z;rw [n] at mu;exact mu
 have hb:∀ b,H b=none→b≠e:=fun b n z=>by
  subst z
  rcases he with r | r
  ·exact hx b n r
  ·rw [n] at r;cases r
 have hm:∀ b u,H b=some u→¬Mut (some u)→b≠x:=fun b u q nm z=>by subst z;rw [q] at mu;exact nm mu
 refine ⟨fun b u q n _ _=>k b u (hb b n) q,fun b u q n _ _=>⟨u.slots,k b u (hb b n) q⟩,fun b u q n _=>by rw [zai (hx b n)];exact n,fun b u q _=>?_,
  fun b xs q=>by rw [zai (hm b _ q fun z=>z)];exact q,fun b u xs q=>by rw [zai (hm b _ q fun z=>z)];exact q,fun b ps q=>⟨#[],by rw [zai (hm b _ q fun z=>z),q];simp⟩⟩
 by_cases hbe:b=e
 ·subst hbe;exact heo
 ·exact ⟨u,k b u hbe q⟩
end
noncomputable def trk (h:Heap) (H:Hp):List Addr:=(List.range h.objs.size).filter fun a=>(H a).isSome
noncomputable def hidT (h:Heap) (H:Hp):Heap:=PySem.W.hideAll h (trk h H)
theorem zko (h:Heap)(H:Hp):(hidT h H).objs.size=h.objs.size:=PySem.W.hideAll_size _ _
theorem zkP {h:Heap}{H:Hp}{b:Addr}{o:Obj}(e:h.get? b=some o)(n:H b=none):(hidT h H).get? b=some o:=
 PySem.W.hideAll_get _ e fun hm=>by
  have q:(H b).isSome=true:=(List.mem_filter.mp hm).2
  rw [n] at q;simp at q
theorem zmQ {h:Heap}{H:Hp}{b:Addr}{o:Obj}(e:(hidT h H).get? b=some o):h.get? b=some o∧H b=none:=by
 have e':h.get? b=some o:=PySem.W.of_hideAll (trk h H) e
 refine ⟨e',?_⟩
 cases q:H b with
 | none=>rfl
 | some x=>
  have hm:b∈trk h H:=List.mem_filter.mpr ⟨List.mem_range.mpr (Heap.lt_size e'),by simp [q]⟩
  have z:(hidT h H).get? b=none:=PySem.W.hideAll_none (trk h H) hm
  rw [z] at e;cases e
noncomputable def zl3 (g h:Heap) (L:Addr):List (Addr×Obj):=(List.range h.objs.size).filterMap fun a=>if a=L∨(g.get? a).isSome=true then none else (h.get? a).map fun o=>(a,o)
noncomputable def rest (g h:Heap) (L d:Addr):List (Addr×Obj):=(zl3 g h L).filter fun p=>decide (p.1≠d)
end L2
namespace L2
open PySem PySem.Spec PyProof.Rows
structure Mod (K:PySem.W.Frag) (mg:Str→Option Value) (base:Heap):Prop where
 kin:K.In base
 glob:base.Ns mainGlobals mg
 blt:∃ mb,base.Ns builtinsNs mb∧∀ x:Str,x≠"__name__"→mb x=bootBuiltins x
 nolimit:base.NoLimit
structure Cx where
 prog:Program
 w:World
 K:PySem.W.Frag
 mg:Str→Option Value
 base:Heap
 A:Around
 N:List Str
 s₀ :Shared
 H₀ :Hp
 env:Env
 outer:List Env
 stack:List Env
 ex:List Addr
 fn:Str→Bool
 calm:Bool
 pn:List (Addr×Obj)
 xe:Value→Shared→Prop
noncomputable def frs (l:List Env):List Addr:=l.filterMap (·.frame)
noncomputable abbrev Cx.fs (X:Cx):List Addr:=frs X.outer
noncomputable def Vis (sc:Scope) (x:Str):Prop:=sc.names.lookup x=some .local∨sc.names.lookup x=some .cell∨sc.names.lookup x=some .free
noncomputable def Loc (sc:Scope) (x:Str):Prop:=sc.names.lookup x=some .local∨sc.names.lookup x=some .cell
noncomputable def Look (env:Env) (h:Heap) (m:Str→Option Value) (x:Str) (u:Value):Prop:=
 (env.kindOf x=some .local∧m x=some u)∨((env.kindOf x=some .cell∨env.kindOf x=some .free)∧∃ c,env.cells.lookup x=some c∧h.IsCell c (some u))
structure Cx.Ok (X:Cx):Prop where
 mod:Mod X.K X.mg X.base
 kind:X.env.scope.kind= .function
 glob:X.env.globals=mainGlobals
 blt:X.env.builtins=builtinsNs
 above:X.s₀.heap.objs.size≤X.env.locals
 inj:∀ x y c,X.env.cells.lookup x=some c→X.env.cells.lookup y=some c→x=y
 has:∀ x,(X.env.kindOf x=some .cell∨X.env.kindOf x=some .free)→∃ c,X.env.cells.lookup x=some c
 cab:∀ x c,X.fn x=true→X.env.cells.lookup x=some c→X.s₀.heap.objs.size≤c
 hd:X.calm=true→X.A.handled=none
 frames:X.A.frames=some X.stack
 stk:X.stack=X.outer∨(X.stack=X.env::X.outer∧X.env.frame=some X.env.locals)
 exf:∀ b∈X.ex,b≠X.env.locals∧∀ x c,X.env.cells.lookup x=some c→c≠b
 bs:∀ b o,X.base.get? b=some o→X.s₀.heap.get? b=some o∧X.H₀ b=none
 bsz:X.base.objs.size≤X.s₀.heap.objs.size
 noex:∀ b o,X.base.get? b=some o→b∉X.ex
 exfs:∀ b∈X.ex,b∉X.fs
 funs:X.s₀.heap.FunFrames X.base X.outer
 frf:∀ b∈X.fs,X.H₀ b=none
structure Inv (X:Cx) (pins:List (Addr×Obj)) (σ :List (Option V)) (H:Hp) (s:Shared):Prop where
 ok:X.Ok
 os:s.os=X.s₀.os
 bare:AllBare s.gens
 base:Un X.fs X.ex X.H₀ H X.s₀.heap s.heap
 loc:∃ m,s.heap.Ns X.env.locals m∧∀ (i:Nat) (x:Str) (v:V),X.N[i]? =some x→σ[i]? =some (some v)→Vis X.env.scope x→∃ u,RelV v u∧Look X.env s.heap m x u
 cell:∀ x c,X.env.cells.lookup x=some c→∃ v,s.heap.IsCell c v
 free:H X.env.locals=none
 freeC:∀ x c,X.env.cells.lookup x=some c→H c=none
 pin:∀ p∈X.pn++pins,s.heap.get? p.1=some p.2∧H p.1=none∧p.1≠X.env.locals∧p.1∉X.fs∧∀ v,p.2.data≠.cell v
 hok:HOk X.prog X.w H s.heap
 len: σ.length=X.N.length
section
variable {X:Cx} {pins:List (Addr×Obj)} {σ :List (Option V)} {H H':Hp} {s:Shared} {h':Heap}
theorem Cx.Ok.nofr (ok:X.Ok){b:Addr}{o:Obj}(e:X.base.get? b=some o):b∉X.fs:=fun hb=>by
 have:=(ok.funs.mem hb).1
 rw [e] at this;cases this
theorem Inv.bs (I:Inv X pins σ H s):∀ b o,X.base.get? b=some o→s.heap.get? b=some o∧H b=none:=fun b o e=>
 ⟨I.base.keep b o (I.ok.bs b o e).1 (I.ok.bs b o e).2 (I.ok.nofr e) (I.ok.noex b o e),I.base.free b o (I.ok.bs b o e).1 (I.ok.bs b o e).2 (I.ok.noex b o e)⟩
theorem Inv.bk (I:Inv X pins σ H s):∀ b o,X.base.get? b=some o→s.heap.get? b=some o:=fun b o e=>(I.bs b o e).1
theorem Inv.mod (I:Inv X pins σ H s):Mod X.K X.mg X.base:=I.ok.mod
theorem Inv.kIn (I:Inv X pins σ H s):X.K.In s.heap:=I.ok.mod.kin.keeps I.bk
theorem Inv.lt (I:Inv X pins σ H s):X.env.locals < s.heap.objs.size:=let ⟨_,hn,_⟩:=I.loc;hn.lt
theorem Inv.sz (I:Inv X pins σ H s):X.s₀.heap.objs.size≤s.heap.objs.size:=Nat.le_trans I.ok.above (Nat.le_of_lt I.lt)
theorem Inv.nofs (I:Inv X pins σ H s){a:Addr}(h:s.heap.objs.size≤a):a∉X.fs:=fun hb=>by
 obtain ⟨_,o,ho,_⟩:=I.ok.funs.mem hb
 exact absurd (Nat.lt_of_lt_of_le (Heap.lt_size ho) (Nat.le_trans I.sz h)) (Nat.lt_irrefl _)
theorem Inv.cne (I:Inv X pins σ H s):∀ x c,X.env.cells.lookup x=some c→c≠X.env.locals:=fun x c e z=>by
 obtain ⟨v,o,ho,hd⟩:=I.cell x c e
 obtain ⟨m,⟨o',es,ep,ho',hd',_⟩,_⟩:=I.loc
 rw [z,ho'] at ho;cases ho;rw [hd'] at hd;cases hd
theorem Inv.funs (I:Inv X pins σ H s):s.heap.FunFrames X.base X.outer:=by
 have all:∀ (l:List Env),(∀ b∈frs l,b∈X.fs)→X.s₀.heap.FunFrames X.base l→s.heap.FunFrames X.base l:=by
  intro l
  induction l with
  | nil=>intro _ _;trivial
  | cons env r ih=>
   intro hs hl
   obtain ⟨hk,⟨L,o,hf,hn,ho,hd⟩,hr⟩:=hl
   have hL:L∈X.fs:=hs L (by unfold frs;rw [List.filterMap_cons,hf];exact List.mem_cons_self)
   obtain ⟨sl,e⟩:=I.base.slot L o ho (I.ok.frf L hL) hL fun z=>I.ok.exfs L z hL
   exact ⟨hk,⟨L,_,hf,hn,e,hd⟩,ih (fun b hb=>hs b (by unfold frs;rw [List.filterMap_cons,hf];exact List.mem_cons_of_mem _ hb)) hr⟩
 exact all X.outer (fun _ hb=>hb) I.ok.funs
theorem Inv.stack (I:Inv X pins σ H s):s.heap.FunFrames X.base X.stack:=by
 rcases I.ok.stk with e | ⟨e,hf⟩
 ·rw [e];exact I.funs
 ·rw [e]
  obtain ⟨m,hn,_⟩:=I.loc
  refine .cons (by rw [I.ok.kind];decide) hf hn ?_ I.funs
  exact Heap.get?_none_of_le (Nat.le_trans I.ok.bsz I.ok.above)
theorem Inv.stkSub (I:Inv X pins σ H s):∀ b∈frs X.stack,b∈X.env.locals::X.fs:=fun b hb=>by
 rcases I.ok.stk with e | ⟨e,hf⟩
 ·rw [e] at hb;exact List.mem_cons_of_mem _ hb
 ·rw [e] at hb
  unfold frs at hb
  rw [List.filterMap_cons,hf] at hb
  exact hb
theorem Inv.stkFree (I:Inv X pins σ H s):∀ b∈frs X.stack,H b=none:=fun b hb=>by
 rcases List.mem_cons.mp (I.stkSub b hb) with e | hb
 ·rw [e];exact I.free
 ·obtain ⟨_,o,ho,_⟩:=I.ok.funs.mem hb
  exact I.base.free b o ho (I.ok.frf b hb) fun z=>I.ok.exfs b z hb
theorem Inv.step {g':Array GenState}{t':Nat}{d':Drawn}{ch:List Addr}(I:Inv X pins σ H s)
  (hch:∀ b∈ch,(b∈X.ex∨X.s₀.heap.objs.size≤b)∧b≠X.env.locals∧(∀ x c,X.env.cells.lookup x=some c→c≠b)∧∀ p∈X.pn++pins,p.1≠b)
  (keep:∀ b o,b≠X.env.locals→b∉X.fs→b∉ch→s.heap.get? b=some o→H b=none→h'.get? b=some o)
  (slot:∀ b o,b≠X.env.locals→b∈X.fs→b∉ch→s.heap.get? b=some o→H b=none→∃ sl,h'.get? b=some {o with slots:=sl}) (free:∀ b o,b∉ch→s.heap.get? b=some o→H b=none→H' b=none)
  (there:∀ b o,b∉ch→s.heap.get? b=some o→∃ o',h'.get? b=some o')
  (tups:∀ b xs,H b=some (.tup xs)→H' b=some (.tup xs)) (frzs:∀ b o u,H b=some (.frz o u)→H' b=some (.frz o u)) (tbls:∀ b ps,H b=some (.tbl ps)→∃ more,H' b=some (.tbl (ps++more)))
  (ns:∀ m,s.heap.Ns X.env.locals m→h'.Ns X.env.locals m) (hok:HOk X.prog X.w H' h') (hg:AllBare g'):
  Inv X pins σ H' {s with heap:=h',gens:=g',drawn:=d',toks:=t'}:=by
 have neL:∀ b o,X.s₀.heap.get? b=some o→b≠X.env.locals:=fun b o e=>Nat.ne_of_lt (Nat.lt_of_lt_of_le (Heap.lt_size e) I.ok.above)
 have neC:∀ b o,X.s₀.heap.get? b=some o→b∉X.ex→b∉ch:=fun b o e hx hb=>by
  rcases (hch b hb).1 with z | z
  ·exact hx z
  ·exact absurd (Nat.lt_of_lt_of_le (Heap.lt_size e) z) (Nat.lt_irrefl _)
 have cellK:∀ x c,X.env.cells.lookup x=some c→∀ v,s.heap.IsCell c v→h'.IsCell c v:=fun x c e v ⟨o,ho,hd⟩=>by
  have nch:c∉ch:=fun z=>(hch c z).2.2.1 x c e rfl
  by_cases hc:c∈X.fs
  ·obtain ⟨sl,q⟩:=slot c o (I.cne x c e) hc nch ho (I.freeC x c e)
   exact ⟨_,q,hd⟩
  ·exact ⟨o,keep c o (I.cne x c e) hc nch ho (I.freeC x c e),hd⟩
 refine ⟨I.ok,I.os,hg,⟨fun b o e n hb hx=>?_,fun b o e n hb hx=>?_,fun b o e n hx=>?_,fun b o e hx=>?_,fun b xs e=>tups b xs (I.base.tups b xs e),fun b o xs e=>frzs b o xs (I.base.frzs b o xs e),fun b ps e=>?_⟩,?_,fun x c e=>?_,?_,fun x c e=>?_,fun p hp=>?_,hok,I.len⟩
 ·exact keep b o (neL b o e) hb (neC b o e hx) (I.base.keep b o e n hb hx) (I.base.free b o e n hx)
 ·obtain ⟨sl,e1⟩:=I.base.slot b o e n hb hx
  obtain ⟨sl',e2⟩:=slot b _ (neL b o e) hb (neC b o e hx) e1 (I.base.free b o e n hx)
  exact ⟨sl',e2⟩
 ·obtain ⟨o',e1⟩:=I.base.there b o e hx
  exact free b o' (neC b o e hx) e1 (I.base.free b o e n hx)
 ·obtain ⟨o',e1⟩:=I.base.there b o e hx
  exact there b o' (neC b o e hx) e1
 ·obtain ⟨m1,e1⟩:=I.base.tbls b ps e
  obtain ⟨m2,e2⟩:=tbls b _ e1
  exact ⟨m1++m2,by rw [e2,Array.append_assoc]⟩
 ·obtain ⟨m,hn,hl⟩:=I.loc
  refine ⟨m,ns m hn,fun i x v e1 e2 e3=>?_⟩
  obtain ⟨u,r,l⟩:=hl i x v e1 e2 e3
  refine ⟨u,r,?_⟩
  rcases l with l | ⟨k,c,e,z⟩
  ·exact .inl l
  ·exact .inr ⟨k,c,e,cellK x c e _ z⟩
 ·obtain ⟨v,z⟩:=I.cell x c e
  exact ⟨v,cellK x c e v z⟩
 ·obtain ⟨m,⟨o,_,_,ho,_⟩,_⟩:=I.loc
  exact free _ o (fun z=>(hch _ z).2.1 rfl) ho I.free
 ·obtain ⟨v,o,ho,hd⟩:=I.cell x c e
  exact free c o (fun z=>(hch c z).2.2.1 x c e rfl) ho (I.freeC x c e)
 ·obtain ⟨e,n,ne,nf,d⟩:=I.pin p hp
  have nch:p.1∉ch:=fun z=>(hch p.1 z).2.2.2 p hp rfl
  exact ⟨keep p.1 p.2 ne nf nch e n,free p.1 p.2 nch e n,ne,nf,d⟩
theorem Inv.un {t':Nat}(I:Inv X pins σ H s)(u:Un X.fs [] H H' s.heap h')(hok:HOk X.prog X.w H' h'):Inv X pins σ H' {s with heap:=h',toks:=t'}:=by
 obtain ⟨m,⟨o,es,ep,ho,r⟩,_⟩:=id I.loc
 obtain ⟨sl,hL⟩:=u.any ho I.free (by simp)
 exact I.step (g':=s.gens) (d':=s.drawn) (ch:=[]) (fun _ z=>nomatch z) (fun b o _ hb _ e n=>u.keep b o e n hb (by simp)) (fun b o _ hb _ e n=>u.slot b o e n hb (by simp)) (fun b o _ e n=>u.free b o e n (by simp)) (fun b o _ e=>u.there b o e (by simp)) u.tups u.frzs u.tbls (fun m' hm=>by
  obtain ⟨o',es',ep',ho',r'⟩:=hm
  rw [ho] at ho';cases ho'
  exact ⟨_,es',ep',hL,r'⟩) hok I.bare
theorem Inv.call {g':Array GenState}{t':Nat}{d':Drawn}{ch:List Addr}(I:Inv X pins σ H s)(u:Un (frs X.stack) ch H H' s.heap h')(hok:HOk X.prog X.w H' h')(hg:AllBare g')
  (hch:∀ b∈ch,(b∈X.ex∨X.s₀.heap.objs.size≤b)∧b≠X.env.locals∧(∀ x c,X.env.cells.lookup x=some c→c≠b)∧∀ p∈X.pn++pins,p.1≠b):
  Inv X pins σ H' {s with heap:=h',gens:=g',drawn:=d',toks:=t'}:=by
 obtain ⟨m,⟨o,es,ep,ho,r⟩,_⟩:=id I.loc
 obtain ⟨sl,hL⟩:=u.any ho I.free fun z=>(hch _ z).2.1 rfl
 exact I.step (ch:=ch) hch (fun b o hL hb hc e n=>u.keep b o e n (fun z=>(List.mem_cons.mp (I.stkSub b z)).elim hL hb) hc) (fun b o _ _ hc e n=>u.any e n hc) (fun b o hc e n=>u.free b o e n hc) (fun b o hc e=>u.there b o e hc) u.tups u.frzs u.tbls (fun m' hm=>by
  obtain ⟨o',es',ep',ho',r'⟩:=hm
  rw [ho] at ho';cases ho'
  exact ⟨_,es',ep',hL,r'⟩) hok hg
theorem Inv.turned {t':Nat}{it:Addr}(I:Inv X pins σ H s)(k:∀ b o,b≠it→s.heap.get? b=some o→h'.get? b=some o)(hn:H it=none)(hL:it≠X.env.locals)
  (h1:it∈X.ex∨X.s₀.heap.objs.size≤it) (h2:∀ x c,X.env.cells.lookup x=some c→c≠it) (h3:∀ p∈X.pn++pins,p.1≠it):Inv X pins σ H {s with heap:=h',toks:=t'}:=by
 have nit:∀ b u,H b=some u→b≠it:=fun b u e z=>by rw [z,hn] at e;cases e
 refine I.step (g':=s.gens) (d':=s.drawn) (ch:=[it]) (fun b hb=>?_) (fun b o _ _ hc e _=>k b o (fun z=>hc (by simp [z])) e) (fun b o _ _ hc e _=>⟨o.slots,k b o (fun z=>hc (by simp [z])) e⟩) (fun _ _ _ _ n=>n)
  (fun b o hc e=>⟨o,k b o (fun z=>hc (by simp [z])) e⟩) (fun _ _ e=>e) (fun _ _ _ e=>e) (fun b ps e=>⟨#[],by rw [e];simp⟩) (fun m hm=>?_) (fun b u e=>?_) I.bare
 ·have e:b=it:=by simpa using hb
  subst e
  exact ⟨h1,hL,h2,h3⟩
 ·obtain ⟨o,es,ep,ho,r⟩:=hm
  exact ⟨o,es,ep,k _ o (Ne.symm hL) ho,r⟩
 ·refine (I.hok b u e).stay (fun c v hc q=>k c v ?_ q) (fun _ q=>q) fun _ _ q=>q
  rcases hc with z | z
  ·rw [z];exact nit b u e
  ·exact nit c _ z
theorem Inv.tok (I:Inv X pins σ H s)(t:Nat):Inv X pins σ H {s with toks:=t}:=I.un (h':=s.heap) (t':=t) Un.refl I.hok
theorem Inv.kept {t':Nat}(I:Inv X pins σ H s)(k:∀ b u,s.heap.get? b=some u→h'.get? b=some u):Inv X pins σ H {s with heap:=h',toks:=t'}:=I.un (Un.kept k) (I.hok.kept k)
theorem Inv.laid {a:Addr}{o:HO}{t':Nat}(I:Inv X pins σ H s)(k:∀ b u,s.heap.get? b=some u→h'.get? b=some u)(hp:s.heap.objs.size≤a)(new:zbm X.prog X.w (upd H a o) h' a o):
  Inv X pins σ (upd H a o) {s with heap:=h',toks:=t'}:=I.un (Un.laid k hp (I.hok.fresh hp)) (I.hok.laid k hp new)
theorem Inv.write {x e:Addr}{o:HO}{t':Nat}(I:Inv X pins σ H s)(mu:Mut (H x))(he:e=x∨H e=some (.own x))(k:∀ b u,b≠e→s.heap.get? b=some u→h'.get? b=some u)(heo:∃ u,h'.get? e=some u)
  (new:zbm X.prog X.w (upd H x o) h' x o):Inv X pins σ (upd H x o) {s with heap:=h',toks:=t'}:=I.un (Un.write mu he k heo) (I.hok.write mu he k heo new)
theorem Inv.weak {σ':List (Option V)}(I:Inv X pins σ H s)(hl: σ'.length= σ.length)(w:∀ (i:Nat) v,σ'[i]? =some (some v)→σ[i]? =some (some v)):Inv X pins σ' H s:=
 ⟨I.ok,I.os,I.bare,I.base,let ⟨m,hn,hl'⟩:=I.loc;⟨m,hn,fun i x v e1 e2 e3=>hl' i x v e1 (w i v e2) e3⟩,I.cell,I.free,I.freeC,I.pin,I.hok,hl.trans I.len⟩
theorem Inv.pins_of {pins':List (Addr×Obj)}(I:Inv X pins σ H s)(h:∀ p∈pins',s.heap.get? p.1=some p.2∧H p.1=none∧p.1≠X.env.locals∧p.1∉X.fs∧∀ v,p.2.data≠.cell v):Inv X pins' σ H s:=
 ⟨I.ok,I.os,I.bare,I.base,I.loc,I.cell,I.free,I.freeC,fun p hp=>(List.mem_append.mp hp).elim (fun z=>I.pin p (List.mem_append_left _ z)) (h p),I.hok,I.len⟩
theorem zgs {N:List Str}(hN:N.Nodup){i j:Nat}{x:Str}(a:N[i]? =some x)(b:N[j]? =some x):i=j:=by
 obtain ⟨h1,e1⟩:=List.getElem?_eq_some_iff.mp a
 obtain ⟨h2,e2⟩:=List.getElem?_eq_some_iff.mp b
 exact (List.getElem_inj hN).mp (e1.trans e2.symm)
theorem zhe {M:Model}{A:Around}{E:Value→Shared→Prop}{i:Nat}{x:Str}{v:V}{u:Value}{Q:Unit→Shared→Prop}(I:Inv X pins σ H s)(hN:X.N.Nodup)(hi:X.N[i]? =some x)(hx:Loc X.env.scope x)(r:RelV v u)
  (h:∀ s',Inv X pins (σ.set i (some v)) H s'→(∃ a,Heap.SameBut a s.heap s'.heap∧(a=X.env.locals∨X.env.cells.lookup x=some a))→Q () s') (hf:X.fn x=true∨X.env.scope.names.lookup x=some .local:=by first | exact .inl rfl | exact .inr rfl | assumption):wpAny M A (storeName X.env x u) Q E s:=by
 obtain ⟨m,hn,hl⟩:=id I.loc
 have hcls:(X.env.scope.kind== .class || (X.env.scope.kind== .module && X.env.locals !=X.env.globals))=false:=by rw [I.ok.kind];rfl
 have hiσ :i < σ.length:=by rw [I.len];exact (List.getElem?_eq_some_iff.mp hi).1
 have cne:=I.cne
 have tracked:∀ {a:Addr} {h':Heap},(∃ o,s.heap.get? a=some o∧H a=none)→Heap.SameBut a s.heap h'→HOk X.prog X.w H h':=fun {a h'} ha hs b ob e=>by
  obtain ⟨_,_,hfree⟩:=ha
  refine (I.hok b ob e).stay (fun c w' hc q=>(hs.2 c ?_).trans q) (fun _ q=>q) fun _ _ q=>q
  rintro rfl
  rcases hc with rfl | hc
  ·rw [hfree] at e;cases e
  ·rw [hfree] at hc;cases hc
 rcases hx with hk | hk
 ·refine wpAny_storeName_local hk hn (fun h' hn' hs=>?_) hcls
  obtain ⟨oL,_,_,hoL,_⟩:=id hn
  refine h _ ⟨I.ok,I.os,I.bare,⟨fun b o e n hb hx=>?_,fun b o e n hb hx=>?_,I.base.free,fun b o e hx=>?_,I.base.tups,I.base.frzs,I.base.tbls⟩,⟨_,hn',fun j y v' e1 e2 e3=>?_⟩,fun y c e=>?_,I.free,I.freeC,fun p hp=>?_,tracked ⟨oL,hoL,I.free⟩ hs,by simpa using I.len⟩ ⟨_,hs,.inl rfl⟩
  ·exact (hs.2 b (Nat.ne_of_lt (Nat.lt_of_lt_of_le (Heap.lt_size e) I.ok.above))).trans (I.base.keep b o e n hb hx)
  ·obtain ⟨sl,e1⟩:=I.base.slot b o e n hb hx
   exact ⟨sl,(hs.2 b (Nat.ne_of_lt (Nat.lt_of_lt_of_le (Heap.lt_size e) I.ok.above))).trans e1⟩
  ·obtain ⟨o',e1⟩:=I.base.there b o e hx
   exact ⟨o',(hs.2 b (Nat.ne_of_lt (Nat.lt_of_lt_of_le (Heap.lt_size e) I.ok.above))).trans e1⟩
  ·by_cases hj:j=i
   ·subst hj
    rw [hi] at e1;cases e1
    rw [List.getElem?_set_self hiσ] at e2
    cases e2
    exact ⟨u,r,.inl ⟨hk,by simp⟩⟩
   ·rw [List.getElem?_set_ne (Ne.symm hj)] at e2
    obtain ⟨u',r',q⟩:=hl j y v' e1 e2 e3
    refine ⟨u',r',?_⟩
    rcases q with ⟨k,e⟩ | ⟨k,c,e,z⟩
    ·refine .inl ⟨k,?_⟩
     have:y≠x:=fun e=>hj (zgs hN e1 (e ▸ hi))
     simp [this,e]
    ·exact .inr ⟨k,c,e,z.sameBut hs (cne y c e)⟩
  ·obtain ⟨w',z⟩:=I.cell y c e
   exact ⟨w',z.sameBut hs (cne y c e)⟩
  ·obtain ⟨e,n,ne,nf,d⟩:=I.pin p hp
   exact ⟨(hs.2 p.1 ne).trans e,n,ne,nf,d⟩
 ·have hfn:X.fn x=true:=by
   rcases hf with z | z
   ·exact z
   ·rw [z] at hk;cases hk
  obtain ⟨c,hc⟩:=I.ok.has x (.inl hk)
  obtain ⟨w',z⟩:=I.cell x c hc
  refine wpAny_storeName_cell I.ok.kind hk hc z (fun h' hc' hs=>?_)
  obtain ⟨oc,hoc,hocd⟩:=id z
  refine h {s with heap:=h'} ⟨I.ok,I.os,I.bare,⟨fun b o e n hb hx=>?_,fun b o e n hb hx=>?_,I.base.free,fun b o e hx=>?_,I.base.tups,I.base.frzs,I.base.tbls⟩,⟨m,hn.sameBut hs (Ne.symm (cne x c hc)),fun j y v' e1 e2 e3=>?_⟩,fun y c' e=>?_,I.free,I.freeC,fun p hp=>?_,tracked ⟨oc,hoc,I.freeC x c hc⟩ hs,by simpa using I.len⟩ ⟨c,hs,.inr hc⟩
  ·exact (hs.2 b (Nat.ne_of_lt (Nat.lt_of_lt_of_le (Heap.lt_size e) (I.ok.cab x c hfn hc)))).trans (I.base.keep b o e n hb hx)
  ·obtain ⟨sl,e1⟩:=I.base.slot b o e n hb hx
   exact ⟨sl,(hs.2 b (Nat.ne_of_lt (Nat.lt_of_lt_of_le (Heap.lt_size e) (I.ok.cab x c hfn hc)))).trans e1⟩
  ·obtain ⟨o',e1⟩:=I.base.there b o e hx
   exact ⟨o',(hs.2 b (Nat.ne_of_lt (Nat.lt_of_lt_of_le (Heap.lt_size e) (I.ok.cab x c hfn hc)))).trans e1⟩
  ·by_cases hj:j=i
   ·subst hj
    rw [hi] at e1;cases e1
    rw [List.getElem?_set_self hiσ] at e2
    cases e2
    exact ⟨u,r,.inr ⟨.inl hk,c,hc,hc'⟩⟩
   ·rw [List.getElem?_set_ne (Ne.symm hj)] at e2
    obtain ⟨u',r',q⟩:=hl j y v' e1 e2 e3
    refine ⟨u',r',?_⟩
    rcases q with q | ⟨k,c',e,z'⟩
    ·exact .inl q
    ·refine .inr ⟨k,c',e,z'.sameBut hs ?_⟩
     rintro rfl
     exact hj (zgs hN e1 (I.ok.inj _ _ _ e hc ▸ hi))
  ·by_cases hcc:c'=c
   ·subst hcc;exact ⟨_,hc'⟩
   ·obtain ⟨w2,z2⟩:=I.cell y c' e
    exact ⟨w2,z2.sameBut hs hcc⟩
  ·obtain ⟨e,n,ne,nf,d⟩:=I.pin p hp
   refine ⟨(hs.2 p.1 ?_).trans e,n,ne,nf,d⟩
   intro q
   rw [q,hoc] at e
   have q':oc=p.2:=Option.some.inj e
   exact d w' (by rw [← q'];exact hocd)
theorem zf9 {M:Model}{A:Around}{E:Value→Shared→Prop}{i:Nat}{x:Str}{v:V}{u:Value}{Q:Unit→Shared→Prop}(I:Inv X pins σ H s)(hN:X.N.Nodup)(hi:X.N[i]? =some x)(hx:Loc X.env.scope x)(r:RelV v u)
  (h:∀ s',Inv X pins (σ.set i (some v)) H s'→Q () s') (hf:X.fn x=true∨X.env.scope.names.lookup x=some .local:=by first | exact .inl rfl | exact .inr rfl | assumption):wpAny M A (storeName X.env x u) Q E s:=
 zhe I hN hi hx r (fun s' I' _=>h s' I') hf
theorem Inv.call' {s':Shared}{ch:List Addr}(I:Inv X pins σ H s)(ho:s'.os=s.os)(u:Un (frs X.stack) ch H H' s.heap s'.heap)(hok:HOk X.prog X.w H' s'.heap)(hg:AllBare s'.gens)
  (hch:∀ b∈ch,(b∈X.ex∨X.s₀.heap.objs.size≤b)∧b≠X.env.locals∧(∀ x c,X.env.cells.lookup x=some c→c≠b)∧∀ p∈X.pn++pins,p.1≠b):Inv X pins σ H' s':=by
 obtain ⟨h',g',d',t',o'⟩:=s'
 have e:o'=s.os:=ho
 subst e
 exact I.call (g':=g') (t':=t') (d':=d') u hok hg hch
end
noncomputable abbrev XK:=Value→Option Addr→Hp→Prop
noncomputable abbrev St:=List (Option V)
noncomputable abbrev VK:=V→Hp→Prop
noncomputable abbrev TE:=St→Hp→VK→Prop
noncomputable abbrev TT:=St→Hp→(Bool→Hp→Prop)→Prop
noncomputable abbrev TA:=St→Hp→(List V→Hp→Prop)→Prop
structure Ends where
 nx:St→Hp→Prop
 rt:VK
 bk:St→Hp→Prop:=fun _ _=>False
 ct:St→Hp→Prop:=fun _ _=>False
noncomputable abbrev TS:=Ends→St→Hp→Prop
noncomputable def EP (X:Cx) (pins:List (Addr×Obj)) (σ :St) (Q:VK) (u:Value) (s':Shared):Prop:=∃ v H',Inv X pins σ H' s'∧RelV v u∧Q v H'
noncomputable def TP (X:Cx) (pins:List (Addr×Obj)) (σ :St) (Q:Bool→Hp→Prop) (b:Bool) (s':Shared):Prop:=∃ H',Inv X pins σ H' s'∧Q b H'
noncomputable def AP (X:Cx) (pins:List (Addr×Obj)) (σ :St) (Q:List V→Hp→Prop) (us:List Value) (s':Shared):Prop:=∃ vs H',Inv X pins σ H' s'∧Vals vs us∧Q vs H'
noncomputable def SP (X:Cx) (pins:List (Addr×Obj)) (D:Ends) (f:Flow) (s':Shared):Prop:=
 match f with
 | .next=>∃ σ' H',Inv X pins σ' H' s'∧D.nx σ' H'
 | .brk=>∃ σ' H',Inv X pins σ' H' s'∧D.bk σ' H'
 | .cont=>∃ σ' H',Inv X pins σ' H' s'∧D.ct σ' H'
 | .ret u=>∃ v σ' H',Inv X pins σ' H' s'∧RelV v u∧D.rt v H'
noncomputable def PE (X:Cx) (e:Expr) (t:TE):Prop:=
 ∀ (pins:List (Addr×Obj)) (s:Shared) (σ :St) (H:Hp) (Q:VK),Inv X pins σ H s→t σ H Q→wpAny (model X.prog X.w) X.A (eval e X.env) (EP X pins σ Q) X.xe s
noncomputable def PT (X:Cx) (e:Expr) (t:TT):Prop:=
 ∀ (pins:List (Addr×Obj)) (s:Shared) (σ :St) (H:Hp) (Q:Bool→Hp→Prop),Inv X pins σ H s→t σ H Q→wpAny (model X.prog X.w) X.A (isTrue e X.env (eval e X.env)) (TP X pins σ Q) X.xe s
noncomputable def PW (X:Cx) (e:Expr) (t:TT):Prop:=
 ∀ (whole:Sem Value) (pins:List (Addr×Obj)) (s:Shared) (σ :St) (H:Hp) (Q:Bool→Hp→Prop),Inv X pins σ H s→t σ H Q→wpAny (model X.prog X.w) X.A (isTrue e X.env whole) (TP X pins σ Q) X.xe s
theorem PW.pt {X:Cx}{e:Expr}{t:TT}(h:PW X e t):PT X e t:=h _
noncomputable def PA (X:Cx) (es:List Expr) (t:TA):Prop:=
 ∀ (pos:Pos) (pins:List (Addr×Obj)) (s:Shared) (σ :St) (H:Hp) (Q:List V→Hp→Prop),Inv X pins σ H s→t σ H Q→wpAny (model X.prog X.w) X.A (spliced (backTo pos (starEach es X.env))) (AP X pins σ Q) X.xe s
noncomputable def PS (X:Cx) (st:Stmt) (t:TS):Prop:=
 ∀ (pins:List (Addr×Obj)) (s:Shared) (σ :St) (H:Hp) (D:Ends),Inv X pins σ H s→t D σ H→wpAny (model X.prog X.w) X.A (exec st X.env) (SP X pins D) X.xe s
noncomputable def PSs (X:Cx) (st:List Stmt) (t:TS):Prop:=
 ∀ (pins:List (Addr×Obj)) (s:Shared) (σ :St) (H:Hp) (D:Ends),Inv X pins σ H s→t D σ H→wpAny (model X.prog X.w) X.A (execs st X.env) (SP X pins D) X.xe s
theorem thn {α :Type}{t:Sem α}{Q Q': α→Shared→Prop}{M:Model}{A:Around}{E:Value→Shared→Prop}{s:Shared}(h:wpAny M A t Q E s)(hQ:∀ a s,Q a s→Q' a s):wpAny M A t Q' E s:=wpAny_mono h hQ fun _ _ x=>x
end L2
namespace L2
open PySem PySem.Spec PyProof.Rows
section
variable {X:Cx}
noncomputable def tVar (i:Nat):TE:=fun σ H Q=>∃ v,σ[i]? =some (some v)∧Q v H
noncomputable def tC (v:V):TE:=fun _ H Q=>Q v H
theorem zlD {i:Nat}{x:Str}{pos:Pos}(hN:X.N[i]? =some x)(hv:Vis X.env.scope x)(hd:(x==("__debug__" :Str))=false:=by decide)(hcd:(x==("__classdict__" :Str))=false:=by decide):PE X (.Name x pos) (tVar i):=by
 intro pins s σ H Q I h
 obtain ⟨v,e,h⟩:=h
 obtain ⟨m,hn,hl⟩:=I.loc
 obtain ⟨u,r,l⟩:=hl i x v hN e hv
 have fin:EP X pins σ Q u s:=⟨v,H,I,r,h⟩
 rcases l with ⟨hk,hm⟩ | ⟨hk,c,hc,hcell⟩
 ·exact wpAny_Name (wpAny_loadName_local I.ok.kind hk hn hm fin) hd
 ·rcases hk with hk | hk
  ·exact wpAny_Name (wpAny_loadName_cell I.ok.kind hk hc hcell fin) hd
  ·exact wpAny_Name (wpAny_loadName_free I.ok.kind hk hc hcell fin hcd) hd
theorem pe_int {i j pos}:PE X (.Constant (.int i) j pos) (tC (.int i)):=fun _ _ _ H _ I h=>wpAny_Constant_int ⟨.int i,H,I.tok _,⟨_,rfl⟩,h⟩
theorem pe_bl {b j pos}:PE X (.Constant (.bool b) j pos) (tC (.bl b)):=fun _ _ _ H _ I h=>Constant_bool ⟨.bl b,H,I,rfl,h⟩
theorem pe_non {j pos}:PE X (.Constant .none j pos) (tC .non):=fun _ _ _ H _ I h=>Constant_none ⟨.non,H,I,rfl,h⟩
theorem pe_str {x j pos}:PE X (.Constant (.str x) j pos) (tC (.str x)):=fun _ _ _ H _ I h=>Calls.Constant_str ⟨.str x,H,I.tok _,⟨_,rfl⟩,h⟩
noncomputable def Gl (X:Cx) (x:Str):Prop:=X.env.kindOf x=some .globalImplicit
theorem zft {E:Value→Shared→Prop}{pins:List (Addr×Obj)}{s:Shared}{σ :St}{H:Hp}{x:Str}{u:Value}{pos:Pos}{Q:Value→Shared→Prop}(I:Inv X pins σ H s)(hg:Gl X x)(hm:X.mg x=some u)(h:Q u s)
  (hd:(x==("__debug__" :Str))=false:=by decide):wpAny (model X.prog X.w) X.A (eval (.Name x pos) X.env) Q E s:=
 Calls.Name_function_global I.ok.kind hg (Calls.loadGlobal_global (by rw [I.ok.glob];exact I.mod.glob.keeps I.bk) hm h) hd
theorem zf4 {E:Value→Shared→Prop}{pins:List (Addr×Obj)}{s:Shared}{σ :St}{H:Hp}{x:Str}{u:Value}{pos:Pos}{Q:Value→Shared→Prop}(I:Inv X pins σ H s)(hg:Gl X x)(hm:X.mg x=none)(hv:bootBuiltins x=some u)(h:Q u s)
  (hn:x≠"__name__" :=by decide) (hd:(x==("__debug__" :Str))=false:=by decide):wpAny (model X.prog X.w) X.A (eval (.Name x pos) X.env) Q E s:=by
 obtain ⟨mb,h1,h2⟩:=I.mod.blt
 exact Calls.Name_function_global I.ok.kind hg (Calls.loadGlobal_builtin (by rw [I.ok.glob];exact I.mod.glob.keeps I.bk) hm (by rw [I.ok.blt];exact h1.keeps I.bk) ((h2 x hn).trans hv) h) hd
theorem zl8 {x:Str}{v:V}{u:Value}{pos:Pos}(hg:Gl X x)(hm:X.mg x=some u)(r:RelV v u)(hd:(x==("__debug__" :Str))=false:=by decide):PE X (.Name x pos) (tC v):=
 fun _ _ _ H _ I h=>zft I hg hm ⟨v,H,I,r,h⟩ hd
theorem zlT {x:Str}{v:V}{u:Value}{pos:Pos}(hg:Gl X x)(hm:X.mg x=none)(hv:bootBuiltins x=some u)(r:RelV v u)(hn:x≠"__name__" :=by decide)(hd:(x==("__debug__" :Str))=false:=by decide):PE X (.Name x pos) (tC v):=
 fun _ _ _ H _ I h=>zf4 I hg hm hv ⟨v,H,I,r,h⟩ hn hd
variable {a b:Expr} {ta tb:TE} {pos:Pos}
noncomputable def PC (X:Cx) (op:CmpOp) (a b:Expr) (t:TE):Prop:=
 ∀ (pins:List (Addr×Obj)) (s:Shared) (σ :St) (H:Hp) (Q:VK),Inv X pins σ H s→t σ H Q→
  wpAny (model X.prog X.w) X.A (eval a X.env) (fun v s₁ =>wpAny (model X.prog X.w) X.A (eval b X.env) (fun u s₂ =>wpAny (model X.prog X.w) X.A (compareOp op v u) (EP X pins σ Q) X.xe s₂) X.xe s₁) X.xe s
theorem zie (b:Expr){op:CmpOp}(h:op≠.In)(h2:op≠.NotIn):behindInMarks op b=false:=by
 have e1:(op==CmpOp.In)=false:=by cases op <;> first | rfl | exact absurd rfl h
 have e2:(op==CmpOp.NotIn)=false:=by cases op <;> first | rfl | exact absurd rfl h2
 cases b <;> simp [behindInMarks,e1,e2]
noncomputable def tB (t:TE):TT:=fun σ H Q=>t σ H fun x H1=>∃ c,x= .bl c∧Q c H1
theorem pt_cmp {op:CmpOp}{t:TE}(h:PC X op a b t)(h1:behindInMarks op b=false:=by first | exact zie _ (by decide) (by decide) | rfl):PT X (.Compare a [op] [b] pos) (tB t):=by
 intro pins s σ H Q I hw
 refine wpAny_isTrue_Compare1 (thn (h pins s σ H _ I hw) fun v s1 h1=>thn h1 fun u s2 h2=>thn h2 fun c s3 ⟨x,H1,I1,r1,q1⟩=>?_) h1
 obtain ⟨d,rfl,q⟩:=q1
 cases r1
 exact wpAny_truthy_bool ⟨H1,I1,q⟩
theorem pt_val {e:Expr}{t:TE}(h:PE X e t)(he:∀ whole,isTrue e X.env whole=(do let v ← whole;standAt e.pos;holding [v] (truthy v)):=by intro _;rfl):PT X e (tB t):=by
 intro pins s σ H Q I hw
 refine isTrue_plain (thn (h pins s σ H _ I hw) fun v s1 ⟨x,H1,I1,r1,q1⟩=>?_) (he _)
 obtain ⟨d,rfl,q⟩:=q1
 cases r1
 exact wpAny_truthy_bool ⟨H1,I1,q⟩
variable {tA tB':TT} {rest:List Expr}
noncomputable def tAnd (t u:TT):TT:=fun σ H Q=>t σ H fun c H1=>if c=true then u σ H1 Q else Q false H1
noncomputable def tOr (t u:TT):TT:=fun σ H Q=>t σ H fun c H1=>if c=true then Q true H1 else u σ H1 Q
noncomputable def tNot (t:TT):TT:=fun σ H Q=>t σ H fun c H1=>Q (!c) H1
theorem zmt (ha:PT X a tA):PW X (.BoolOp .And [a] pos) tA:=by
 intro wh pins s σ H Q I h
 refine isTrue_and (thn (ha pins s σ H Q I h) fun c s1 e=>?_)
 cases c with
 | true=>exact isTrue_and_nil e
 | false=>exact e
theorem pw_or1 (ha:PT X a tA):PW X (.BoolOp .Or [a] pos) tA:=by
 intro wh pins s σ H Q I h
 refine isTrue_or (thn (ha pins s σ H Q I h) fun c s1 e=>?_)
 cases c with
 | false=>exact isTrue_or_nil e
 | true=>exact e
theorem pw_and (ha:PT X a tA)(hb:PW X (.BoolOp .And (b::rest) pos) tB'):PW X (.BoolOp .And (a::b::rest) pos) (tAnd tA tB'):=by
 intro wh pins s σ H Q I h
 refine isTrue_and (thn (ha pins s σ H _ I h) fun c s1 ⟨H1,I1,q1⟩=>?_)
 cases c with
 | true=>exact hb wh pins s1 σ H1 Q I1 q1
 | false=>exact ⟨H1,I1,q1⟩
theorem pw_or (ha:PT X a tA)(hb:PW X (.BoolOp .Or (b::rest) pos) tB'):PW X (.BoolOp .Or (a::b::rest) pos) (tOr tA tB'):=by
 intro wh pins s σ H Q I h
 refine isTrue_or (thn (ha pins s σ H _ I h) fun c s1 ⟨H1,I1,q1⟩=>?_)
 cases c with
 | true=>exact ⟨H1,I1,q1⟩
 | false=>exact hb wh pins s1 σ H1 Q I1 q1
theorem pt_not (ha:PT X a tA):PT X (.UnaryOp .Not a pos) (tNot tA):=by
 intro pins s σ H Q I h
 exact isTrue_not (ha pins s σ H (fun c H1=>Q (!c) H1) I h)
noncomputable def tIf (t:TT) (ta tb:TE):TE:=fun σ H Q=>t σ H fun c H1=>if c=true then ta σ H1 Q else tb σ H1 Q
theorem zln {c:Expr}(hc:PT X c tA)(ha:PE X a ta)(hb:PE X b tb):PE X (.IfExp c a b pos) (tIf tA ta tb):=by
 intro pins s σ H Q I h
 refine wpAny_IfExp (thn (hc pins s σ H _ I h) fun d s1 ⟨H1,I1,q1⟩=>?_)
 cases d with
 | true=>exact ha pins s1 σ H1 Q I1 q1
 | false=>exact hb pins s1 σ H1 Q I1 q1
end
end L2
namespace L2
open PySem PySem.Spec PyProof.Rows
noncomputable def SqL (K:PySem.W.Frag) (H:Hp) (a:Addr) (xs:List V):Prop:=
 Rd H a (.lst xs)∨
  ∃ (o:Obj) (its:Array Value) (n:Nat),K.lookup a=some o∧o.cls= .type "list"∧o.dict=none∧o.data= .seq its n∧its.size≤sizeLine∧Vals xs its.toList
noncomputable def SqT (K:PySem.W.Frag) (H:Hp) (a:Addr) (xs:List V):Prop:=
 Rd H a (.tup xs)∨
  ∃ (o:Obj) (its:Array Value) (n:Nat),K.lookup a=some o∧o.cls= .type "tuple"∧o.data= .seq its n∧its.size≤sizeLine∧Vals xs its.toList
noncomputable def absV:Value→Option V
 | .none=>some .non
 | .bool b=>some (.bl b)
 | .int i _=>some (.int i)
 | .str x _=>some (.str x)
 | .bytes b _=>some (.byt b)
 | .float b _=>some (.flt b)
 | .ref a=>some (.ref a)
 | .type n=>some (.ty n)
 | _=>none
theorem RelV.abs {x:V}{u:Value}(r:RelV x u):absV u=some x:=by
 cases x with
 | non=>cases r;rfl
 | bl _=>cases r;rfl
 | int _=>obtain ⟨t,rfl⟩:=r;rfl
 | str _=>obtain ⟨t,rfl⟩:=r;rfl
 | byt _=>obtain ⟨t,rfl⟩:=r;rfl
 | flt _=>obtain ⟨t,rfl⟩:=r;rfl
 | ref _=>cases r;rfl
 | ty _=>cases r;rfl
theorem RelV.inj {x y:V}{u:Value}(r:RelV x u)(q:RelV y u):x=y:=Option.some.inj (r.abs.symm.trans q.abs)
theorem Vals.inj:∀ {xs ys:List V} {us:List Value},Vals xs us→Vals ys us→xs=ys
 | _,_,_,.nil,.nil=>rfl
 | _,_,_,.cons r t,.cons r' t'=>by rw [r.inj r',Vals.inj t t']
section
variable {X:Cx} {pins:List (Addr×Obj)} {σ :St} {H:Hp} {s:Shared} {a:Addr} {xs ys:List V}
theorem SqL.of {K:PySem.W.Frag}(h:H a=some (.lst xs)):SqL K H a xs:=.inl (.inl h)
theorem SqT.of {K:PySem.W.Frag}(h:H a=some (.tup xs)):SqT K H a xs:=.inl (.inl h)
theorem Inv.list (I:Inv X pins σ H s)(h:SqL X.K H a xs):∃ its:List Value,Vals xs its∧PlainL s.heap a its.toArray∧xs.length≤sizeLine:=by
 rcases h with h | ⟨o,its,n,hk,hc,hd,hs,hz,r⟩
 ·obtain ⟨z,its,n,r,e⟩:=h.ok I.hok
  exact ⟨its,r,⟨_,n,e,rfl,rfl,rfl⟩,z⟩
 ·refine ⟨its.toList,r,⟨o,n,I.kIn a o hk,hc,hd,by simpa using hs⟩,?_⟩
  have e:=r.length
  simp only [Array.length_toList] at e
  omega
theorem Inv.tuple (I:Inv X pins σ H s)(h:SqT X.K H a xs):∃ its:List Value,Vals xs its∧IsTup s.heap a its.toArray∧xs.length≤sizeLine:=by
 rcases h with h | ⟨o,its,n,hk,hc,hs,hz,r⟩
 ·obtain ⟨z,its,r,p⟩:=h.ok I.hok
  exact ⟨its,r,p,z⟩
 ·refine ⟨its.toList,r,⟨o,I.kIn a o hk,hc,n,by simpa using hs⟩,?_⟩
  have e:=r.length
  simp only [Array.length_toList] at e
  omega
theorem Inv.list_inj (I:Inv X pins σ H s)(h:SqL X.K H a xs)(h':SqL X.K H a ys):xs=ys:=by
 obtain ⟨its,r,⟨o,n,e,_,_,d⟩,_⟩:=I.list h
 obtain ⟨its',r',⟨o',n',e',_,_,d'⟩,_⟩:=I.list h'
 rw [e] at e';cases e'
 rw [d] at d'
 injection d' with d1 _
 have:its=its':=by simpa using congrArg Array.toList d1
 subst this
 exact r.inj r'
theorem Inv.tuple_inj (I:Inv X pins σ H s)(h:SqT X.K H a xs)(h':SqT X.K H a ys):xs=ys:=by
 obtain ⟨its,r,⟨o,e,_,n,d⟩,_⟩:=I.tuple h
 obtain ⟨its',r',⟨o',e',_,n',d'⟩,_⟩:=I.tuple h'
 rw [e] at e';cases e'
 rw [d] at d'
 injection d' with d1 _
 have:its=its':=by simpa using congrArg Array.toList d1
 subst this
 exact r.inj r'
end
noncomputable abbrev Cx.wish (X:Cx) (E:Value→Shared→Prop):Cx:={X with xe:=E}
noncomputable abbrev Cx.nox (X:Cx):Cx:=X.wish fun _ _=>False
theorem Cx.Ok.wish {X:Cx}(ok:X.Ok)(E:Value→Shared→Prop):(X.wish E).Ok:=
 ⟨ok.mod,ok.kind,ok.glob,ok.blt,ok.above,ok.inj,ok.has,ok.cab,ok.hd,ok.frames,ok.stk,ok.exf,ok.bs,ok.bsz,ok.noex,ok.exfs,ok.funs,ok.frf⟩
theorem Cx.Ok.unwish {X:Cx}{E:Value→Shared→Prop}(ok:(X.wish E).Ok):X.Ok:=
 ⟨ok.mod,ok.kind,ok.glob,ok.blt,ok.above,ok.inj,ok.has,ok.cab,ok.hd,ok.frames,ok.stk,ok.exf,ok.bs,ok.bsz,ok.noex,ok.exfs,ok.funs,ok.frf⟩
section
variable {X:Cx} {pins:List (Addr×Obj)} {σ :St} {H:Hp} {s:Shared} {E:Value→Shared→Prop}
theorem Inv.wish (I:Inv X pins σ H s)(E:Value→Shared→Prop):Inv (X.wish E) pins σ H s:=⟨I.ok.wish E,I.os,I.bare,I.base,I.loc,I.cell,I.free,I.freeC,I.pin,I.hok,I.len⟩
theorem Inv.unwish (I:Inv (X.wish E) pins σ H s):Inv X pins σ H s:=⟨I.ok.unwish,I.os,I.bare,I.base,I.loc,I.cell,I.free,I.freeC,I.pin,I.hok,I.len⟩
theorem SP.unwish {D:Ends}{f:Flow}{s':Shared}(h:SP (X.wish E) pins D f s'):SP X pins D f s':=by
 cases f with
 | next=>obtain ⟨σ',H',I,q⟩:=h;exact ⟨σ',H',I.unwish,q⟩
 | brk=>obtain ⟨σ',H',I,q⟩:=h;exact ⟨σ',H',I.unwish,q⟩
 | cont=>obtain ⟨σ',H',I,q⟩:=h;exact ⟨σ',H',I.unwish,q⟩
 | ret u=>obtain ⟨v,σ',H',I,r,q⟩:=h;exact ⟨v,σ',H',I.unwish,r,q⟩
theorem PSs.nox {st:List Stmt}{t:TS}(h:PSs X.nox st t):PSs X st t:=fun pins s σ H D I hw=>
 wpAny_mono (h pins s σ H D (I.wish _) hw) (fun _ _ q=>q.unwish) fun _ _ z=>False.elim z
end
section
variable {X:Cx} {st:Stmt} {rest:List Stmt} {t u:TS} {e:Expr} {te:TE} {pos:Pos}
noncomputable def tNext:TS:=fun D σ H=>D.nx σ H
noncomputable def tSeq (t u:TS):TS:=fun D σ H=>t {D with nx:=u D} σ H
theorem zmR:PSs X [] tNext:=fun _ _ σ H _ I h=>wpAny_execs_nil ⟨σ,H,I,h⟩
theorem zkJ (h1:PS X st t)(h2:PSs X rest u):PSs X (st::rest) (tSeq t u):=by
 intro pins s σ H D I h
 refine wpAny_execs_cons (thn (h1 pins s σ H {D with nx:=u D} I h) fun f s1 q=>?_)
 cases f with
 | next=>
  obtain ⟨σ',H',I',q⟩:=q
  exact h2 pins s1 σ' H' D I' q
 | ret v=>exact q
 | brk=>exact q
 | cont=>exact q
theorem zl2 (h1:PS X st t):PSs X [st] t:=by
 intro pins s σ H D I h
 refine wpAny_execs_cons (thn (h1 pins s σ H D I h) fun f s1 q=>?_)
 cases f with
 | next=>exact wpAny_execs_nil q
 | ret v=>exact q
 | brk=>exact q
 | cont=>exact q
theorem Inv.quiet {pins:List (Addr×Obj)}{σ :St}{H:Hp}{s:Shared}(I:Inv X pins σ H s):interactive X.env=false:=by simp [interactive,I.ok.kind]
noncomputable def tDrop (te:TE):TS:=fun D σ H=>te σ H fun _ H1=>D.nx σ H1
theorem zmS (he:PE X e te)(hs:swapsWith e none pos.line X.env=pure false:=by rfl):PS X (.Expr e pos) (tDrop te):=by
 intro pins s σ H D I h
 exact wpAny_Expr_any (thn (he pins s σ H _ I h) fun v s1 ⟨x,H1,I1,r1,q1⟩=>⟨σ,H1,I1,q1⟩) I.quiet hs
noncomputable def tRet (te:TE):TS:=fun D σ H=>te σ H D.rt
theorem ps_ret (he:PE X e te):PS X (.Return (some e) pos) (tRet te):=by
 intro pins s σ H D I h
 exact wpAny_Return_some (thn (he pins s σ H _ I h) fun v s1 ⟨x,H1,I1,r1,q1⟩=>⟨x,σ,H1,I1,r1,q1⟩)
noncomputable def tIfS (c:TT) (t u:TS):TS:=fun D σ H=>c σ H fun b H1=>if b=true then t D σ H1 else u D σ H1
theorem ps_if {c:Expr}{a b:List Stmt}{tc:TT}(hc:PT X c tc)(ha:PSs X a t)(hb:PSs X b u):PS X (.If c a b pos) (tIfS tc t u):=by
 intro pins s σ H D I h
 refine wpAny_If (thn (hc pins s σ H _ I h) fun d s1 ⟨H1,I1,q1⟩=>?_)
 cases d with
 | true=>exact ha pins s1 σ H1 D I1 q1
 | false=>exact hb pins s1 σ H1 D I1 q1
noncomputable def zlH:TS:=fun _ _ _=>False
theorem zlr:PS X st zlH:=fun _ _ _ _ _ _ h=>h.elim
end
noncomputable abbrev TG:=V→St→Hp→(St→Hp→Prop)→Prop
noncomputable abbrev TGs:=List V→St→Hp→(St→Hp→Prop)→Prop
noncomputable def PG (X:Cx) (target:Expr) (t:TG):Prop:=
 ∀ (pins:List (Addr×Obj)) (s:Shared) (σ :St) (H:Hp) (v:V) (u:Value) (Q:St→Hp→Prop),Inv X pins σ H s→RelV v u→t v σ H Q→
  wpAny (model X.prog X.w) X.A (assign target X.env u) (fun _ s'=>∃ σ' H',Inv X pins σ' H' s'∧Q σ' H') X.xe s
noncomputable def PGs (X:Cx) (ts:List Expr) (t:TGs):Prop:=
 ∀ (pins:List (Addr×Obj)) (s:Shared) (σ :St) (H:Hp) (vs:List V) (us:List Value) (Q:St→Hp→Prop),Inv X pins σ H s→Vals vs us→t vs σ H Q→
  wpAny (model X.prog X.w) X.A (assignInOrder ((assignEach ts X.env).map (·.2)) us) (fun _ s'=>∃ σ' H',Inv X pins σ' H' s'∧Q σ' H') X.xe s
noncomputable abbrev TSet:=V→V→V→Hp→(Hp→Prop)→Prop
noncomputable def PSet (X:Cx) (t:TSet):Prop:=
 ∀ (pins:List (Addr×Obj)) (s:Shared) (σ :St) (H:Hp) (o i v:V) (ov iv u:Value) (Q:Hp→Prop),Inv X pins σ H s→RelV o ov→RelV i iv→RelV v u→t o i v H Q→
  wpAny (model X.prog X.w) X.A (setItem ov iv u) (fun _ s'=>∃ H',Inv X pins σ H' s'∧Q H') X.xe s
section
variable {X:Cx} {pos:Pos}
noncomputable def zd7 (i:Nat):TG:=fun v σ H Q=>Q (σ.set i (some v)) H
theorem zmX {i:Nat}{x:Str}(hN:X.N.Nodup)(hi:X.N[i]? =some x)(hx:Loc X.env.scope x)(hf:X.fn x=true∨X.env.scope.names.lookup x=some .local:=by first | exact .inl rfl | exact .inr rfl | assumption):PG X (.Name x pos) (zd7 i):=by
 intro pins s σ H v u Q I r h
 exact wpAny_assign_Name (zf9 I hN hi hx r (fun s' I'=>⟨_,H,I',h⟩) hf)
noncomputable def gNil:TGs:=fun vs σ H Q=>vs= []∧Q σ H
noncomputable def zhL (t:TG) (u:TGs):TGs:=fun vs σ H Q=>∃ v r,vs=v::r∧t v σ H fun σ' H'=>u r σ' H' Q
theorem zlX:PGs X [] gNil:=by
 intro pins s σ H vs us Q I r h
 obtain ⟨e,h⟩:=h
 subst e
 cases r
 exact assignInOrder_nil ⟨σ,H,I,h⟩
theorem zly {e:Expr}{es:List Expr}{t:TG}{u:TGs}(h1:PG X e t)(h2:PGs X es u)
  (hs:(assignEach (e::es) X.env).map (·.2)=assign e X.env::(assignEach es X.env).map (·.2):=by rfl):PGs X (e::es) (zhL t u):=by
 intro pins s σ H vs us Q I r h
 obtain ⟨v,vr,e1,h⟩:=h
 subst e1
 cases r with
 | cons r rr=>
  rw [hs]
  refine assignInOrder_cons (thn (h1 pins s σ H _ _ _ I r h) fun _ s1 ⟨σ1,H1,I1,q1⟩=>?_)
  exact h2 pins s1 σ1 H1 _ _ Q I1 rr q1
noncomputable def gTup (K:PySem.W.Frag) (n:Nat) (t:TGs):TG:=fun v σ H Q=>∃ a xs,v= .ref a∧SqT K H a xs∧xs.length=n∧t xs σ H Q
theorem zlR {es:List Expr}{k:Nat}{t:TGs}{n:Nat}(hc:X.calm=true)(h:PGs X es t)
  (hn:(assignEach es X.env).length=n:=by rfl) (hst:(assignEach es X.env).findIdx? (·.1)=none:=by rfl):PG X (.Tuple es k pos) (gTup X.K n t):=by
 intro pins s σ H v u Q I r hw
 obtain ⟨a,xs,e1,hq,hl,hw⟩:=hw
 subst e1
 cases r
 obtain ⟨its,rv,ht,hz⟩:=I.tuple hq
 refine assign_Tuple_tuple (I.ok.hd hc) ht (by simp [hn,← hl,rv.length]) hst fun h' hx=>?_
 have I1:Inv X pins σ H {s with heap:=h'}:=I.kept (t':=s.toks) fun b o e=>hx b o (Nat.ne_of_lt (Heap.lt_size e)) e
 exact h pins _ σ H xs _ Q I1 (by simpa using rv) hw
noncomputable def gSub (to ti:TE) (t:TSet):TG:=fun v σ H Q=>to σ H fun o H1=>ti σ H1 fun i H2=>t o i v H2 fun H3=>Q σ H3
theorem pg_sub {o i:Expr}{to ti:TE}{t:TSet}(ho:PE X o to)(hi:PE X i ti)(hs:PSet X t)
  (ha:∀ v,assign (.Subscript o i pos) X.env v=(do
   let ov ← holding [v] (eval o X.env)
   let iv ← holding [v,ov] (eval i X.env)
   standAt pos
   holding [v,ov,iv] (setItem ov iv v)
   release [v,ov,iv] []):=by intro _;rfl):PG X (.Subscript o i pos) (gSub to ti t):=by
 intro pins s σ H v u Q I r h
 rw [ha]
 refine wpAny_bind (wpAny_holding (thn (ho pins s σ H _ I h) fun ov s1 ⟨x,H1,I1,r1,q1⟩=>?_))
 refine wpAny_bind (wpAny_holding (thn (hi pins s1 σ H1 _ I1 q1) fun iv s2 ⟨y,H2,I2,r2,q2⟩=>?_))
 refine wpAny_bind (wpAny_standAt (wpAny_bind (wpAny_holding (thn (hs pins s2 σ H2 x y v ov iv u _ I2 r1 r2 r q2) fun _ s3 ⟨H3,I3,q3⟩=>?_))))
 exact wpAny_release ⟨σ,H3,I3,q3⟩
noncomputable def tAsg (te:TE) (g:TG):TS:=fun D σ H=>te σ H fun x H1=>g x σ H1 D.nx
theorem ps_asg {tg e:Expr}{te:TE}{g:TG}(he:PE X e te)(hg:PG X tg g)(hs:swapsWithSole [tg] e pos.line X.env=pure false:=by rfl)(hw:swappedStores [tg] e X.env=pure none:=by rfl)
  (h1:(assignEach [tg] X.env).map (·.2)= [assign tg X.env]:=by rfl):PS X (.Assign [tg] e pos) (tAsg te g):=by
 intro pins s σ H D I h
 refine wpAny_Assign_stores (thn (he pins s σ H _ I h) fun v s1 ⟨x,H1,I1,r1,q1⟩=>?_) hs hw
 rw [h1]
 exact thn (hg pins s1 σ H1 x v _ I1 r1 q1) fun _ s2 q=>q
theorem ps_set {i:Nat}{x:Str}{e:Expr}{te:TE}{pos':Pos}(hN:X.N.Nodup)(hi:X.N[i]? =some x)(hx:Loc X.env.scope x)(he:PE X e te)(hs:swapsWith e (some (.Name x pos')) pos.line X.env=pure false:=by rfl)(hf:X.fn x=true∨X.env.scope.names.lookup x=some .local:=by first | exact .inl rfl | exact .inr rfl | assumption):
  PS X (.Assign [.Name x pos'] e pos) (tAsg te (zd7 i)):=by
 intro pins s σ H D I h
 refine wpAny_Assign_Name (thn (he pins s σ H _ I h) fun v s1 ⟨y,H1,I1,r1,q1⟩=>?_) hs
 exact zf9 I1 hN hi hx r1 (fun s2 I2=>⟨_,H1,I2,q1⟩) hf
end
section
variable {X:Cx} {pos:Pos}
end
structure It where
 go:Nat→Hp→Prop
 yld:Nat→Hp→V→Hp→Prop
 stop:Nat→Hp→Prop
noncomputable def FpOk (X:Cx) (pins:List (Addr×Obj)) (H:Hp) (b:Addr):Prop:=
 H b=none∧b≠X.env.locals∧b∉X.fs∧(b∈X.ex∨X.s₀.heap.objs.size≤b)∧(∀ x c,X.env.cells.lookup x=some c→c≠b)∧∀ p∈X.pn++pins,p.1≠b
theorem Inv.fpOk {X:Cx}{pins:List (Addr×Obj)}{σ :St}{H H':Hp}{s:Shared}{b:Addr}(I:Inv X pins σ H s)(hb:s.heap.objs.size≤b)(hn:H' b=none):FpOk X pins H' b:=by
 refine ⟨hn,Nat.ne_of_gt (Nat.lt_of_lt_of_le I.lt hb),I.nofs hb,.inr (Nat.le_trans I.sz hb),fun x c e z=>?_,fun p hp z=>?_⟩
 ·obtain ⟨v,q⟩:=I.cell x c e
  exact absurd (Nat.lt_of_lt_of_le q.lt (by rw [z];exact hb)) (Nat.lt_irrefl _)
 ·exact absurd (Nat.lt_of_lt_of_le (Heap.lt_size (I.pin p hp).1) (by rw [z];exact hb)) (Nat.lt_irrefl _)
structure Turn (P:Program) (w:World) (K:PySem.W.Frag) (tg:Expr) (J:It) (fp:List Addr) (it:Addr) (tn:Nat→Heap→Prop):Prop where
 mem:it∈fp
 obj:∀ i h,tn i h→∀ b∈fp,∃ o,h.get? b=some o∧∀ v,o.data≠.cell v
 keep:∀ i h h',tn i h→(∀ b∈fp,∀ o,h.get? b=some o→h'.get? b=some o)→tn i h'
 item:∀ (X:Cx),X.prog=P→X.w=w→X.K=K→X.calm=true→∀ (i:Nat) (pins:List (Addr×Obj)) (s:Shared) (σ :St) (H:Hp) (E:Value→Shared→Prop),Inv X pins σ H s→(∀ b∈fp,FpOk X pins H b)→tn i s.heap→J.go i H→
  wpAny (model P w) X.A (pyNext (.ref it)) (fun r s1=>∃ u,r=some u∧
   wpAny (model P w) X.A (letOwnedTupleGo tg (.ref it) u) (fun _ s2=>∃ x H',Inv X pins σ H' s2∧RelV x u∧J.yld i H x H'∧tn (i+1) s2.heap∧∀ b∈fp,H' b=none) E s1) E s
 done:∀ (X:Cx),X.prog=P→X.w=w→X.K=K→X.calm=true→∀ (i:Nat) (pins:List (Addr×Obj)) (s:Shared) (σ :St) (H:Hp) (E:Value→Shared→Prop),Inv X pins σ H s→(∀ b∈fp,FpOk X pins H b)→tn i s.heap→J.stop i H→
  wpAny (model P w) X.A (pyNext (.ref it)) (fun r s1=>r=none∧Inv X pins σ H s1) E s
 self:∀ (A:Around) (i:Nat) (s:Shared) (Q:Value→Shared→Prop) (E:Value→Shared→Prop),tn i s.heap→Q (.ref it) s→wpAny (model P w) A (pyIter (.ref it)) Q E s
noncomputable abbrev TI:=St→Hp→(It→Hp→Prop)→Prop
noncomputable def PIE (X:Cx) (pins:List (Addr×Obj)) (σ :St) (tg:Expr) (R:It→Hp→Prop) (itv:Value) (s2:Shared):Prop:=
 ∃ (it:Addr) (fp:List Addr) (tn:Nat→Heap→Prop) (J:It) (H':Hp),itv= .ref it∧Inv X pins σ H' s2∧Turn X.prog X.w X.K tg J fp it tn∧tn 0 s2.heap∧(∀ b∈fp,FpOk X pins H' b)∧R J H'
noncomputable def PI (X:Cx) (tg iter:Expr) (wi:TI):Prop:=
 ∀ (pins:List (Addr×Obj)) (s:Shared) (σ :St) (H:Hp) (R:It→Hp→Prop),Inv X pins σ H s→wi σ H R→
  wpAny (model X.prog X.w) X.A (eval iter X.env) (fun v s1=>wpAny (model X.prog X.w) X.A (pyIter v) (PIE X pins σ tg R) X.xe s1) X.xe s
theorem zjs {M:Model}{A:Around}{E:Value→Shared→Prop}{s:Shared}{tg:Expr}{it:Addr}{u:Value}{o:Obj}{n:String}{vs:Array Value}{Q:Unit→Shared→Prop}(ho:s.heap.get? it=some o)(hc:o.cls= .type n)(hd:o.data= .fields vs)
  (hn:["enumerate","zip","dict_itemiterator","dict_reverseitemiterator","odict_iterator","itertools.zip_longest","itertools.pairwise"].contains n=false) (hQ:Q () s):wpAny M A (letOwnedTupleGo tg (.ref it) u) Q E s:=by
 unfold letOwnedTupleGo
 cases tg <;> first
  | exact wpAny_pure hQ
  | (cases u <;> first
    | exact wpAny_pure hQ
    | (refine wpAny_bind (wpAny_load ho ?_)
       rw [hc,hd]
       show wpAny M A (if (["enumerate","zip","dict_itemiterator","dict_reverseitemiterator","odict_iterator","itertools.zip_longest","itertools.pairwise"].contains n && vs[0]? ==some (rawInt _))=true then _ else _) Q E s
       rw [if_neg (by intro h;rw [hn,Bool.false_and] at h;cases h)]
       exact wpAny_pure hQ))
noncomputable def Itl (K:PySem.W.Frag) (a:Addr):It:=
 ⟨fun i H=>∃ xs x,SqL K H a xs∧xs[i]? =some x,fun i H x H'=>H'=H∧∀ xs,SqL K H a xs→xs[i]? =some x,fun i H=>∃ xs,SqL K H a xs∧xs.length≤i⟩
noncomputable def Itt (K:PySem.W.Frag) (a:Addr):It:=
 ⟨fun i H=>∃ xs x,SqT K H a xs∧xs[i]? =some x,fun i H x H'=>H'=H∧∀ xs,SqT K H a xs→xs[i]? =some x,fun i H=>∃ xs,SqT K H a xs∧xs.length≤i⟩
noncomputable def Itr (lo:Int) (n:Nat):It:=⟨fun i _=>i < n,fun i H x H'=>H'=H∧x= .int (lo+i),fun i _=>n≤i⟩
theorem zjf {P:Program}{w:World}{K:PySem.W.Frag}{tg:Expr}(a it:Addr):Turn P w K tg (Itl K a) [it] it (fun i h=>h.IsListIter it a i) where
 mem:=by simp
 obj:=fun i h st b hb=>by
  have e:b=it:=by simpa using hb
  subst e
  obtain ⟨o,e,c,d⟩:=st
  exact ⟨o,e,fun v z=>by rw [d] at z;cases z⟩
 keep:=fun i h h' st k=>st.at fun o e=>k it (by simp) o e
 item:=by
  intro X hP hw hK hc i pins s σ H E I hf st hg
  subst hP hw hK
  obtain ⟨xs,x,hq,hx⟩:=hg
  obtain ⟨its,rv,p,hz⟩:=I.list hq
  obtain ⟨u,hu,ru⟩:=rv.get hx
  obtain ⟨f0,f1,f2,f3,f4,f5⟩:=hf it (by simp)
  refine wpAny_pyNext_list_item st p.isList (x:=u) (by simpa using hu) fun h' st' sb=>?_
  have I1:Inv X pins σ H {s with heap:=h'}:=I.turned (t':=s.toks) (fun b o hb e=>(sb.2 b hb).trans e) f0 f1 f3 f4 f5
  obtain ⟨o,e,c,d⟩:=id st'
  exact ⟨u,rfl,zjs (s:={s with heap:=h'}) e c d (by decide) ⟨x,H,I1,ru,⟨rfl,fun ys hy=>by rw [I.list_inj hy hq];exact hx⟩,st',fun b hb=>(hf b hb).1⟩⟩
 done:=by
  intro X hP hw hK hc i pins s σ H E I hf st hg
  subst hP hw hK
  obtain ⟨xs,hq,hx⟩:=hg
  obtain ⟨its,rv,p,hz⟩:=I.list hq
  obtain ⟨f0,f1,f2,f3,f4,f5⟩:=hf it (by simp)
  have hl:=rv.length
  exact wpAny_pyNext_list_end (I.ok.hd hc) st p.isList (by simp;omega) fun h' eb=>⟨rfl,I.turned (t':=s.toks) (fun b o hb e=>eb b o hb e) f0 f1 f3 f4 f5⟩
 self:=fun _ _ _ _ _ st h=>wpAny_pyIter_listiter st h
theorem ziX {P:Program}{w:World}{K:PySem.W.Frag}{tg:Expr}(a it:Addr):Turn P w K tg (Itt K a) [it] it (fun i h=>h.IsTupleIter it a i) where
 mem:=by simp
 obj:=fun i h st b hb=>by
  have e:b=it:=by simpa using hb
  subst e
  obtain ⟨o,e,c,d⟩:=st
  exact ⟨o,e,fun v z=>by rw [d] at z;cases z⟩
 keep:=fun i h h' st k=>st.at fun o e=>k it (by simp) o e
 item:=by
  intro X hP hw hK hc i pins s σ H E I hf st hg
  subst hP hw hK
  obtain ⟨xs,x,hq,hx⟩:=hg
  obtain ⟨its,rv,p,hz⟩:=I.tuple hq
  obtain ⟨u,hu,ru⟩:=rv.get hx
  obtain ⟨f0,f1,f2,f3,f4,f5⟩:=hf it (by simp)
  refine wpAny_pyNext_tuple_item st (show s.heap.IsTuple a its.toArray from p) (x:=u) (by simpa using hu) fun h' st' sb=>?_
  have I1:Inv X pins σ H {s with heap:=h'}:=I.turned (t':=s.toks) (fun b o hb e=>(sb.2 b hb).trans e) f0 f1 f3 f4 f5
  obtain ⟨o,e,c,d⟩:=id st'
  exact ⟨u,rfl,zjs (s:={s with heap:=h'}) e c d (by decide) ⟨x,H,I1,ru,⟨rfl,fun ys hy=>by rw [I.tuple_inj hy hq];exact hx⟩,st',fun b hb=>(hf b hb).1⟩⟩
 done:=by
  intro X hP hw hK hc i pins s σ H E I hf st hg
  subst hP hw hK
  obtain ⟨xs,hq,hx⟩:=hg
  obtain ⟨its,rv,p,hz⟩:=I.tuple hq
  obtain ⟨f0,f1,f2,f3,f4,f5⟩:=hf it (by simp)
  have hl:=rv.length
  exact wpAny_pyNext_tuple_end (I.ok.hd hc) st (show s.heap.IsTuple a its.toArray from p) (by simp;omega) fun h' eb=>⟨rfl,I.turned (t':=s.toks) (fun b o hb e=>eb b o hb e) f0 f1 f3 f4 f5⟩
 self:=fun _ _ _ _ _ st h=>wpAny_pyIter_tupleiter st h
theorem ziJ {P:Program}{w:World}{K:PySem.W.Frag}{tg:Expr}(it:Addr)(lo:Int)(n:Nat):Turn P w K tg (Itr lo n) [it] it (fun i h=>IsRangeIter h it (lo+(i:Nat) * 1) ((n:Int) - (i:Nat)) 1) where
 mem:=by simp
 obj:=fun i h st b hb=>by
  have e:b=it:=by simpa using hb
  subst e
  exact ⟨_,st,fun v z=>by
   have z':Data.fields _=Data.cell v:=z
   cases z'⟩
 keep:=fun i h h' st k=>k it (by simp) _ st
 item:=by
  intro X hP hw hK hc i pins s σ H E I hf st hg
  subst hP hw hK
  obtain ⟨f0,f1,f2,f3,f4,f5⟩:=hf it (by simp)
  have W:=Walks.range (prog:=X.prog) (w:=X.w) (I.ok.hd hc) it lo 1 n
  refine W.item i s _ _ hg st fun v h' tk hv st' kk=>?_
  obtain ⟨t,rfl⟩:=hv
  have I1:Inv X pins σ H {s with heap:=h',toks:=tk}:=I.turned (fun b o hb e=>kk b o (by simpa using hb) e) f0 f1 f3 f4 f5
  refine ⟨_,rfl,zjs (s:={s with heap:=h',toks:=tk}) (n:="range_iterator") st' rfl rfl (by decide) ⟨.int (lo+i),H,I1,⟨t,?_⟩,⟨rfl,rfl⟩,st',fun b hb=>(hf b hb).1⟩⟩
  rw [Int.mul_one]
 done:=by
  intro X hP hw hK hc i pins s σ H E I hf st hg
  subst hP hw hK
  obtain ⟨f0,f1,f2,f3,f4,f5⟩:=hf it (by simp)
  exact wpAny_pyNext_range_end (I.ok.hd hc) st (by have:n≤i:=hg;omega) fun h' eb=>⟨rfl,I.turned (t':=s.toks) (fun b o hb e=>eb b o hb e) f0 f1 f3 f4 f5⟩
 self:=fun _ _ _ _ _ st h=>wpAny_pyIter_rangeiter st h
end L2
namespace L2
open PySem PySem.Spec PyProof.Rows
section
variable {X:Cx} {tg:Expr}
noncomputable def iList (K:PySem.W.Frag) (tl:TE):TI:=fun σ H R=>tl σ H fun x H1=>∃ a,x= .ref a∧(∃ xs,SqL K H1 a xs)∧R (Itl K a) H1
noncomputable def iTup (K:PySem.W.Frag) (tl:TE):TI:=fun σ H R=>tl σ H fun x H1=>∃ a,x= .ref a∧(∃ xs,SqT K H1 a xs)∧R (Itt K a) H1
theorem zma {l:Expr}{tl:TE}(hl:PE X l tl):PI X tg l (iList X.K tl):=by
 intro pins s σ H R I h
 refine thn (hl pins s σ H _ I h) fun v s1 ⟨x,H1,I1,r1,q1⟩=>?_
 obtain ⟨a,e,⟨xs,hq⟩,q⟩:=q1
 subst e
 cases r1
 obtain ⟨its,rv,p,hz⟩:=I1.list hq
 refine wpAny_pyIter_list p.isList ?_
 refine ⟨s1.heap.objs.size,[s1.heap.objs.size],_,_,H1,rfl,I1.kept (t':=s1.toks) fun b o e=>Heap.get?_push_of_some _ e,zjf a _,⟨_,Heap.get?_push_size _ rfl,rfl,rfl⟩,fun b hb=>?_,q⟩
 have e:b=s1.heap.objs.size:=by simpa using hb
 subst e
 exact I1.fpOk (Nat.le_refl _) (I1.hok.fresh (Nat.le_refl _))
theorem pi_tup {l:Expr}{tl:TE}(hl:PE X l tl):PI X tg l (iTup X.K tl):=by
 intro pins s σ H R I h
 refine thn (hl pins s σ H _ I h) fun v s1 ⟨x,H1,I1,r1,q1⟩=>?_
 obtain ⟨a,e,⟨xs,hq⟩,q⟩:=q1
 subst e
 cases r1
 obtain ⟨its,rv,p,hz⟩:=I1.tuple hq
 refine wpAny_pyIter_tuple (show s1.heap.IsTuple a its.toArray from p) ?_
 refine ⟨s1.heap.objs.size,[s1.heap.objs.size],_,_,H1,rfl,I1.kept (t':=s1.toks) fun b o e=>Heap.get?_push_of_some _ e,ziX a _,⟨_,Heap.get?_push_size _ rfl,rfl,rfl⟩,fun b hb=>?_,q⟩
 have e:b=s1.heap.objs.size:=by simpa using hb
 subst e
 exact I1.fpOk (Nat.le_refl _) (I1.hok.fresh (Nat.le_refl _))
theorem zkV {pins:List (Addr×Obj)}{σ :St}{H:Hp}{s:Shared}{R:It→Hp→Prop}{E:Value→Shared→Prop}{lo hi:Int}{t u v:Tok}{tk:Nat}(I:Inv X pins σ H s)(h1: -(2 ^ 62)≤lo)(h2:lo < 2 ^ 62)(h3: -(2 ^ 62)≤hi)(h4:hi < 2 ^ 62)
  (q:R (Itr lo (hi - lo).toNat) H):wpAny (model X.prog X.w) X.A (pyIter (.ref s.heap.objs.size)) (PIE X pins σ tg R) E {s with heap:=s.heap.push {cls:=.type "range",data:=.fields #[.int lo t,.int hi u,.int 1 v]},toks:=tk}:=by
 refine wpAny_pyIter_range (IsRange.new ..) (small_one h1 h2 h3 h4) ?_
 have I1:Inv X pins σ H {s with heap:=s.heap.push {cls:=.type "range",data:=.fields #[.int lo t,.int hi u,.int 1 v]},toks:=tk}:=I.kept fun b o e=>Heap.get?_push_of_some _ e
 refine ⟨(s.heap.push {cls:=.type "range",data:=.fields #[.int lo t,.int hi u,.int 1 v]}).objs.size,[(s.heap.push {cls:=.type "range",data:=.fields #[.int lo t,.int hi u,.int 1 v]}).objs.size],_,_,H,rfl,
  I1.kept (t':=tk) fun b o e=>Heap.get?_push_of_some _ e,ziJ _ lo (hi - lo).toNat,?_,fun b hb=>?_,q⟩
 ·have e1:lo+((0:Nat):Int) * 1=lo:=by simp
  have e2:(((hi - lo).toNat:Nat):Int) - ((0:Nat):Int)=Builtin.Range.rangeSize lo hi 1:=by rw [rangeSize_one];split <;> omega
  show IsRangeIter _ _ (lo+((0:Nat):Int) * 1) ((((hi - lo).toNat:Nat):Int) - ((0:Nat):Int)) 1
  rw [e1,e2]
  exact Heap.get?_push_size _ rfl
 ·have e:b=(s.heap.push {cls:=.type "range",data:=.fields #[.int lo t,.int hi u,.int 1 v]}).objs.size:=by simpa using hb
  subst e
  exact I1.fpOk (Nat.le_refl _) (I1.hok.fresh (Nat.le_refl _))
noncomputable def iRng1 (ta:TA):TI:=fun σ H R=>ta σ H fun vs H1=>∃ j:Int,vs= [.int j]∧-(2 ^ 62)≤j∧j < 2 ^ 62∧R (Itr 0 j.toNat) H1
theorem zkc {a:Expr}{ta:TA}{p pos:Pos}(hg:Gl X "range")(hm:X.mg "range" =none)(ha:PA X [a] ta)(hs:starEach [a] X.env= [(false,eval a X.env)]:=by rfl):PI X tg (.Call (.Name "range" p) [a] [] pos) (iRng1 ta):=by
 intro pins s σ H R I h
 refine Call_ (zf4 I hg hm boot_range (PyProof.Rows.callWith_type1 (thn (ha pos pins s σ H _ I h) fun us s1 ⟨vs,H1,I1,r1,q1⟩=>?_) hs rfl))
 obtain ⟨j,e,q1,q2,q⟩:=q1
 subst e
 cases r1 with
 | cons r rr=>
  cases rr
  obtain ⟨t,rfl⟩:=r
  exact call_range_1 (zkV I1 (by omega) (by omega) q1 q2 (by simpa using q))
noncomputable def tFor (wi:TI) (g:TG) (tb:TS):TS:=fun D σ H=>wi σ H fun J H1=>∃ W:Nat→Nat→St→Hp→Prop,(∃ m,W 0 m σ H1)∧∀ i m σ H,W i m σ H→
 (J.stop i H∧D.nx σ H)∨(J.go i H∧∃ N:St→Hp→Prop,(∀ σ' H',N σ' H'→∃ m',m' < m∧W (i+1) m' σ' H')∧∀ x H',J.yld i H x H'→g x σ H' fun σ2 H2=>tb {D with nx:=N,ct:=N,bk:=D.nx} σ2 H2)
noncomputable def zgU (fp:List Addr) (h:Heap):List (Addr×Obj):=fp.filterMap fun b=>(h.get? b).map fun o=>(b,o)
theorem zdF {fp:List Addr}{h:Heap}{b:Addr}{o:Obj}(hb:b∈fp)(e:h.get? b=some o):(b,o)∈zgU fp h:=List.mem_filterMap.mpr ⟨b,hb,by rw [e];rfl⟩
theorem zkn {fp:List Addr}{h:Heap}{p:Addr×Obj}(hp:p∈zgU fp h):p.1∈fp∧h.get? p.1=some p.2:=by
 obtain ⟨b,hb,e⟩:=List.mem_filterMap.mp hp
 cases q:h.get? b with
 | none=>rw [q] at e;cases e
 | some o=>
  rw [q] at e
  have e':(b,o)=p:=Option.some.inj e
  subst e'
  exact ⟨hb,q⟩
theorem Inv.pinned {pins:List (Addr×Obj)}{σ :St}{H:Hp}{s:Shared}{fp:List Addr}(I:Inv X pins σ H s)(hf:∀ b∈fp,FpOk X pins H b)(ho:∀ b∈fp,∃ o,s.heap.get? b=some o∧∀ v,o.data≠.cell v):Inv X (pins++zgU fp s.heap) σ H s:=
 I.pins_of fun p hp=>(List.mem_append.mp hp).elim (fun z=>I.pin p (List.mem_append_right _ z)) fun z=>by
  obtain ⟨hb,e⟩:=zkn z
  obtain ⟨f0,f1,f2,_⟩:=hf p.1 hb
  obtain ⟨o,e',d⟩:=ho p.1 hb
  rw [e] at e';cases e'
  exact ⟨e,f0,f1,f2,d⟩
theorem Inv.unpinned {pins pl:List (Addr×Obj)}{σ :St}{H:Hp}{s:Shared}(I:Inv X (pins++pl) σ H s):Inv X pins σ H s:=I.pins_of fun p hp=>I.pin p (List.mem_append_right _ (List.mem_append_left _ hp))
theorem ps_for {iter:Expr}{body:List Stmt}{wi:TI}{g:TG}{tb:TS}{pos:Pos}(hp:PassesOwn (model X.prog X.w) X.A X.env X.xe)(hc:X.calm=true)(hi:PI X tg iter wi)(hg:PG X tg g)(hb:PSs X body tb)
  (hs:∀ x,foldedSetIterable iter X.env x=pure x:=by intro _;rfl):PS X (.For tg iter body [] pos) (tFor wi g tb):=by
 intro pins s σ H D I h
 refine wpAny_For (thn (hi pins s σ H _ I h) fun v s1 h1=>thn h1 fun itv s2 h2=>?_) hs
 obtain ⟨it,fp,tn,J,H2,e,I2,T,st2,f2,W,⟨m0,w0⟩,turn⟩:=h2
 subst e
 have stat:∀ {H':Hp},(∀ b∈fp,H' b=none)→∀ b∈fp,FpOk X pins H' b:=fun hn b hb=>⟨hn b hb,(f2 b hb).2⟩
 refine codeAny_forLoop_any (fun n s'=>∃ i σ' H',Inv X pins σ' H' s'∧tn i s'.heap∧(∀ b∈fp,H' b=none)∧W i n σ' H') ?_ m0 ⟨0,σ,H2,I2,st2,fun b hb=>(f2 b hb).1,w0⟩
 rintro n s3 ⟨i,σ3,H3,I3,st3,fr3,w3⟩
 rcases turn i n σ3 H3 w3 with ⟨stop,qn⟩ | ⟨go,N,hN,step⟩
 ·refine wpAny_passesOwn hp (thn (T.done X rfl rfl rfl hc i pins s3 σ3 H3 X.xe I3 (stat fr3) st3 stop) fun r s4 ⟨hr,I4⟩=>?_)
  subst hr
  exact wpAny_execs_nil ⟨σ3,H3,I4,qn⟩
 ·refine wpAny_passesOwn hp (thn (T.item X rfl rfl rfl hc i pins s3 σ3 H3 X.xe I3 (stat fr3) st3 go) fun r s4 ⟨u,hr,h4⟩=>?_)
  subst hr
  refine wpAny_passesOwn hp (thn h4 fun _ s5 ⟨x,H5,I5,r5,y5,st5,fr5⟩=>?_)
  have I5':=I5.pinned (stat fr5) (T.obj _ _ st5)
  refine wpAny_passesOwn hp (thn (hg _ s5 σ3 H5 x u _ I5' r5 (step x H5 y5)) fun _ s6 ⟨σ6,H6,I6,q6⟩=>?_)
  refine wpAny_passesOwn hp (thn (hb _ s6 σ6 H6 _ I6 q6) fun f s7 q7=>?_)
  have again:∀ {σ7:St} {H7:Hp},Inv X (pins++zgU fp s5.heap) σ7 H7 s7→N σ7 H7→∃ m,m < n∧∃ i σ' H',Inv X pins σ' H' s7∧tn i s7.heap∧(∀ b∈fp,H' b=none)∧W i m σ' H':=fun {σ7 H7} I7 n7=>by
   obtain ⟨m',hm,w7⟩:=hN σ7 H7 n7
   refine ⟨m',hm,i+1,σ7,H7,I7.unpinned,T.keep _ _ _ st5 fun b hb o e=>(I7.pin (b,o) (List.mem_append_right _ (List.mem_append_right _ (zdF hb e)))).1,fun b hb=>?_,w7⟩
   obtain ⟨o,e,d⟩:=T.obj _ _ st5 b hb
   exact (I7.pin (b,o) (List.mem_append_right _ (List.mem_append_right _ (zdF hb e)))).2.1
  cases f with
  | next=>obtain ⟨σ7,H7,I7,n7⟩:=q7;exact again I7 n7
  | cont=>obtain ⟨σ7,H7,I7,n7⟩:=q7;exact again I7 n7
  | brk=>obtain ⟨σ7,H7,I7,q7⟩:=q7;exact ⟨σ7,H7,I7.unpinned,q7⟩
  | ret v=>obtain ⟨x7,σ7,H7,I7,r7,q7⟩:=q7;exact ⟨x7,σ7,H7,I7.unpinned,r7,q7⟩
end
theorem zb0 {K:PySem.W.Frag}{a:Addr}{xs:List V}{g:TG}{tb:TS}{D:Ends}{σ :St}{H:Hp}(Pv:Nat→St→Hp→Prop)(h0:Pv 0 σ H)(hl:∀ i σ H,i≤xs.length→Pv i σ H→SqL K H a xs)
  (hs:∀ i x σ H,xs[i]? =some x→Pv i σ H→g x σ H fun σ2 H2=>tb {D with nx:=Pv (i+1),ct:=Pv (i+1),bk:=D.nx} σ2 H2) (hd:∀ σ H,Pv xs.length σ H→D.nx σ H):
  ∃ W:Nat→Nat→St→Hp→Prop,(∃ m,W 0 m σ H)∧∀ i m σ H,W i m σ H→
   ((Itl K a).stop i H∧D.nx σ H)∨((Itl K a).go i H∧∃ N:St→Hp→Prop,(∀ σ' H',N σ' H'→∃ m',m' < m∧W (i+1) m' σ' H')∧∀ x H',(Itl K a).yld i H x H'→g x σ H' fun σ2 H2=>tb {D with nx:=N,ct:=N,bk:=D.nx} σ2 H2):=by
 refine ⟨fun i m σ H=>m=xs.length - i∧i≤xs.length∧Pv i σ H,⟨xs.length,by simp,Nat.zero_le _,h0⟩,?_⟩
 rintro i m σ H ⟨rfl,hi,p⟩
 have q:=hl i σ H hi p
 by_cases hlt:i < xs.length
 ·refine .inr ⟨⟨xs,xs[i],q,by simp [hlt]⟩,Pv (i+1),fun σ' H' p'=>⟨xs.length - (i+1),by omega,rfl,hlt,p'⟩,fun x H' y=>?_⟩
  obtain ⟨e,y⟩:=y
  subst e
  exact hs i x σ _ (y xs q) p
 ·have e:i=xs.length:=by omega
  subst e
  exact .inl ⟨⟨xs,q,Nat.le_refl _⟩,hd σ H p⟩
theorem zcC {lo:Int}{n:Nat}{g:TG}{tb:TS}{D:Ends}{σ :St}{H:Hp}(Pv:Nat→St→Hp→Prop)(h0:Pv 0 σ H)
  (hs:∀ i σ H,i < n→Pv i σ H→g (.int (lo+i)) σ H fun σ2 H2=>tb {D with nx:=Pv (i+1),ct:=Pv (i+1),bk:=D.nx} σ2 H2) (hd:∀ σ H,Pv n σ H→D.nx σ H):
  ∃ W:Nat→Nat→St→Hp→Prop,(∃ m,W 0 m σ H)∧∀ i m σ H,W i m σ H→
   ((Itr lo n).stop i H∧D.nx σ H)∨((Itr lo n).go i H∧∃ N:St→Hp→Prop,(∀ σ' H',N σ' H'→∃ m',m' < m∧W (i+1) m' σ' H')∧∀ x H',(Itr lo n).yld i H x H'→g x σ H' fun σ2 H2=>tb {D with nx:=N,ct:=N,bk:=D.nx} σ2 H2):=by
 refine ⟨fun i m σ H=>m=n - i∧i≤n∧Pv i σ H,⟨n,by simp,Nat.zero_le _,h0⟩,?_⟩
 rintro i m σ H ⟨rfl,hi,p⟩
 by_cases hlt:i < n
 ·refine .inr ⟨hlt,Pv (i+1),fun σ' H' p'=>⟨n - (i+1),by omega,rfl,hlt,p'⟩,fun x H' y=>?_⟩
  obtain ⟨e,y⟩:=y
  subst e y
  exact hs i σ _ hlt p
 ·have e:i=n:=by omega
  subst e
  exact .inl ⟨Nat.le_refl _,hd σ H p⟩
end L2
namespace L2
open PySem PySem.Spec PyProof.Rows
noncomputable abbrev R2:=V→V→Hp→VK→Prop
noncomputable def OpR (X:Cx) (f:Value→Value→Sem Value) (r:R2):Prop:=
 ∀ (pins:List (Addr×Obj)) (s:Shared) (σ :St) (H:Hp) (x y:V) (v u:Value) (Q:VK),Inv X pins σ H s→RelV x v→RelV y u→r x y H Q→
  wpAny (model X.prog X.w) X.A (f v u) (EP X pins σ Q) X.xe s
noncomputable def UnR (X:Cx) (f:Value→Sem Value) (r:V→Hp→VK→Prop):Prop:=
 ∀ (pins:List (Addr×Obj)) (s:Shared) (σ :St) (H:Hp) (x:V) (v:Value) (Q:VK),Inv X pins σ H s→RelV x v→r x H Q→
  wpAny (model X.prog X.w) X.A (f v) (EP X pins σ Q) X.xe s
noncomputable def zc8 (X:Cx) (f:Value) (r:List V→Hp→VK→Prop):Prop:=
 ∀ (pins:List (Addr×Obj)) (s:Shared) (σ :St) (H:Hp) (xs:List V) (us:List Value) (Q:VK),Inv X pins σ H s→Vals xs us→r xs H Q→
  wpAny (model X.prog X.w) X.A (call f us) (EP X pins σ Q) X.xe s
noncomputable def tOp (r:R2) (ta tb:TE):TE:=fun σ H Q=>ta σ H fun x H1=>tb σ H1 fun y H2=>r x y H2 Q
noncomputable def tUn (r:V→Hp→VK→Prop) (ta:TE):TE:=fun σ H Q=>ta σ H fun x H1=>r x H1 Q
noncomputable def rI (C:Int→Int→Prop) (g:Int→Int→V):R2:=fun x y H Q=>∃ i j,x= .int i∧y= .int j∧C i j∧Q (g i j) H
noncomputable def rI0 (g:Int→Int→V):R2:=fun x y H Q=>∃ i j,x= .int i∧y= .int j∧Q (g i j) H
noncomputable def rU (g:Int→V):V→Hp→VK→Prop:=fun x H Q=>∃ i,x= .int i∧Q (g i) H
section
variable {X:Cx} {a b c:Expr} {ta tb tc:TE} {pos:Pos}
theorem binT (ha:PE X a ta)(hb:PE X b tb){pins:List (Addr×Obj)}{s:Shared}{σ :St}{H:Hp}{R:V→V→Hp→Prop}(I:Inv X pins σ H s)
  (h:ta σ H fun x H1=>tb σ H1 fun y H2=>R x y H2) {Q:Value→Shared→Prop} {f:Value→Value→Sem Value}
  (hf:∀ v u s2 x y H2,Inv X pins σ H2 s2→RelV x v→RelV y u→R x y H2→wpAny (model X.prog X.w) X.A (f v u) Q X.xe s2):
  wpAny (model X.prog X.w) X.A (eval a X.env) (fun v s₁ =>wpAny (model X.prog X.w) X.A (eval b X.env) (fun u s₂ =>wpAny (model X.prog X.w) X.A (f v u) Q X.xe s₂) X.xe s₁) X.xe s:=by
 refine thn (ha pins s σ H _ I h) fun v s1 ⟨x,H1,I1,r1,q1⟩=>?_
 refine thn (hb pins s1 σ H1 _ I1 q1) fun u s2 ⟨y,H2,I2,r2,q2⟩=>?_
 exact hf v u s2 x y H2 I2 r1 r2 q2
theorem pe_op {op:Operator}{r:R2}(ho:OpR X (binaryOp op) r)(ha:PE X a ta)(hb:PE X b tb):PE X (.BinOp a op b pos) (tOp r ta tb):=by
 intro pins s σ H Q I h
 exact wpAny_BinOp (binT ha hb I h fun v u s2 x y H2 I2 rx ry q=>ho pins s2 σ H2 x y v u Q I2 rx ry q)
theorem pe_un {op:UnaryOp}{r:V→Hp→VK→Prop}(ho:UnR X (unaryOp op) r)(ha:PE X a ta):PE X (.UnaryOp op a pos) (tUn r ta):=by
 intro pins s σ H Q I h
 exact UnaryOp_ (thn (ha pins s σ H _ I h) fun v s1 ⟨x,H1,I1,r1,q1⟩=>ho pins s1 σ H1 x v Q I1 r1 q1)
theorem opI {f:Value→Value→Sem Value}{C:Int→Int→Prop}{g:Int→Int→Int}
  (rule:∀ (i j:Int) (t u:Tok) (s:Shared) (Q:Value→Shared→Prop) (E:Value→Shared→Prop),C i j→Q (.int (g i j) s.toks) {s with toks:=s.toks+1}→wpAny (model X.prog X.w) X.A (f (.int i t) (.int j u)) Q E s):
  OpR X f (rI C fun i j=>.int (g i j)):=by
 intro pins s σ H x y v u Q I rx ry h
 obtain ⟨i,j,rfl,rfl,hc,q⟩:=h
 obtain ⟨t,rfl⟩:=rx
 obtain ⟨t',rfl⟩:=ry
 exact rule i j t t' s _ _ hc ⟨.int (g i j),H,I.tok _,⟨_,rfl⟩,q⟩
theorem opI0 {f:Value→Value→Sem Value}{g:Int→Int→Int}
  (rule:∀ (i j:Int) (t u:Tok) (s:Shared) (Q:Value→Shared→Prop) (E:Value→Shared→Prop),Q (.int (g i j) s.toks) {s with toks:=s.toks+1}→wpAny (model X.prog X.w) X.A (f (.int i t) (.int j u)) Q E s):
  OpR X f (rI0 fun i j=>.int (g i j)):=by
 intro pins s σ H x y v u Q I rx ry h
 obtain ⟨i,j,rfl,rfl,q⟩:=h
 obtain ⟨t,rfl⟩:=rx
 obtain ⟨t',rfl⟩:=ry
 exact rule i j t t' s _ _ ⟨.int (g i j),H,I.tok _,⟨_,rfl⟩,q⟩
theorem opB0 {f:Value→Value→Sem Value}{g:Int→Int→Bool}
  (rule:∀ (i j:Int) (t u:Tok) (s:Shared) (Q:Value→Shared→Prop) (E:Value→Shared→Prop),Q (.bool (g i j)) s→wpAny (model X.prog X.w) X.A (f (.int i t) (.int j u)) Q E s):
  OpR X f (rI0 fun i j=>.bl (g i j)):=by
 intro pins s σ H x y v u Q I rx ry h
 obtain ⟨i,j,rfl,rfl,q⟩:=h
 obtain ⟨t,rfl⟩:=rx
 obtain ⟨t',rfl⟩:=ry
 exact rule i j t t' s _ _ ⟨.bl (g i j),H,I,rfl,q⟩
noncomputable def CDiv (i j:Int):Prop:=0 < j∧j < 1073741824
noncomputable def CPow (i j:Int):Prop:=0≤j∧j≤1000000∧i.natAbs < 2 ^ 64
noncomputable def CMul (i j:Int):Prop:=(-(2 ^ 64) < i∧i < 2 ^ 64)∨(-(2 ^ 64) < j∧j < 2 ^ 64)
theorem CMul.ok {i j:Int}(h:CMul i j):IntMulOk i j:=by
 rcases h with ⟨h1,h2⟩ | ⟨h1,h2⟩
 ·exact .of_left (intBits_le_64 h1 h2)
 ·exact .of_right (intBits_le_64 h1 h2)
theorem zi0 (k:Nat):(0:Int)≤2 ^ k:=by
 rw [two_pow_cast]
 exact Int.natCast_nonneg _
theorem zcj:OpR X (binaryOp .Add) (rI0 fun i j=>.int (i+j)):=opI0 fun _ _ _ _ _ _ _ q=>add_int q
theorem zdC:OpR X (binaryOp .Sub) (rI0 fun i j=>.int (i - j)):=opI0 fun _ _ _ _ _ _ _ q=>sub_int q
theorem zgX:OpR X (binaryOp .Mult) (rI CMul fun i j=>.int (i * j)):=opI fun _ _ _ _ _ _ _ hc q=>mul_int q hc.ok
theorem zdt:OpR X (binaryOp .FloorDiv) (rI CDiv fun i j=>.int (i / j)):=opI fun i j _ _ _ _ _ hc q=>by
 have h1:(0:Int) < j:=hc.1
 have h2:j < 1073741824:=hc.2
 exact floordiv_int (by omega) (by rw [Int.fdiv_eq_ediv_of_nonneg i (by omega)];exact q) (.inl (PyProof.noPylong_small (by omega)))
theorem zcd:OpR X (binaryOp .Mod) (rI (fun _ j=>0 < j) fun i j=>.int (i % j)):=opI fun i j _ _ _ _ _ hc q=>by
 have h1:(0:Int) < j:=hc
 exact mod_int' (by omega) (by rw [Int.fmod_eq_emod_of_nonneg i (by omega)];exact q)
theorem zks:OpR X (binaryOp .Pow) (rI CPow fun i j=>.int (i ^ j.toNat)):=opI fun _ _ _ _ _ _ _ hc q=>pow_int_small hc.1 hc.2.1 hc.2.2 q
theorem op_shr:OpR X (binaryOp .RShift) (rI (fun _ j=>0≤j) fun i j=>.int (i / 2 ^ j.toNat)):=opI fun i j _ _ _ _ _ hc q=>
 rshift_int hc (by rw [Int.fdiv_eq_ediv_of_nonneg i (zi0 _)];exact q)
theorem zhV:OpR X (binaryOp .BitAnd) (rI0 fun i j=>.int (Builtin.bitAnd i j)):=opI0 fun _ _ _ _ _ _ _ q=>and_int q
theorem zmd:OpR X (binaryOp .BitOr) (rI0 fun i j=>.int (Builtin.bitOr i j)):=opI0 fun _ _ _ _ _ _ _ q=>or_int q
theorem zil:OpR X (binaryOp .BitXor) (rI0 fun i j=>.int (Builtin.bitXor i j)):=opI0 fun _ _ _ _ _ _ _ q=>xor_int q
theorem unI {f:Value→Sem Value}{g:Int→Int}
  (rule:∀ (i:Int) (t:Tok) (s:Shared) (Q:Value→Shared→Prop) (E:Value→Shared→Prop),Q (.int (g i) s.toks) {s with toks:=s.toks+1}→wpAny (model X.prog X.w) X.A (f (.int i t)) Q E s):
  UnR X f (rU fun i=>.int (g i)):=by
 intro pins s σ H x v Q I rx h
 obtain ⟨i,rfl,q⟩:=h
 obtain ⟨t,rfl⟩:=rx
 exact rule i t s _ _ ⟨.int (g i),H,I.tok _,⟨_,rfl⟩,q⟩
theorem zlQ:UnR X (unaryOp .USub) (rU fun i=>.int (-i)):=unI fun _ _ _ _ _ q=>neg_int q
end
noncomputable def scal:V→V→Bool
 | .non,.non=>true | .non,.int _=>true | .int _,.non=>true | .non,.bl _=>true | .bl _,.non=>true | .non,.str _=>true | .str _,.non=>true
 | .int _,.int _=>true | .bl _,.bl _=>true | .str _,.str _=>true | .byt _,.byt _=>true
 | .int _,.str _=>true | .str _,.int _=>true | .bl _,.str _=>true | .str _,.bl _=>true
 | _,_=>false
noncomputable def rEq:R2:=fun x y H Q=>scal x y=true∧Q (.bl (decide (x=y))) H
noncomputable def rNe:R2:=fun x y H Q=>scal x y=true∧Q (.bl (!decide (x=y))) H
theorem zi7 {i j:Int}:decide (V.int i=V.int j)=(i==j):=by
 rw [Bool.eq_iff_iff]
 simp
theorem zlM {i j:Bool}:decide (V.bl i=V.bl j)=(i==j):=by
 rw [Bool.eq_iff_iff]
 simp
theorem zjH {i j:Str}:decide (V.str i=V.str j)=(i==j):=by
 rw [Bool.eq_iff_iff]
 simp
theorem zjQ {i j:Array UInt8}:decide (V.byt i=V.byt j)=(i.toList==j.toList):=by
 rw [Bool.eq_iff_iff]
 cases i
 cases j
 simp
section
variable {X:Cx} {a b c:Expr} {ta tb tc:TE} {pos:Pos}
theorem za4 {pins:List (Addr×Obj)}{σ :St}{H:Hp}{s:Shared}{Q:VK}{k k':Bool}(I:Inv X pins σ H s)(q:Q (.bl k) H)(e:k=k'):EP X pins σ Q (.bool k') s:=by
 subst e
 exact ⟨.bl k,H,I,rfl,q⟩
theorem zcQ:OpR X (compareOp .Eq) rEq:=by
 intro pins s σ H x y v u Q I rx ry h
 obtain ⟨hs,q⟩:=h
 cases x with
 | non=>
  cases rx
  cases y with
  | non=>cases ry;exact PySem.EqNone.eq_none_none (za4 I q (by simp))
  | bl j=>cases ry;exact PySem.EqNone.eq_none_bool (za4 I q (by simp))
  | int j=>obtain ⟨t',rfl⟩:=ry;exact PySem.EqNone.eq_none_int (za4 I q (by simp))
  | str j=>obtain ⟨t',rfl⟩:=ry;exact PySem.EqNone.eq_none_str (za4 I q (by simp))
  | _=>exact absurd (show false=true from hs) Bool.false_ne_true
 | bl i=>
  cases rx
  cases y with
  | non=>cases ry;exact PySem.EqNone.eq_bool_none (za4 I q (by simp))
  | bl j=>cases ry;exact eq_bool (za4 I q zlM)
  | str j=>obtain ⟨t',rfl⟩:=ry;exact PySem.EqMixed.eq_bool_str (za4 I q (by simp))
  | _=>exact absurd (show false=true from hs) Bool.false_ne_true
 | int i=>
  obtain ⟨t,rfl⟩:=rx
  cases y with
  | non=>cases ry;exact PySem.EqNone.eq_int_none (za4 I q (by simp))
  | int j=>obtain ⟨t',rfl⟩:=ry;exact eq_int (za4 I q zi7)
  | str j=>obtain ⟨t',rfl⟩:=ry;exact PySem.EqMixed.eq_int_str (za4 I q (by simp))
  | _=>exact absurd (show false=true from hs) Bool.false_ne_true
 | str i=>
  obtain ⟨t,rfl⟩:=rx
  cases y with
  | non=>cases ry;exact PySem.EqNone.eq_str_none (za4 I q (by simp))
  | bl j=>cases ry;exact PySem.EqMixed.eq_str_bool (za4 I q (by simp))
  | int j=>obtain ⟨t',rfl⟩:=ry;exact PySem.EqMixed.eq_str_int (za4 I q (by simp))
  | str j=>obtain ⟨t',rfl⟩:=ry;exact eq_str (za4 I q zjH)
  | _=>exact absurd (show false=true from hs) Bool.false_ne_true
 | byt i=>
  obtain ⟨t,rfl⟩:=rx
  cases y with
  | byt j=>obtain ⟨t',rfl⟩:=ry;exact PySem.W.eq_bytes (za4 I q zjQ)
  | _=>exact absurd (show false=true from hs) Bool.false_ne_true
 | _=>cases y <;> exact absurd (show false=true from hs) Bool.false_ne_true
theorem zjo:OpR X (compareOp .NotEq) rNe:=by
 intro pins s σ H x y v u Q I rx ry h
 obtain ⟨hs,q⟩:=h
 cases x with
 | non=>
  cases rx
  cases y with
  | non=>cases ry;exact PySem.EqNone.ne_none_none (za4 I q (by simp))
  | bl j=>cases ry;exact PySem.EqNone.ne_none_bool (za4 I q (by simp))
  | int j=>obtain ⟨t',rfl⟩:=ry;exact PySem.EqNone.ne_none_int (za4 I q (by simp))
  | str j=>obtain ⟨t',rfl⟩:=ry;exact PySem.EqNone.ne_none_str (za4 I q (by simp))
  | _=>exact absurd (show false=true from hs) Bool.false_ne_true
 | bl i=>
  cases rx
  cases y with
  | non=>cases ry;exact PySem.EqNone.ne_bool_none (za4 I q (by simp))
  | bl j=>cases ry;exact ne_bool (za4 I q (congrArg not zlM))
  | str j=>obtain ⟨t',rfl⟩:=ry;exact PySem.EqMixed.ne_bool_str (za4 I q (by simp))
  | _=>exact absurd (show false=true from hs) Bool.false_ne_true
 | int i=>
  obtain ⟨t,rfl⟩:=rx
  cases y with
  | non=>cases ry;exact PySem.EqNone.ne_int_none (za4 I q (by simp))
  | int j=>obtain ⟨t',rfl⟩:=ry;exact ne_int (za4 I q (congrArg not zi7))
  | str j=>obtain ⟨t',rfl⟩:=ry;exact PySem.EqMixed.ne_int_str (za4 I q (by simp))
  | _=>exact absurd (show false=true from hs) Bool.false_ne_true
 | str i=>
  obtain ⟨t,rfl⟩:=rx
  cases y with
  | non=>cases ry;exact PySem.EqNone.ne_str_none (za4 I q (by simp))
  | bl j=>cases ry;exact PySem.EqMixed.ne_str_bool (za4 I q (by simp))
  | int j=>obtain ⟨t',rfl⟩:=ry;exact PySem.EqMixed.ne_str_int (za4 I q (by simp))
  | str j=>obtain ⟨t',rfl⟩:=ry;exact ne_str (za4 I q (congrArg not zjH))
  | _=>exact absurd (show false=true from hs) Bool.false_ne_true
 | byt i=>
  obtain ⟨t,rfl⟩:=rx
  cases y with
  | byt j=>obtain ⟨t',rfl⟩:=ry;exact PySem.W.ne_bytes (za4 I q (congrArg not zjQ))
  | _=>exact absurd (show false=true from hs) Bool.false_ne_true
 | _=>cases y <;> exact absurd (show false=true from hs) Bool.false_ne_true
theorem zjx:OpR X (compareOp .Lt) (rI0 fun i j=>.bl (decide (i < j))):=opB0 fun _ _ _ _ _ _ _ q=>lt_int q
theorem op_gt:OpR X (compareOp .Gt) (rI0 fun i j=>.bl (decide (j < i))):=opB0 fun _ _ _ _ _ _ _ q=>gt_int q
theorem op_ge:OpR X (compareOp .GtE) (rI0 fun i j=>.bl (decide (j≤i))):=opB0 fun _ _ _ _ _ _ _ q=>ge_int q
theorem zaF (b:Expr){op:CmpOp}(h:op≠.In:=by decide)(h2:op≠.NotIn:=by decide):behindInMarks op b=false:=by
 have e1:(op==CmpOp.In)=false:=by cases op <;> first | rfl | exact absurd rfl h
 have e2:(op==CmpOp.NotIn)=false:=by cases op <;> first | rfl | exact absurd rfl h2
 cases b <;> simp [behindInMarks,e1,e2]
theorem zl4 {op:CmpOp}{r:R2}(ho:OpR X (compareOp op) r)(ha:PE X a ta)(hb:PE X b tb)(hm:behindInMarks op b=false):PE X (.Compare a [op] [b] pos) (tOp r ta tb):=by
 intro pins s σ H Q I h
 exact wpAny_Compare1 (binT ha hb I h fun v u s2 x y H2 I2 rx ry q=>ho pins s2 σ H2 x y v u Q I2 rx ry q) hm
noncomputable def tTest (t:TE):TT:=fun σ H Q=>t σ H fun x H'=>∃ k,x= .bl k∧Q k H'
theorem zl7 {op:CmpOp}{r:R2}(ho:OpR X (compareOp op) r)(ha:PE X a ta)(hb:PE X b tb)(hm:behindInMarks op b=false):PT X (.Compare a [op] [b] pos) (tTest (tOp r ta tb)):=by
 intro pins s σ H Q I h
 refine wpAny_isTrue_Compare1 (thn (ha pins s σ H _ I h) fun v s1 ⟨x,H1,I1,r1,q1⟩=>thn (hb pins s1 σ H1 _ I1 q1) fun u s2 ⟨y,H2,I2,r2,q2⟩=>
  thn (ho pins s2 σ H2 x y v u _ I2 r1 r2 q2) fun c s3 ⟨z,H3,I3,r3,k,e,q3⟩=>?_) hm
 subst e
 cases r3
 exact wpAny_truthy_bool ⟨H3,I3,q3⟩
theorem zii:(sizeLine:Nat) < 2 ^ 63:=by rw [sizeLine_eq];decide
theorem zgm {x:V}{us:List Value}(r:Vals [x] us):∃ u,us= [u]∧RelV x u:=by
 cases r with
 | cons r1 r2=>cases r2;exact ⟨_,rfl,r1⟩
theorem zkg {x y:V}{us:List Value}(r:Vals [x,y] us):∃ u w',us= [u,w']∧RelV x u∧RelV y w':=by
 cases r with
 | cons r1 r2=>
  cases r2 with
  | cons r3 r4=>cases r4;exact ⟨_,_,rfl,r1,r3⟩
theorem zjq (hc:X.calm=true):zc8 X (.builtin "min") (fun xs H Q=>∃ i j,xs= [.int i,.int j]∧Q (.int (if j < i then j else i)) H):=by
 intro pins s σ H xs us Q I r h
 obtain ⟨i,j,rfl,q⟩:=h
 obtain ⟨u,w',rfl,⟨t,rfl⟩,⟨t',rfl⟩⟩:=zkg r
 refine min_two_ints (I.ok.hd hc) fun h' tk k=>⟨_,H,I.kept k,?_,q⟩
 by_cases hj:j < i
 ·rw [if_pos hj,if_pos hj];exact ⟨_,rfl⟩
 ·rw [if_neg hj,if_neg hj];exact ⟨_,rfl⟩
theorem zfs:zc8 X (.type "int") (fun xs H Q=>(∃ i,xs= [.int i]∧Q (.int i) H)∨∃ k,xs= [.bl k]∧Q (.int (if k then 1 else 0)) H):=by
 intro pins s σ H xs us Q I r h
 rcases h with ⟨i,rfl,q⟩ | ⟨k,rfl,q⟩
 ·obtain ⟨u,rfl,t,rfl⟩:=zgm r
  exact call_int_int ⟨.int i,H,I,⟨_,rfl⟩,q⟩
 ·obtain ⟨u,rfl,r1⟩:=zgm r
  cases r1
  exact call_int_bool ⟨.int (if k then 1 else 0),H,I.tok _,⟨_,rfl⟩,q⟩
end
end L2
namespace L2
open PySem PySem.Spec PyProof.Rows
structure ObjM (h:Heap) (x dx C:Addr) (mA:Str→Option Value):Prop where
 obj:h.get? x=some (PySem.W.instObj C dx)
 ns:h.Ns1 dx mA
 ne:dx≠x
theorem zjc {h:Heap}{dx:Addr}{mA:Str→Option Value}(n:h.Ns1 dx mA):∃ od,h.get? dx=some od∧∀ name,PySem.W.lookIn name od=some (mA name):=by
 obtain ⟨o,es,ep,ho,hd,hk,_,hm⟩:=n
 refine ⟨o,ho,fun name=>?_⟩
 have e:=hm name
 unfold nsFind findBy at e
 rw [← Array.find?_toList] at e
 unfold PySem.W.lookIn
 rw [hd]
 dsimp only
 split
 ·rename_i y q
  rw [q] at e
  exact congrArg some e
 ·rename_i q
  rw [q] at e
  have a:es.toList.any (·.refKey)=false:=by
   rw [List.any_eq_false]
   intro y hy
   obtain ⟨z,t,hkey⟩:=hk y (Array.mem_toList_iff.mp hy)
   simp [DictEntry.refKey,hkey]
  have a':¬es.toList.any (·.refKey)=true:=by rw [a];exact Bool.false_ne_true
  rw [if_neg a']
  exact congrArg some e
theorem ObjM.look {h:Heap}{x dx C:Addr}{mA:Str→Option Value}(I:ObjM h x dx C mA):∃ od,PySem.W.InstAt h x (PySem.W.instObj C dx) C (some od)∧∀ name,PySem.W.lookIn name od=some (mA name):=
 let ⟨od,ho,hl⟩:=zjc I.ns
 ⟨od,⟨I.obj,rfl,rfl,ho⟩,hl⟩
section
variable {prog:Program} {w:World} {A:Around} {E:Value→Shared→Prop} {s:Shared} {K:PySem.W.Frag} {x dx C f:Addr} {mA:Str→Option Value} {name:Str} {v:Value}
end
theorem RelO.some_of {v:V}{o:Option Value}(r:RelO (some v) o):∃ u,o=some u∧RelV v u:=by
 cases o with
 | none=>exact (show False from r).elim
 | some u=>exact ⟨u,rfl,r⟩
section
variable {P:Program} {w:World} {H H':Hp} {h h':Heap} {a C dx:Addr} {fs fs':List (Str×V)}
theorem zmw (hok:HOk P w H h)(e:H a=some (.ins C dx fs)):∃ mA,ObjM h a dx C mA∧(∀ f,RelO (fs.lookup f) (mA f))∧PySem.Within mA (fs.map (·.1))∧fs.length≤1000∧H dx=some (.own a):=by
 obtain ⟨d,z,ne,ob,mA,n,r,q⟩:=(show zbm P w H h a (.ins C dx fs) from hok a _ e)
 exact ⟨mA,⟨ob,n,ne⟩,r,q,z,d⟩
end
structure Cls (K:PySem.W.Frag) (C:Addr):Prop where
 pg:PySem.W.plainGet K C Str.empty=true
 hd:PySem.W.hasDictIn K C=true
 po:PySem.W.plainOver K C=true
 sa:PySem.W.findIn K (.ref C) "__setattr__" =some (some (.builtin "object.__setattr__"))
theorem Cls.get {K:PySem.W.Frag}{C:Addr}(c:Cls K C)(f:Str):PySem.W.plainGet K C f=true:=c.pg
section
variable {X:Cx} {pins:List (Addr×Obj)} {σ :St} {H:Hp} {s:Shared} {a C dx:Addr} {fs:List (Str×V)} {f:Str} {v:V} {A:Around} {E:Value→Shared→Prop}
end
section
variable {X:Cx} {o e value:Expr} {f:Str} {pos pos' tpos:Pos} {ta tv:TE}
end
section
variable {X:Cx} {pins:List (Addr×Obj)} {σ :St} {H:Hp} {s:Shared} {A:Around} {E:Value→Shared→Prop} {Q:Value→Shared→Prop} {c:Value} {b:Bool}
inductive TyOf (K:PySem.W.Frag) (H:Hp):V→Value→Prop where
 | non:TyOf K H .non (.type "NoneType")
 | bl (x:Bool):TyOf K H (.bl x) (.type "bool")
 | int (i:Int):TyOf K H (.int i) (.type "int")
 | str (x:Str):TyOf K H (.str x) (.type "str")
 | flt (x:UInt64):TyOf K H (.flt x) (.type "float")
 | lst {a:Addr} {xs:List V} (e:H a=some (.lst xs)):TyOf K H (.ref a) (.type "list")
 | frz {a:Addr} {o:Obj} {xs:List V} (e:H a=some (.frz o (.lst xs))):TyOf K H (.ref a) (.type "list")
 | tup {a:Addr} {xs:List V} (e:H a=some (.tup xs)):TyOf K H (.ref a) (.type "tuple")
 | dK {a:Addr} {kvs:List (Key×V)} (e:H a=some (.dK kvs)):TyOf K H (.ref a) (.type "dict")
 | dT {a:Addr} {kvs:List (List Key×V)} (e:H a=some (.dT kvs)):TyOf K H (.ref a) (.type "dict")
 | ins {a C dx:Addr} {fs:List (Str×V)} (e:H a=some (.ins C dx fs)) (cl:Cls K C) (ha:PySem.W.findIn K (.ref C) "__class__" =some (some (.builtin "object.__class__")))
   (hn:PySem.W.specialIn K (.builtin "object.__class__") "__get__" =some (some (.builtin "getset_descriptor.__get__"))) (htk:PySem.W.takesIn K (.builtin "object.__class__")=some true)
   (hm:PySem.W.mroIn K C (.type "object")=some true):TyOf K H (.ref a) (.ref C)
theorem zj8 {x:V}{u t:Value}(I:Inv X pins σ H s)(rx:RelV x u)(ty:TyOf X.K H x t)(e:PySem.W.kitOne X.K t c=some b)(h:∀ tk,Q (.bool b) {s with toks:=tk}):
  wpAny (model X.prog X.w) A (call (.builtin "isinstance") [u,c]) Q E s:=by
 cases ty with
 | non=>cases (show u=Value.none from rx);exact PySem.W.kia_one PySem.W.kitx_none I.kIn True.intro e (fun z=>nomatch z) h
 | bl y=>cases (show u=Value.bool y from rx);exact PySem.W.kia_one PySem.W.kitx_bool I.kIn True.intro e (fun z=>nomatch z) h
 | int i=>obtain ⟨t,q⟩:=(show ∃ t,u=Value.int i t from rx);cases q;exact PySem.W.kia_one PySem.W.kitx_int I.kIn True.intro e (fun z=>nomatch z) h
 | str y=>obtain ⟨t,q⟩:=(show ∃ t,u=Value.str y t from rx);cases q;exact PySem.W.kia_one PySem.W.kitx_str I.kIn True.intro e (fun z=>nomatch z) h
 | flt y=>obtain ⟨t,q⟩:=(show ∃ t,u=Value.float y t from rx);cases q;exact PySem.W.kia_one PySem.W.kitx_float I.kIn True.intro e (fun z=>nomatch z) h
 | @lst a xs ea=>
  cases (show u=Value.ref a from rx)
  obtain ⟨_,_,n,_,h1⟩:=(show zbm X.prog X.w H s.heap a (.lst xs) from I.hok a _ ea)
  exact PySem.W.kia_one PySem.W.kitx_list I.kIn ⟨_,h1,rfl⟩ e (fun z=>nomatch z) h
 | @frz a ob xs ea=>
  cases (show u=Value.ref a from rx)
  obtain ⟨_,_,_,n,_,h1⟩:=(show zbm X.prog X.w H s.heap a (.frz ob (.lst xs)) from I.hok a _ ea)
  exact PySem.W.kia_one PySem.W.kitx_list I.kIn ⟨_,h1,rfl⟩ e (fun z=>nomatch z) h
 | @tup a xs ea=>
  cases (show u=Value.ref a from rx)
  obtain ⟨_,_,_,p⟩:=(show zbm X.prog X.w H s.heap a (.tup xs) from I.hok a _ ea)
  obtain ⟨o,h1,h2,_⟩:=p
  exact PySem.W.kia_one PySem.W.kitx_tuple I.kIn ⟨o,h1,h2⟩ e (fun z=>nomatch z) h
 | @dK a kvs ea=>
  cases (show u=Value.ref a from rx)
  obtain ⟨_,_,vs,_,p⟩:=(show zbm X.prog X.w H s.heap a (.dK kvs) from I.hok a _ ea)
  obtain ⟨o,es,ep,h1,h2,_⟩:=p
  exact PySem.W.kia_one PySem.W.kitx_dict I.kIn ⟨o,h1,h2.1⟩ e (fun z=>nomatch z) h
 | @dT a kvs ea=>
  cases (show u=Value.ref a from rx)
  obtain ⟨_,_,xs,_,o,es,ep,h1,h2,_⟩:=(show zbm X.prog X.w H s.heap a (.dT kvs) from I.hok a _ ea)
  exact PySem.W.kia_one PySem.W.kitx_dict I.kIn ⟨o,h1,h2.1⟩ e (fun z=>nomatch z) h
 | @ins a C dx fs ea cl ha hn htk hm=>
  cases (show u=Value.ref a from rx)
  obtain ⟨mA,O,_⟩:=zmw I.hok ea
  obtain ⟨od,J,_⟩:=O.look
  exact PySem.W.kia_one (PySem.W.kitx_own (cl.get _) cl.hd ha hn htk hm) I.kIn J e (fun z=>nomatch z) h
end
end L2
namespace L2
open PySem PySem.Spec PyProof.Rows
structure Room (k:Nat) (A:Around):Prop where
 hd:A.handled=none
 dp:A.depth+3 * k+5 < recursionLimit
 un:A.units+16 * k+200 < cLine
 gd:A.guards=some []
theorem Room.mono {j k:Nat}{A:Around}(r:Room k A)(h:j≤k):Room j A:=⟨r.hd,by have:=r.dp;omega,by have:=r.un;omega,r.gd⟩
theorem Room.deeper {k:Nat}{A:Around}(r:Room (k+1) A)(env:Env):Room k (A.deeper env):=
 ⟨r.hd,by have:=r.dp;show A.depth+1+3 * k+5 < _;omega,by have:=r.un;show A.units+3+16 * k+200 < _;omega,r.gd⟩
theorem Room.depth {k:Nat}{A:Around}(r:Room k A):A.depth < recursionLimit:=by have:=r.dp;omega
theorem Room.units {k:Nat}{A:Around}(r:Room k A):A.units+64 < cLine:=by have:=r.un;omega
noncomputable def tNil:TA:=fun _ H Q=>Q [] H
noncomputable def tCons (ta:TE) (tr:TA):TA:=fun σ H Q=>ta σ H fun x H1=>tr σ H1 fun xs H2=>Q (x::xs) H2
section
variable {X:Cx} {e:Expr} {es:List Expr} {te:TE} {t:TA} {pos:Pos}
theorem pa_nil:PA X [] tNil:=fun _ _ _ _ H Q I h=>Calls.spliced_nil ⟨[],H,I,.nil,h⟩
theorem zmP (ha:PE X e te)(hr:PA X es t)(hs:starEach (e::es) X.env=(false,eval e X.env)::starEach es X.env:=by rfl):PA X (e::es) (tCons te t):=by
 intro pos pins s σ H Q I h
 rw [hs]
 show wpAny _ _ (spliced ((false,eval e X.env)::backTo pos (starEach es X.env))) _ _ s
 refine Calls.spliced_cons (thn (ha pins s σ H _ I h) fun u s1 ⟨x,H1,I1,r1,q1⟩=>?_)
 exact thn (hr pos pins s1 σ H1 _ I1 q1) fun us s2 ⟨xs,H2,I2,r2,q2⟩=>⟨x::xs,H2,I2,.cons r1 r2,q2⟩
noncomputable def tTup (t:TA):TE:=fun σ H Q=>t σ H fun xs H1=>xs.length≤sizeLine∧∀ p,H1 p=none→Q (.ref p) (upd H1 p (.tup xs))
noncomputable def tLst (t:TA):TE:=fun σ H Q=>t σ H fun xs H1=>xs.length≤sizeLine∧∀ p,H1 p=none→Q (.ref p) (upd H1 p (.lst xs))
theorem pe_tup {x1}(h:PA X es t):PE X (.Tuple es x1 pos) (tTup t):=by
 intro pins s σ H Q I hq
 refine wpAny_Tuple_spliced (thn (h pos pins s σ H _ I hq) fun us s1 ⟨xs,H1,I1,r,z,q⟩=>⟨by rw [← r.length];exact z,?_⟩)
 have hf:H1 s1.heap.objs.size=none:=I1.hok.fresh (Nat.le_refl _)
 refine ⟨.ref s1.heap.objs.size,upd H1 s1.heap.objs.size (.tup xs),I1.laid (t':=s1.toks) (fun b u e=>Heap.get?_push_of_some _ e) (Nat.le_refl _) ?_,rfl,q _ hf⟩
 exact ⟨z,us,r,⟨_,Heap.get?_push_size _ rfl,rfl,_,rfl⟩⟩
theorem pe_lst (h:PA X es t):PE X (.List es pos) (tLst t):=by
 intro pins s σ H Q I hq
 refine wpAny_List_spliced (thn (h pos pins s σ H _ I hq) fun us s1 ⟨xs,H1,I1,r,z,q⟩=>⟨by rw [← r.length];exact z,?_⟩)
 have hf:H1 s1.heap.objs.size=none:=I1.hok.fresh (Nat.le_refl _)
 refine ⟨.ref s1.heap.objs.size,upd H1 s1.heap.objs.size (.lst xs),I1.laid (t':=s1.toks) (fun b u e=>Heap.get?_push_of_some _ e) (Nat.le_refl _) ?_,rfl,q _ hf⟩
 exact ⟨z,us,0,r,Heap.get?_push_size _ rfl⟩
end
noncomputable abbrev Sp:=List V→Hp→VK→XK→Prop
noncomputable abbrev CXT:=List Env→Hp→Shared→XK→Value→Shared→Prop
structure Env0 (P:Program) (w:World) (K:PySem.W.Frag) (mg:Str→Option Value) (base:Heap) (A:Around) (outer:List Env) (s:Shared) (H:Hp):Prop where
 frames:A.frames=some outer
 mod:Mod K mg base
 bs:∀ b o,base.get? b=some o→s.heap.get? b=some o∧H b=none
 bsz:base.objs.size≤s.heap.objs.size
 funs:s.heap.FunFrames base outer
 frf:∀ b∈frs outer,H b=none
 hok:HOk P w H s.heap
 bare:AllBare s.gens
noncomputable def CE (outer:List Env) (P:Program) (w:World) (H:Hp) (s:Shared) (Q:VK) (u:Value) (s':Shared):Prop:=
 ∃ v H',s'.os=s.os∧AllBare s'.gens∧Un (frs outer) [] H H' s.heap s'.heap∧HOk P w H' s'.heap∧RelV v u∧Q v H'
noncomputable def CR (CX:CXT) (outer:List Env) (P:Program) (w:World) (H:Hp) (s:Shared) (Q:VK) (E:XK) (r:Result) (s':Shared):Prop:=
 match r with
 | .ok (.ret u)=>CE outer P w H s Q u s'
 | .ok _=>False
 | .error e=>CX outer H s E e s'
structure FnOk (P:Program) (w:World) (K:PySem.W.Frag) (mg:Str→Option Value) (base:Heap) (CX:CXT) (k:Nat) (f:Addr) (fd:FuncData) (ps:List Str) (sp:Sp):Prop where
 len:∀ vs H Q E,sp vs H Q E→vs.length=ps.length
 run:∀ (A:Around) (outer:List Env) (s:Shared) (H:Hp) (args:Args) (us:List Value) (vs:List V) (Q:VK) (E:XK),Room k A→Env0 P w K mg base A outer s H→BindsTo s fd args (ps.zip us)→Vals vs us→sp vs H Q E→
  codeAny (model P w) A (.call (.ref f) args) (CR CX outer P w H s Q E) s
theorem FnOk.imp {P:Program}{w:World}{K:PySem.W.Frag}{mg:Str→Option Value}{base:Heap}{CX:CXT}{k:Nat}{f:Addr}{fd:FuncData}{ps:List Str}{sp sp':Sp}(F:FnOk P w K mg base CX k f fd ps sp)
  (h:∀ vs H Q E,sp' vs H Q E→sp vs H Q E):FnOk P w K mg base CX k f fd ps sp':=
 ⟨fun vs H Q E q=>F.len vs H Q E (h _ _ _ _ q),fun A outer s H args us vs Q E hr he hb hv hs=>F.run A outer s H args us vs Q E hr he hb hv (h _ _ _ _ hs)⟩
section
variable {X:Cx} {pins:List (Addr×Obj)} {σ :St} {H:Hp} {s s':Shared}
theorem Inv.env0 (I:Inv X pins σ H s):Env0 X.prog X.w X.K X.mg X.base X.A X.stack s H:=
 ⟨I.ok.frames,I.ok.mod,I.bs,Nat.le_trans I.ok.bsz I.sz,I.stack,I.stkFree,I.hok,I.bare⟩
theorem Inv.after {Q:VK}{u:Value}(I:Inv X pins σ H s)(h:CE X.stack X.prog X.w H s Q u s'):EP X pins σ Q u s':=by
 obtain ⟨v,H',os,bare,un,hok,r,q⟩:=h
 obtain ⟨hh,g,d,t,os'⟩:=s'
 obtain rfl:os'=s.os:=os
 exact ⟨v,H',I.call (h':=hh) (g':=g) (d':=d) (t':=t) (ch:=[]) un hok bare (fun b z=>absurd z (by simp)),r,q⟩
end
noncomputable def tCall (sp:Sp) (dvs:List V) (E:XK) (t:TA):TE:=fun σ H Q=>t σ H fun vs H1=>sp (vs++dvs) H1 Q E
noncomputable def zff (K:PySem.W.Frag) (fd:FuncData) (ps:List Str) (ds:List Value):Prop:=
 ∀ (s:Shared) (us:List Value),K.In s.heap→(us++ds).length=ps.length→BindsTo s fd ⟨us,[]⟩ (ps.zip (us++ds))
theorem zff.all {K:PySem.W.Frag}{fd:FuncData}{ps:List Str}(h:∀ us:List Value,us.length=ps.length→bindArgs fd ⟨us,[]⟩=pure (ps.zip us)):zff K fd ps []:=fun s us _ hl=>by
 rw [List.append_nil] at hl ⊢
 exact .of_eq (h us hl)
noncomputable def zgO (CX:CXT) (X:Cx) (E:XK):Prop:=∀ (pins:List (Addr×Obj)) (σ :St) (H:Hp) (s:Shared) (e:Value) (s':Shared),Inv X pins σ H s→CX X.stack H s E e s'→X.xe e s'
section
variable {X:Cx} {CX:CXT} {k:Nat} {f C:Addr} {fd:FuncData} {ps:List Str} {sp:Sp} {dvs:List V} {ds:List Value} {E:XK} {x m:Str} {p pos apos:Pos} {e o:Expr} {es:List Expr} {ta:TE} {t:TA}
theorem run_fn {pins:List (Addr×Obj)}{σ :St}{H:Hp}{s:Shared}{Q:VK}{us:List Value}{vs:List V}(F:FnOk X.prog X.w X.K X.mg X.base CX k f fd ps sp)(hr:Room k X.A)(hb:zff X.K fd ps ds)(hd:Vals dvs ds)(hx:zgO CX X E)
  (I:Inv X pins σ H s) (r:Vals vs us) (h:sp (vs++dvs) H Q E):wpAny (model X.prog X.w) X.A (call (.ref f) us) (EP X pins σ Q) X.xe s:=by
 have r2:Vals (vs++dvs) (us++ds):=r.append hd
 have hl:(us++ds).length=ps.length:=by rw [← r2.length];exact F.len _ _ _ _ h
 refine wpAny_call (codeAny_mono (F.run X.A X.stack s H ⟨us,[]⟩ (us++ds) (vs++dvs) Q E hr I.env0 (hb s us I.kIn hl) r2 h) fun r s' hq=>?_)
 cases r with
 | error e=>exact hx pins σ H s e s' I hq
 | ok fl=>
  cases fl with
  | ret u=>exact I.after hq
  | next=>exact False.elim hq
  | brk=>exact False.elim hq
  | cont=>exact False.elim hq
theorem zmA (F:FnOk X.prog X.w X.K X.mg X.base CX k f fd ps sp)(hr:Room k X.A)(hg:Gl X x)(hm:X.mg x=some (.ref f))(hk:PySem.W.keepIn X.K (.ref f)=true)(hb:zff X.K fd ps ds)(hd:Vals dvs ds)(hx:zgO CX X E)
  (ha:PA X (e::es) t) (hdb:(x==("__debug__" :Str))=false:=by decide) (he:starEach (e::es) X.env=(false,eval e X.env)::starEach es X.env:=by rfl) (hpl:(backTo pos (starEach es X.env)).any (·.1)=false:=by rfl):
  PE X (.Call (.Name x p) (e::es) [] pos) (tCall sp dvs E t):=by
 intro pins s σ H Q I h
 refine wpAny_Call_Name_kw (zft I hg hm ?_ hdb)
 refine PySem.W.callWith_K (h₀ :=X.base) I.ok.mod.kin hk (thn (ha pos pins s σ H _ I h) fun us s1 ⟨vs,H1,I1,r,q⟩=>⟨I1.kIn,?_⟩) he hpl
 exact run_fn F hr hb hd hx I1 r q
end
section
variable {X:Cx} {CX:CXT} {k:Nat} {f C:Addr} {fd:FuncData} {ps ks:List Str} {sp:Sp} {E:XK} {x m:Str} {p pos apos kpos:Pos} {e o:Expr} {es:List Expr} {kws:List Keyword} {te ta:TE} {t tk:TA} {nm:Option Str}
variable {g:List Value→List Value→List Value} {gV:List V→List V→List V}
end
structure zax (N P:List Str) (sc:Scope):Prop where
 kind:sc.kind= .function
 co:sc.isCoroutine=false
 gen:sc.isGenerator=false
 nd:N.Nodup
 pre:N.take P.length=P
 par:∀ x∈P,sc.names.lookup x=some .local∨sc.names.lookup x=some .cell
 nofree:∀ y∈sc.names,y.2≠.free
theorem zhn {kindOf:Str→Option NameKind}{x:Str}:∀ {binds:List (Str×Value)} {m:Str→Option Value},(∀ v,(x,v)∉binds)→bindL kindOf binds m x=m x
 | [],_,_=>rfl
 | (n,v)::r,m,h=>by
  unfold bindL
  rw [zhn fun w hw=>h w (List.mem_cons_of_mem _ hw)]
  split
  ·have:x≠n:=by rintro rfl;exact h v List.mem_cons_self
   simp [this]
  ·rfl
theorem zg0 {kindOf:Str→Option NameKind}{x:Str}:∀ {binds:List (Str×Value)} {m:Str→Option Value},(∀ v,(x,v)∉binds)→bindC kindOf binds m x=m x
 | [],_,_=>rfl
 | (n,v)::r,m,h=>by
  unfold bindC
  rw [zg0 fun w hw=>h w (List.mem_cons_of_mem _ hw)]
  split
  ·rfl
  ·have:x≠n:=by rintro rfl;exact h v List.mem_cons_self
   simp [this]
theorem zgR {kindOf:Str→Option NameKind}{x:Str}{v:Value}:∀ {P:List Str} {vs:List Value} {i:Nat} {m:Str→Option Value},P.Nodup→P[i]? =some x→vs[i]? =some v→kindOf x=some .local→
  bindL kindOf (P.zip vs) m x=some v
 | [],_,_,_,_,h,_,_=>by simp at h
 | _::_,[],_,_,_,_,h,_=>by simp at h
 | p::P,w::vs,0,m,nd,h1,h2,hk=>by
  simp at h1 h2;subst h1;subst h2
  show bindL kindOf ((p,w)::P.zip vs) m p=_
  unfold bindL
  rw [zhn fun v hv=>(List.nodup_cons.mp nd).1 (List.of_mem_zip hv).1,if_pos hk]
  simp
 | p::P,w::vs,i+1,m,nd,h1,h2,hk=>by
  show bindL kindOf ((p,w)::P.zip vs) m x=_
  unfold bindL
  exact zgR (i:=i) (List.nodup_cons.mp nd).2 (by simpa using h1) (by simpa using h2) hk
theorem zg5 {kindOf:Str→Option NameKind}{x:Str}{v:Value}:∀ {P:List Str} {vs:List Value} {i:Nat} {m:Str→Option Value},P.Nodup→P[i]? =some x→vs[i]? =some v→kindOf x≠some .local→
  bindC kindOf (P.zip vs) m x=some v
 | [],_,_,_,_,h,_,_=>by simp at h
 | _::_,[],_,_,_,_,h,_=>by simp at h
 | p::P,w::vs,0,m,nd,h1,h2,hk=>by
  simp at h1 h2;subst h1;subst h2
  show bindC kindOf ((p,w)::P.zip vs) m p=_
  unfold bindC
  rw [zg0 fun v hv=>(List.nodup_cons.mp nd).1 (List.of_mem_zip hv).1,if_neg hk]
  simp
 | p::P,w::vs,i+1,m,nd,h1,h2,hk=>by
  show bindC kindOf ((p,w)::P.zip vs) m x=_
  unfold bindC
  exact zg5 (i:=i) (List.nodup_cons.mp nd).2 (by simpa using h1) (by simpa using h2) hk
noncomputable def start (N:List Str) (vs:List V):St:=vs.map some++List.replicate (N.length - vs.length) none
noncomputable def cxOf (CX:CXT) (P:Program) (w:World) (K:PySem.W.Frag) (mg:Str→Option Value) (base:Heap) (N:List Str) (qual:Str) (scope:Scope) (f:Addr) (cd:Value) (A:Around) (outer:List Env) (s:Shared) (H:Hp) (E:XK):Cx where
 prog:=P
 w:=w
 K:=K
 mg:=mg
 base:=base
 A:=A.deeper (envOfC qual scope s.heap.objs.size f cd)
 N:=N
 s₀ :=s
 H₀ :=H
 env:=envOfC qual scope s.heap.objs.size f cd
 outer:=outer
 stack:=envOfC qual scope s.heap.objs.size f cd::outer
 ex:=[]
 calm:=true
 fn:=fun _=>true
 pn:=[]
 xe:=fun e s'=>wpAny (model P w) (A.deeper (envOfC qual scope s.heap.objs.size f cd)) (leaving (envOfC qual scope s.heap.objs.size f cd) e) (fun _ s''=>CX outer H s E e s'') (fun e' s''=>CX outer H s E e' s'') s'
theorem zij {sc:Scope}{n:Nat}{x:Str}(h:sc.names.lookup x=some .cell):∃ c,(cellsFrom n sc.names []).lookup x=some c:=by
 have q:=PySem.W.cellsFrom_some sc.names n [] (.inl h)
 exact Option.isSome_iff_exists.mp q
theorem zjG {CX:CXT}{P:Program}{w:World}{K:PySem.W.Frag}{mg:Str→Option Value}{base:Heap}{N ps:List Str}{qual:Str}{scope:Scope}{f:Addr}{cd:Value}{A:Around}{outer:List Env}{s s1:Shared}{H:Hp}{E:XK}{us:List Value}{vs:List V}
  (S:zax N ps scope) (hd:A.handled=none) (e0:Env0 P w K mg base A outer s H) (hl:vs.length=ps.length) (r:Vals vs us)
  (x:InCallC s s.heap.objs.size (bindL (envOfC qual scope s.heap.objs.size f cd).kindOf (ps.zip us) fun _=>none) (cellsFrom (s.heap.objs.size+1) scope.names []) (bindC (envOfC qual scope s.heap.objs.size f cd).kindOf (ps.zip us) fun _=>none) s1):
  Inv (cxOf CX P w K mg base N qual scope f cd A outer s H E) [] (start N vs) H s1:=by
 have hpl:ps.length≤N.length:=by have:=congrArg List.length S.pre;rw [List.length_take] at this;omega
 obtain ⟨h1,tk,rfl,hk⟩:=x.done
 have noA:∀ b:Addr,b∉(cxOf CX P w K mg base N qual scope f cd A outer s H E).ex:=fun b z=>absurd (show b∈([]:List Addr) from z) (by simp)
 refine ⟨⟨e0.mod,S.kind,rfl,rfl,Nat.le_refl _,fun y z c h1 h2=>?_,fun y hy=>?_,fun y c _ h=>?_,fun _=>hd,Around.frames_deeper e0.frames,.inr ⟨rfl,rfl⟩,fun b z=>absurd z (noA b),e0.bs,e0.bsz,fun b _ _=>noA b,fun b z=>absurd z (noA b),e0.funs,e0.frf⟩,
  rfl,e0.bare,Un.kept hk,⟨_,x.toInCall.ns,fun i y v h1 h2 h3=>?_⟩,fun y c h=>⟨_,x.cell y c h⟩,e0.hok.fresh (Nat.le_refl _),fun y c h=>?_,fun p hp=>absurd (show p∈([]:List (Addr×Obj)) from hp) (by simp),e0.hok.kept hk,?_⟩
 ·exact name_of_addr x.apart (PySem.mem_of_lookup h1) (PySem.mem_of_lookup h2)
 ·have hy:scope.names.lookup y=some .cell∨scope.names.lookup y=some .free:=hy
  rcases hy with hy | hy
  ·exact zij hy
  ·exact absurd rfl (S.nofree _ (PySem.mem_of_lookup hy))
 ·exact Nat.le_of_lt (x.above y c (PySem.mem_of_lookup h))
 ·have hi:i < vs.length:=by
   unfold start at h2
   by_cases hi:i < vs.length
   ·exact hi
   ·rw [List.getElem?_append_right (by simpa using hi)] at h2
    rw [List.getElem?_replicate] at h2
    split at h2 <;> cases h2
  have ha:vs[i]? =some v:=by
   unfold start at h2
   rw [List.getElem?_append_left (by simpa using hi),List.getElem?_map] at h2
   cases e:vs[i]? with
   | none=>rw [e] at h2;cases h2
   | some a=>rw [e] at h2;cases h2;rfl
  obtain ⟨u,hu,rv⟩:=r.get ha
  have hp:ps[i]? =some y:=by
   rw [← S.pre,List.getElem?_take_of_lt (by omega)];exact h1
  have ndP:ps.Nodup:=by rw [← S.pre];exact S.nd.sublist (List.take_sublist _ _)
  refine ⟨u,rv,?_⟩
  rcases S.par y (List.mem_of_getElem? hp) with k | k
  ·exact .inl ⟨k,zgR ndP hp hu k⟩
  ·obtain ⟨c,e⟩:=zij (n:=s.heap.objs.size+1) k
   refine .inr ⟨.inl k,c,e,?_⟩
   have q:=x.cell y c e
   rw [zg5 ndP hp hu (by show scope.names.lookup y≠_;rw [k];decide)] at q
   exact q
 ·exact e0.hok.fresh (Nat.le_of_lt (x.above y c (PySem.mem_of_lookup h)))
 ·unfold start
  show _=N.length
  rw [List.length_append,List.length_map,List.length_replicate]
  omega
theorem zmJ {CX:CXT}{P:Program}{w:World}{K:PySem.W.Frag}{mg:Str→Option Value}{base:Heap}{k:Nat}{f:Addr}{name qual:Str}{params:Arguments}{body:List Stmt}{scope:Scope}{dV kV doc pm cdv ct oc:Value}{an od:Option Addr}
  {osl:Array (Option Value)} {N ps:List Str} {sp:Sp} (lk:K.lookup f=some ⟨oc,od,.func (PySem.W.fnOf name qual params body scope dV kV doc pm an cdv ct),osl⟩) (hcd:PySem.W.codeIn K cdv qual=true) (S:zax N ps scope)
  (len:∀ vs H Q E,sp vs H Q E→vs.length=ps.length)
  (hbody:∀ (A:Around) (outer:List Env) (s:Shared) (H:Hp) (vs:List V) (Q:VK) (E:XK),Room k (A.deeper (envOfC qual scope s.heap.objs.size f cdv))→sp vs H Q E→
   ∃ t,PSs (cxOf CX P w K mg base N qual scope f cdv A outer s H E) body t∧t {nx:=fun _ H'=>Q .non H',rt:=Q} (start N vs) H):
  FnOk P w K mg base CX (k+1) f (PySem.W.fnOf name qual params body scope dV kV doc pm an cdv ct) ps sp:=by
 refine ⟨len,fun A outer s H args us vs Q E hr e0 hb r hsp=>?_⟩
 have hl:=len _ _ _ _ hsp
 have KX:K.In s.heap:=e0.mod.kin.keeps fun b o e=>(e0.bs b o e).1
 have lim:s.heap.NoLimit:=e0.mod.nolimit.keeps fun b o e=>(e0.bs b o e).1
 have hkind:∀ y∈ps.zip us,scope.names.lookup y.1=some .local∨(scope.names.lookup y.1=some .cell∧((cellsFrom (s.heap.objs.size+1) scope.names []).lookup y.1).isSome=true):=fun ⟨n,v⟩ hy=>by
  rcases S.par n (List.of_mem_zip hy).1 with q | q
  ·exact .inl q
  ·exact .inr ⟨q,PySem.W.cellsFrom_some _ _ _ (.inl q)⟩
 refine codeAny_call_function hr.depth (KX _ _ lk) rfl S.co S.gen rfl (PySem.W.codeRec_of KX hcd) (hb _ _ _ _ ?_)
 refine wpAny_newFunctionEnv_cells S.kind hkind fun env he s1 x=>?_
 subst he
 refine ⟨lim.keeps x.toInCall.keep,codeAny_func ?_⟩
 obtain ⟨t,ht,hq⟩:=hbody A outer s H vs Q E (hr.deeper _) hsp
 have I:Inv (cxOf CX P w K mg base N qual scope f cdv A outer s H E) [] (start N vs) H s1:=zjG S hr.hd e0 hl r x
 refine wpAny_mono (ht [] s1 (start N vs) H _ I hq) (fun fl s' hs=>?_) fun e s' hs=>hs
 have fin:∀ {σ':St} {H':Hp} {v:V} {u:Value},Inv (cxOf CX P w K mg base N qual scope f cdv A outer s H E) [] σ' H' s'→RelV v u→Q v H'→CE outer P w H s Q u s':=
  fun {σ' H' v u} J rv q=>⟨v,H',J.os,J.bare,J.base,J.hok,rv,q⟩
 cases fl with
 | ret u=>
  obtain ⟨v,σ',H',J,rv,q⟩:=hs
  exact fin J rv q
 | next=>
  obtain ⟨σ',H',J,q⟩:=hs
  exact fin (v:=V.non) (u:=Value.none) J rfl q
 | brk=>
  obtain ⟨_,_,_,q⟩:=hs
  exact False.elim q
 | cont=>
  obtain ⟨_,_,_,q⟩:=hs
  exact False.elim q
end L2
namespace L2
open PySem PySem.Spec PyProof.Rows
section
variable {X:Cx} {x:Str} {p pos:Pos} {e:Expr} {es:List Expr} {t:TA} {id T:String} {r:List V→Hp→VK→Prop}
noncomputable def tCB (r:List V→Hp→VK→Prop) (t:TA):TE:=fun σ H Q=>t σ H fun vs H1=>r vs H1 Q
theorem zlz (hc:zc8 X (.builtin id) r)(hg:Gl X x)(hm:X.mg x=none)(hv:bootBuiltins x=some (.builtin id))(ha:PA X (e::es) t)(hn:x≠"__name__" :=by decide)(hdb:(x==("__debug__" :Str))=false:=by decide)
  (he:starEach (e::es) X.env=(false,eval e X.env)::starEach es X.env:=by rfl) (hpl:(backTo pos (starEach es X.env)).any (·.1)=false:=by rfl):PE X (.Call (.Name x p) (e::es) [] pos) (tCB r t):=by
 intro pins s σ H Q I h
 refine wpAny_Call_Name_kw (zf4 I hg hm hv ?_ hn hdb)
 exact PyProof.Rows.callWith_builtin1 (thn (ha pos pins s σ H _ I h) fun us s1 ⟨vs,H1,I1,r1,q1⟩=>hc pins s1 σ H1 vs us Q I1 r1 q1) he hpl
theorem zjh (hc:zc8 X (.type T) r)(hg:Gl X x)(hm:X.mg x=none)(hv:bootBuiltins x=some (.type T))(ha:PA X (e::es) t)(hn:x≠"__name__" :=by decide)(hdb:(x==("__debug__" :Str))=false:=by decide)
  (he:starEach (e::es) X.env=(false,eval e X.env)::starEach es X.env:=by rfl) (hpl:(backTo pos (starEach es X.env)).any (·.1)=false:=by rfl):PE X (.Call (.Name x p) (e::es) [] pos) (tCB r t):=by
 intro pins s σ H Q I h
 refine wpAny_Call_Name_kw (zf4 I hg hm hv ?_ hn hdb)
 exact PyProof.Rows.callWith_type1 (thn (ha pos pins s σ H _ I h) fun us s1 ⟨vs,H1,I1,r1,q1⟩=>hc pins s1 σ H1 vs us Q I1 r1 q1) he hpl
end
end L2
namespace HT
open PySem PyProof.Rows
section
open PySem.SeqAt
open PySem.AutoSeq1 (wpAny_loadPart')
open PySem.MeetsSeq PySem.MeetsSeq2 PySem.MeetsSeq3
end
section
variable {prog:Program} {w:World} {A:Around} {E:Value→Shared→Prop} {s:Shared}
theorem cat_tup {t b:Addr}{vs ws:List Value}{Q:Value→Shared→Prop}(ht:IsTup s.heap t vs.toArray)(hb:IsTup s.heap b ws.toArray)(hv:vs≠[])
  (h1:ws= []→Q (.ref t) s) (h2:ws≠[]→Q (.ref s.heap.objs.size) {s with heap:=s.heap.push {cls:=.type "tuple",data:=.seq (vs++ws).toArray}})
  (hsz:vs.length+ws.length≤sizeLine):wpAny (model prog w) A (binaryOp .Add (.ref t) (.ref b)) Q E s:=by
 obtain ⟨⟨cls,dd,data,sl⟩,ho,hc,n,hd⟩:=id ht
 obtain ⟨⟨cls2,dd2,data2,sl2⟩,ho2,hc2,n2,hd2⟩:=id hb
 simp only at hc hd hc2 hd2
 subst hc hd hc2 hd2
 have e:vs.toArray++ws.toArray=(vs++ws).toArray:=by simp
 by_cases hw:ws= []
 ·exact concat_meets ⟨_,ho,rfl⟩ ⟨_,ho2,rfl⟩ noFill_tuple_add seq_tuple_add PySem.F.slot_tuple_add PySem.F.entry_tuple_add (PySem.F.args_tuple_add_2 _ _)
   (tuple_addW1 t b vs.toArray ws.toArray n n2 dd dd2 sl sl2 (by simpa using hv) (by simp [hw])) ⟨ho,ho2,h1 hw⟩
 ·refine concat_meets ⟨_,ho,rfl⟩ ⟨_,ho2,rfl⟩ noFill_tuple_add seq_tuple_add PySem.F.slot_tuple_add PySem.F.entry_tuple_add (PySem.F.args_tuple_add_2 _ _)
   (tuple_addW2 t b vs.toArray ws.toArray n n2 dd dd2 sl sl2 (by simpa using hv) (by simpa using hw) (by rw [List.size_toArray,List.size_toArray];exact hsz)) ⟨ho,ho2,?_⟩
  rw [e]
  exact h2 hw
noncomputable def sIx (n d:Nat):Option Int→Nat
 | none=>d
 | some v=>if v < 0 then (v+(n:Int)).toNat else min v.toNat n
theorem sIx_le (n d:Nat)(hd:d≤n)(o:Option Int):sIx n d o≤n:=by
 cases o with
 | none=>exact hd
 | some v=>
  show (if v < 0 then (v+(n:Int)).toNat else min v.toNat n)≤n
  by_cases hv:v < 0
  ·rw [if_pos hv];omega
  ·rw [if_neg hv];exact Nat.min_le_right _ _
theorem zjI (v:Int)(n d:Nat):(if v < 0 then max (v+(n:Int)) 0 else min v (n:Int))=((sIx n d (some v):Nat):Int):=by
 show (if v < 0 then max (v+(n:Int)) 0 else min v (n:Int))=(((if v < 0 then (v+(n:Int)).toNat else min v.toNat n):Nat):Int)
 by_cases hv:v < 0
 ·simp only [if_pos hv];omega
 ·simp only [if_neg hv];omega
theorem ziQ (lo hi:Option Int)(n:Nat):Builtin.Slice.sliceAdjust lo hi 1 (n:Int)=(((sIx n 0 lo:Nat):Int),((sIx n n hi:Nat):Int)):=by
 have h1:¬((1:Int) < 0):=by omega
 unfold Builtin.Slice.sliceAdjust
 simp only [h1,if_false]
 refine Prod.ext ?_ ?_
 ·cases lo with
  | none=>rfl
  | some v=>exact zjI v n 0
 ·cases hi with
  | none=>rfl
  | some v=>exact zjI v n n
theorem ziW (i j:Nat):Builtin.Slice.slicePlaces (i:Int) (j:Int) 1=j - i:=by
 unfold Builtin.Slice.slicePlaces
 have h1:(1:Int) > 0:=by omega
 simp only [h1,if_true,Int.ediv_one]
 split <;> omega
theorem zfT {v:Value}{o:Option Int}{Q:Option Int→Shared→Prop}(p:IsPart v o)(h:Q o s):wpAny (model prog w) A (Builtin.Slice.slicePartIndex v) Q E s:=by
 cases p with
 | none=>exact slicePart_none h
 | int i t=>exact slicePart_int h
theorem zeQ {sl:Addr}{vl vu:Value}{lo hi:Option Int}{n:Nat}{Q:Int×Int×Nat→Shared→Prop}(hs:s.heap.IsSliceOf sl vl vu .none)(pl:IsPart vl lo)(pu:IsPart vu hi)
  (h:Q (((sIx n 0 lo:Nat):Int),1,sIx n n hi - sIx n 0 lo) s):wpAny (model prog w) A (Builtin.Slice.sliceApplied (.ref sl) (pure (n:Int))) Q E s:=by
 obtain ⟨os,hos,hcs,hds⟩:=id hs
 unfold Builtin.Slice.sliceApplied Builtin.Slice.sliceFields
 refine wpAny_bind (wpAny_bind (wpAny_field hos hds (x:=vl) rfl (wpAny_bind (wpAny_field hos hds (x:=vu) rfl (wpAny_bind (wpAny_field hos hds (x:=.none) rfl (wpAny_pure ?_)))))))
 refine wpAny_bind (slicePart_none ?_)
 show wpAny _ _ (if ((1:Int)==0)=true then _ else _) _ _ s
 rw [if_neg (by decide)]
 refine wpAny_bind (zfT pl (wpAny_bind (zfT pu (wpAny_bind (wpAny_pure ?_)))))
 show wpAny _ _ (match Builtin.Slice.sliceAdjust lo hi 1 (n:Int) with | (lo,hi)=>pure (lo,(1:Int),Builtin.Slice.slicePlaces lo hi 1)) _ _ s
 rw [ziQ lo hi n]
 show wpAny _ _ (pure (((sIx n 0 lo:Nat):Int),(1:Int),Builtin.Slice.slicePlaces ((sIx n 0 lo:Nat):Int) ((sIx n n hi:Nat):Int) 1)) _ _ s
 rw [ziW]
 exact wpAny_pure h
theorem zk1 (xs:Array Value)(i k:Nat):((List.range k).filterMap fun (m:Nat)=>xs[((i:Int)+(m:Int) * 1).toNat]?).toArray=((xs.toList.drop i).take k).toArray:=by
 have e:(fun (m:Nat)=>xs[((i:Int)+(m:Int) * 1).toNat]?)=fun m=>xs[i+m]? :=by
  funext m
  have:((i:Int)+(m:Int) * 1).toNat=i+m:=by omega
  rw [this]
 rw [e]
 have:=pick_run xs i k
 rw [List.filterMap_map] at this
 have e2:((fun x=>xs[x]?) ∘ fun x=>i+x)=fun m=>xs[i+m]? :=rfl
 rw [e2] at this
 rw [this]
theorem getItem_tuple_cut {t sl:Addr}{items:Array Value}{vl vu:Value}{lo hi:Option Int}{Q:Value→Shared→Prop}(ht:IsTup s.heap t items)(hs:s.heap.IsSliceOf sl vl vu .none)(pl:IsPart vl lo)(pu:IsPart vu hi)
  (hw:¬(sIx items.size 0 lo=0∧sIx items.size items.size hi=items.size))
  (h:Q (.ref s.heap.objs.size) {s with heap:=s.heap.push {cls:=.type "tuple",data:=.seq ((items.toList.drop (sIx items.size 0 lo)).take (sIx items.size items.size hi - sIx items.size 0 lo)).toArray}})
  (hsz:items.size≤sizeLine):wpAny (model prog w) A (getItem (.ref t) (.ref sl)) Q E s:=by
 have htake:sizeOk (.seq ((items.toList.drop (sIx items.size 0 lo)).take (sIx items.size items.size hi - sIx items.size 0 lo)).toArray):=by
  show ((items.toList.drop (sIx items.size 0 lo)).take (sIx items.size items.size hi - sIx items.size 0 lo)).toArray.size≤sizeLine
  rw [List.size_toArray,List.length_take,List.length_drop,Array.length_toList]
  omega
 have hj:sIx items.size items.size hi≤items.size:=sIx_le _ _ (Nat.le_refl _) hi
 obtain ⟨os,hos,hcs,hds⟩:=id hs
 have hTs:s.TypeIs (.ref sl) "slice" :=⟨os,hos,hcs⟩
 unfold getItem
 try with_reducible refine wpAny_holding ?_
 first | refine wpAny_bind (wpAny_pure ?_) | skip
 refine wpAny_bind (wpAny_sequenceKey ht.typeIs (by decide) ?_)
 refine wpAny_bind (wpAny_callSpecial?_slot (name:=Str.ofString "__getitem__") ht.typeIs PyProof.Rows.slot_tuple_getitem
  (wpAny_call_entry PyProof.Rows.slot_tuple_getitem ht.typeIs entry_tuple_getitem ?_ (args_tuple_getitem _ _)))
 show wpAny _ _ (Builtin.Tuple.tupleItemsOf (.ref t) >>=_) _ _ s
 refine wpAny_bind (tupleItemsOf_ ht ?_)
 refine wpAny_bind (wpAny_typeOf hTs ?_)
 rw [if_pos (by decide)]
 refine wpAny_bind (zeQ hs pl pu ?_)
 have hno:¬((((sIx items.size 0 lo:Nat):Int)==0 && (1:Int)==1 && (sIx items.size items.size hi - sIx items.size 0 lo)==items.size)=true):=by
  intro q
  rw [Bool.and_eq_true,Bool.and_eq_true] at q
  have q1:((sIx items.size 0 lo:Nat):Int)=0:=eq_of_beq q.1.1
  have q2:sIx items.size items.size hi - sIx items.size 0 lo=items.size:=eq_of_beq q.2
  exact hw ⟨by omega,by omega⟩
 show wpAny _ _ (if (((sIx items.size 0 lo:Nat):Int)==0 && (1:Int)==1 && (sIx items.size items.size hi - sIx items.size 0 lo)==items.size)=true then _ else _) _ _ s
 rw [if_neg hno,zk1]
 first
  | exact wpAny_bind (m:=Builtin.Tuple.tupleExact _) (wpAny_newObj_type (wpAny_pure ⟨_,rfl,wpAny_pure h⟩) htake)
  | exact wpAny_bind (m:=Builtin.Tuple.tupleExact _) (wpAny_newObj_type (wpAny_bind (wpAny_pure (wpAny_pure ⟨_,rfl,wpAny_pure h⟩))) htake)
  | exact wpAny_bind (wpAny_bind (m:=Builtin.Tuple.tupleExact _) (wpAny_newObj_type (wpAny_pure (wpAny_pure ⟨_,rfl,wpAny_pure h⟩)) htake))
  | exact wpAny_bind (wpAny_bind (m:=Builtin.Tuple.tupleExact _) (wpAny_newObj_type (wpAny_pure ⟨_,rfl,wpAny_pure h⟩) htake))
end
end HT
namespace L2
open PySem PySem.Spec PyProof.Rows
noncomputable abbrev TO:=St→Hp→(Option Int→Hp→Prop)→Prop
noncomputable def PO (X:Cx) (e:Option Expr) (t:TO):Prop:=
 ∀ (pins:List (Addr×Obj)) (s:Shared) (σ :St) (H:Hp) (Q:Option Int→Hp→Prop),Inv X pins σ H s→t σ H Q→
  wpAny (model X.prog X.w) X.A (evalPart e X.env) (fun u s'=>∃ o H',Inv X pins σ H' s'∧IsPart u o∧Q o H') X.xe s
noncomputable def zjV:TO:=fun _ H Q=>Q none H
noncomputable def tPart (t:TE):TO:=fun σ H Q=>t σ H fun x H1=>∃ i,x= .int i∧Q (some i) H1
theorem ziz {ns:List Int}:∀ {us:List Value},Vals (ns.map V.int) us→IntsAre us ns:=by
 induction ns with
 | nil=>intro us r;rw [List.map_nil] at r;cases r;exact .nil
 | cons n ns ih=>
  intro us r
  rw [List.map_cons] at r
  cases r with
  | cons r1 r2=>
   obtain ⟨t,e⟩:=r1
   subst e
   exact .cons n t (ih r2)
section
variable {X:Cx} {e:Expr} {te:TE} {lo hi:Option Expr} {tl th:TO} {pos p2:Pos}
theorem zmk:PO X none zjV:=by
 intro pins s σ H Q I h
 rw [evalPart_none]
 exact wpAny_pure ⟨none,H,I,.none,h⟩
theorem zlZ (h:PE X e te):PO X (some e) (tPart te):=by
 intro pins s σ H Q I hw
 rw [evalPart_some]
 refine thn (h pins s σ H _ I hw) fun u s1 ⟨x,H1,I1,r1,q1⟩=>?_
 obtain ⟨i,rfl,q⟩:=q1
 obtain ⟨t,rfl⟩:=r1
 exact ⟨some i,H1,I1,.int i t,q⟩
noncomputable def SlR (X:Cx) (r:V→Option Int→Option Int→Hp→VK→Prop):Prop:=
 ∀ (pins:List (Addr×Obj)) (s:Shared) (σ :St) (H:Hp) (x:V) (v vl vu:Value) (lo hi:Option Int) (sl:Addr) (Q:VK),Inv X pins σ H s→RelV x v→s.heap.IsSliceOf sl vl vu .none→IsPart vl lo→IsPart vu hi→r x lo hi H Q→
  ∃ T id,typeLookup (.type T) "__getitem__" =pure (some (.builtin id))∧s.TypeIs v T∧wpAny (model X.prog X.w) X.A (getItem v (.ref sl)) (EP X pins σ Q) X.xe s
noncomputable def tSl (r:V→Option Int→Option Int→Hp→VK→Prop) (te:TE) (tl th:TO):TE:=fun σ H Q=>te σ H fun x H1=>tl σ H1 fun l H2=>th σ H2 fun u H3=>r x l u H3 Q
theorem zkH {r:V→Option Int→Option Int→Hp→VK→Prop}(hr:SlR X r)(he:PE X e te)(hl:PO X lo tl)(hu:PO X hi th):PE X (.Subscript e (.Slice lo hi none p2) pos) (tSl r te tl th):=by
 intro pins s σ H Q I h
 refine Subscript_ (thn (he pins s σ H _ I h) fun v s1 ⟨x,H1,I1,r1,q1⟩=>?_)
 refine wpAny_Slice (thn (hl pins s1 σ H1 _ I1 q1) fun vl s2 ⟨l,H2,I2,pl,q2⟩=>thn (hu pins s2 σ H2 _ I2 q2) fun vu s3 ⟨u,H3,I3,pu,q3⟩=>?_)
 rw [evalPart_none]
 refine wpAny_pure ?_
 have I4:Inv X pins σ H3 {s3 with heap:=s3.heap.push {cls:=.type "slice",data:=.fields #[vl,vu,.none]}}:=I3.kept (t':=s3.toks) fun b ob q=>Heap.get?_push_of_some _ q
 obtain ⟨T,id,hT,ht,hg⟩:=hr pins {s3 with heap:=s3.heap.push {cls:=.type "slice",data:=.fields #[vl,vu,.none]}} σ H3 x v vl vu l u s3.heap.objs.size Q I4 r1 (Heap.IsSliceOf.new ..) pl pu q3
 show wpAny (model X.prog X.w) X.A (subscriptTail e (.Slice lo hi none p2) v (.ref s3.heap.objs.size)) (EP X pins σ Q) X.xe {s3 with heap:=s3.heap.push {cls:=.type "slice",data:=.fields #[vl,vu,.none]}}
 exact tail_any (ops:=[.ref s3.heap.objs.size,v]) ht hT hg (by with_unfolding_all rfl)
noncomputable def cutV (xs:List V) (lo hi:Option Int):List V:=(xs.drop (HT.sIx xs.length 0 lo)).take (HT.sIx xs.length xs.length hi - HT.sIx xs.length 0 lo)
theorem zfx (xs:List V)(lo hi:Option Int):(cutV xs lo hi).length≤xs.length:=by
 unfold cutV
 rw [List.length_take,List.length_drop]
 omega
noncomputable def rSlT (K:PySem.W.Frag):V→Option Int→Option Int→Hp→VK→Prop:=fun x lo hi H Q=>∃ a xs,x= .ref a∧SqT K H a xs∧
 ¬(HT.sIx xs.length 0 lo=0∧HT.sIx xs.length xs.length hi=xs.length)∧∀ p,H p=none→Q (.ref p) (upd H p (.tup (cutV xs lo hi)))
theorem sl_tup:SlR X (rSlT X.K):=by
 intro pins s σ H x v vl vu lo hi sl Q I rx hs pl pu h
 obtain ⟨a,xs,rfl,hx,hw,q⟩:=h
 cases rx
 obtain ⟨its,r,ht,hz⟩:=I.tuple hx
 have hlen:its.toArray.size=xs.length:=by rw [List.size_toArray];exact r.length.symm
 refine ⟨"tuple",_,PyProof.Rows.slot_tuple_getitem.lookup,ht.typeIs,?_⟩
 refine HT.getItem_tuple_cut ht hs pl pu (by rw [hlen];exact hw) ?_ (by rw [hlen];exact hz)
 rw [hlen]
 refine ⟨.ref s.heap.objs.size,_,I.laid (t':=s.toks) (o:=.tup (cutV xs lo hi)) (fun b ob q=>Heap.get?_push_of_some _ q) (Nat.le_refl _) ?_,rfl,q _ (I.hok.fresh (Nat.le_refl _))⟩
 exact ⟨Nat.le_trans (zfx xs lo hi) hz,_,(r.drop (HT.sIx xs.length 0 lo)).take (HT.sIx xs.length xs.length hi - HT.sIx xs.length 0 lo),IsTup.new _ _⟩
noncomputable def rCatT (K:PySem.W.Frag):R2:=fun x y H Q=>∃ a b xs ys,x= .ref a∧y= .ref b∧SqT K H a xs∧SqT K H b ys∧xs≠[]∧xs.length+ys.length≤sizeLine∧
 (ys= []→Q (.ref a) H)∧(ys≠[]→∀ p,H p=none→Q (.ref p) (upd H p (.tup (xs++ys))))
theorem Vals.nil_iff {xs:List V}{us:List Value}(r:Vals xs us):us= []↔xs= []:=by
 cases r with
 | nil=>simp
 | cons _ _=>simp
theorem zkb:OpR X (binaryOp .Add) (rCatT X.K):=by
 intro pins s σ H x y v u Q I rx ry h
 obtain ⟨a,b,xs,ys,rfl,rfl,ha,hb,hx,hz,q1,q2⟩:=h
 cases rx
 cases ry
 obtain ⟨its,r1,p1,_⟩:=I.tuple ha
 obtain ⟨its2,r2,p2,_⟩:=I.tuple hb
 refine HT.cat_tup p1 p2 (fun z=>hx (r1.nil_iff.mp z)) (fun z=>⟨.ref a,H,I,rfl,q1 (r2.nil_iff.mp z)⟩) (fun z=>?_) (by rw [← r1.length,← r2.length];exact hz)
 refine ⟨.ref s.heap.objs.size,_,I.laid (t':=s.toks) (o:=.tup (xs++ys)) (fun b ob q=>Heap.get?_push_of_some _ q) (Nat.le_refl _) ?_,rfl,q2 (fun w=>z (r2.nil_iff.mpr w)) _ (I.hok.fresh (Nat.le_refl _))⟩
 exact ⟨by rw [List.length_append];exact hz,_,r1.append r2,IsTup.new _ _⟩
end
end L2
namespace L2
open PySem PySem.Spec PyProof.Rows
noncomputable def ixN (n:Nat) (i:Int):Option Nat:=if 0≤i then (if i < n then some i.toNat else none) else if -(n:Int)≤i then some (i+n).toNat else none
noncomputable def atI {α :Type} (xs:List α) (i:Int):Option α :=(ixN xs.length i).bind fun j=>xs[j]?
theorem zjt {n:Nat}{i:Int}{j:Nat}(h:ixN n i=some j):seqIndex? i n=some j∧j < n∧-(n:Int)≤i∧i < n:=by
 unfold ixN at h
 by_cases h0: 0≤i
 ·rw [if_pos h0] at h
  by_cases h1:i < n
  ·rw [if_pos h1] at h
   have e:i.toNat=j:=Option.some.inj h
   exact ⟨by rw [seqIndex_of h0 h1,e],by omega,by omega,h1⟩
  ·rw [if_neg h1] at h;cases h
 ·rw [if_neg h0] at h
  by_cases h1: -(n:Int)≤i
  ·rw [if_pos h1] at h
   have e:(i+n).toNat=j:=Option.some.inj h
   exact ⟨by rw [seqIndex_neg (by omega) h1,e],by omega,h1,by omega⟩
  ·rw [if_neg h1] at h;cases h
theorem zjp {α :Type}{xs:List α}{i:Int}{v: α}(h:atI xs i=some v):∃ j,seqIndex? i xs.length=some j∧xs[j]? =some v∧j < xs.length∧-(xs.length:Int)≤i∧i < xs.length:=by
 unfold atI at h
 cases e:ixN xs.length i with
 | none=>rw [e] at h;cases h
 | some j=>
  rw [e] at h
  obtain ⟨h1,h2,h3,h4⟩:=zjt e
  exact ⟨j,h1,h,h2,h3,h4⟩
theorem zc9 {α :Type}{xs:List α}{j:Nat}{v: α}(h:xs[j]? =some v):atI xs (j:Int)=some v:=by
 have hj:j < xs.length:=(List.getElem?_eq_some_iff.mp h).1
 have e:ixN xs.length (j:Int)=some j:=by
  unfold ixN
  rw [if_pos (by omega),if_pos (by omega)];simp
 unfold atI;rw [e];exact h
noncomputable def zjO (b:Expr):Prop:=∀ o i,subscripted b false o i=operate [o,i] (getItem o i)
noncomputable def IxR (X:Cx) (r:R2):Prop:=
 ∀ (value slice:Expr) (pins:List (Addr×Obj)) (s:Shared) (σ :St) (H:Hp) (x y:V) (v u:Value) (Q:VK),Inv X pins σ H s→RelV x v→RelV y u→r x y H Q→
  subscripted slice false v u=operate [v,u] (getItem v u)→wpAny (model X.prog X.w) X.A (subscriptTail value slice v u) (EP X pins σ Q) X.xe s
noncomputable def MtR (X:Cx) (id:String) (r:V→List V→Hp→VK→Prop):Prop:=
 ∀ (pins:List (Addr×Obj)) (s:Shared) (σ :St) (H:Hp) (x:V) (xs:List V) (v:Value) (us:List Value) (Q:VK),Inv X pins σ H s→RelV x v→Vals xs us→r x xs H Q→
  wpAny (model X.prog X.w) X.A (call (.builtin id) (v::us)) (EP X pins σ Q) X.xe s
section
variable {X:Cx} {a b:Expr} {ta tb:TE} {pos:Pos}
theorem pe_ix {r:R2}(hr:IxR X r)(ha:PE X a ta)(hb:PE X b tb)(hs:zjO b):PE X (.Subscript a b pos) (tOp r ta tb):=by
 intro pins s σ H Q I h
 exact Subscript_ (binT ha hb I h fun v u s2 x y H2 I2 rx ry q=>hr a b pins s2 σ H2 x y v u Q I2 rx ry q (hs _ _))
noncomputable def rIxL (K:PySem.W.Frag):R2:=fun x y H Q=>∃ p xs i v,x= .ref p∧y= .int i∧SqL K H p xs∧atI xs i=some v∧Q v H
noncomputable def rIxT (K:PySem.W.Frag):R2:=fun x y H Q=>∃ p xs i v,x= .ref p∧y= .int i∧SqT K H p xs∧atI xs i=some v∧Q v H
theorem zaH:IxR X (rIxL X.K):=by
 intro value slice pins s σ H x y v u Q I rx ry h hs
 obtain ⟨p,xs,i,z,rfl,rfl,hq,he,q⟩:=h
 cases rx
 obtain ⟨t,rfl⟩:=ry
 obtain ⟨its,r,pl,hz⟩:=I.list hq
 obtain ⟨j,h1,h2,h3,h4,h5⟩:=zjp he
 obtain ⟨w,ew,rw'⟩:=r.get h2
 have hl:=r.length
 have hn:=zii
 have fin:EP X pins σ Q w s:=⟨z,H,I,rw',q⟩
 by_cases h0: 0≤i
 ·have hj:i.toNat=j:=by
   rw [seqIndex_of h0 h5] at h1
   exact Option.some.inj h1
  exact item_listR pl.isList h0 (by omega) (by rw [hj];simpa using ew) fin hs
 ·have hj:(i+(its.toArray.size:Int)).toNat=j:=by
   rw [seqIndex_neg (by omega) h4] at h1
   rw [List.size_toArray,← hl]
   exact Option.some.inj h1
  exact subscriptTail_builtinR (x:=w) pl.isList.typeIs slot_list_getitem.lookup
   (wpAny_getItem_list_neg (Q:=fun r s'=>r=w∧EP X pins σ Q r s') pl.isList (by omega) (by rw [List.size_toArray] <;> omega) (by omega) (by rw [hj];simpa using ew) ⟨rfl,fin⟩) hs
theorem zaB:IxR X (rIxT X.K):=by
 intro value slice pins s σ H x y v u Q I rx ry h hs
 obtain ⟨p,xs,i,z,rfl,rfl,hq,he,q⟩:=h
 cases rx
 obtain ⟨t,rfl⟩:=ry
 obtain ⟨its,r,pl,hz⟩:=I.tuple hq
 obtain ⟨j,h1,h2,h3,h4,h5⟩:=zjp he
 obtain ⟨w,ew,rw'⟩:=r.get h2
 have hl:=r.length
 have hn:=zii
 have fin:EP X pins σ Q w s:=⟨z,H,I,rw',q⟩
 exact subscriptTail_builtinR (x:=w) pl.typeIs slot_tuple_getitem.lookup
  (getItem_tuple (j:=j) (Q:=fun r s'=>r=w∧EP X pins σ Q r s') pl (by omega) (by omega) (by rw [List.size_toArray,← hl];exact h1) (by simpa using ew) ⟨rfl,fin⟩) hs
theorem ziS (its:List Value)(n j:Nat)(u:Value):Obj.mapSeq (·.setIfInBounds j u) {cls:=.type "list",data:=.seq its.toArray n}= {cls:=.type "list",data:=.seq (its.set j u).toArray n}:=by
 simp [Obj.mapSeq]
theorem Inv.lst {pins:List (Addr×Obj)}{σ :St}{H:Hp}{s:Shared}{p:Addr}{xs:List V}(I:Inv X pins σ H s)(h:H p=some (.lst xs)):
  ∃ (its:List Value) (n:Nat),Vals xs its∧s.heap.get? p=some {cls:=.type "list",data:=.seq its.toArray n}∧xs.length≤sizeLine:=by
 obtain ⟨z,its,n,r,e⟩:=I.hok p _ h
 exact ⟨its,n,r,e,z⟩
theorem Inv.lstUpd {pins:List (Addr×Obj)}{σ :St}{H:Hp}{s:Shared}{p:Addr}{xs ys:List V}{its its':List Value}{n n':Nat}{f:Obj→Obj}(I:Inv X pins σ H s)(h:H p=some (.lst xs))
  (ho:s.heap.get? p=some {cls:=.type "list",data:=.seq its.toArray n}) (hf:f {cls:=.type "list",data:=.seq its.toArray n}= {cls:=.type "list",data:=.seq its'.toArray n'}) (r:Vals ys its') (hz:ys.length≤sizeLine) (t:Nat):
  Inv X pins σ (upd H p (.lst ys)) {s with heap:=s.heap.update p f,toks:=t}:=by
 have e:(s.heap.update p f).get? p=some {cls:=.type "list",data:=.seq its'.toArray n'}:=by
  rw [Heap.get?_update_self f ho (by rw [hf] <;> rfl),hf]
 refine I.write (x:=p) (e:=p) (by rw [h];trivial) (.inl rfl) (fun b u hb q=>(Heap.get?_update_other _ _ (Ne.symm hb)).trans q) ⟨_,e⟩ ?_
 exact ⟨hz,its',n',r,e⟩
noncomputable def rSetL:V→V→V→Hp→(Hp→Prop)→Prop:=fun o i v H Q=>∃ p xs k j,o= .ref p∧i= .int k∧H p=some (.lst xs)∧ixN xs.length k=some j∧Q (upd H p (.lst (xs.set j v)))
theorem zlb:PSet X rSetL:=by
 intro pins s σ H o i v ov iv u Q I ro ri rv h
 obtain ⟨p,xs,k,j,rfl,rfl,hp,hj,q⟩:=h
 cases ro
 obtain ⟨t,rfl⟩:=ri
 obtain ⟨its,n,r,ho,hz⟩:=I.lst hp
 obtain ⟨h1,h2,h3,h4⟩:=zjt hj
 have hl:=r.length
 have hn:=zii
 have I':Inv X pins σ (upd H p (.lst (xs.set j v))) {s with heap:=s.heap.update p (Obj.mapSeq (·.setIfInBounds j u))}:=
  I.lstUpd hp ho (ziS its n j u) (r.set rv j) (by rw [List.length_set];exact hz) s.toks
 by_cases h0: 0≤k
 ·have hk:k.toNat=j:=by
   rw [seqIndex_of h0 h4] at h1
   exact Option.some.inj h1
  exact PySem.W.ki_setAt ho h0 (by omega) (by rw [List.size_toArray,← hl];exact h4) (by rw [hk];exact ⟨_,I',q⟩)
 ·have hk:(k+(its.toArray.size:Int)).toNat=j:=by
   rw [seqIndex_neg (by omega) h3] at h1
   rw [List.size_toArray,← hl]
   exact Option.some.inj h1
  exact PySem.W.ki_setBack ho (by omega) (by rw [List.size_toArray,← hl];exact h3) (by omega) (by rw [hk];exact ⟨_,I',q⟩)
theorem zgS (lo hi:Option Int)(n:Nat):(sliceBounds lo hi none n).1=((HT.sIx n 0 lo:Nat):Int)∧(sliceBounds lo hi none n).2.1=((HT.sIx n n hi:Nat):Int)∧(sliceBounds lo hi none n).2.2=1:=by
 refine ⟨?_,?_,rfl⟩
 ·cases lo with
  | none=>simp [sliceBounds,HT.sIx]
  | some i=>
   simp only [sliceBounds,HT.sIx,Option.getD_none,show (1:Int) > 0 by decide,if_true]
   by_cases h:i < 0
   ·simp only [h,if_true] <;> omega
   ·simp only [h,if_false] <;> omega
 ·cases hi with
  | none=>simp [sliceBounds,HT.sIx]
  | some i=>
   simp only [sliceBounds,HT.sIx,Option.getD_none,show (1:Int) > 0 by decide,if_true]
   by_cases h:i < 0
   ·simp only [h,if_true] <;> omega
   ·simp only [h,if_false] <;> omega
theorem zgc (its:List Value)(lo hi:Option Int):slicePick its.toArray lo hi none=((its.drop (HT.sIx its.length 0 lo)).take (HT.sIx its.length its.length hi - HT.sIx its.length 0 lo)).toArray:=by
 obtain ⟨h1,h2,h3⟩:=zgS lo hi its.toArray.size
 unfold slicePick
 rw [h1,h2,h3]
 simp only [sliceRange_one,pick_run,List.size_toArray] <;> rfl
noncomputable def rSlL (K:PySem.W.Frag):V→Option Int→Option Int→Hp→VK→Prop:=fun x lo hi H Q=>∃ a xs,x= .ref a∧SqL K H a xs∧∀ p,H p=none→Q (.ref p) (upd H p (.lst (cutV xs lo hi)))
theorem zeE:SlR X (rSlL X.K):=by
 intro pins s σ H x v vl vu lo hi sl Q I rx hs pl pu h
 obtain ⟨a,xs,rfl,hx,q⟩:=h
 cases rx
 obtain ⟨its,r,ht,hz⟩:=I.list hx
 have hlen:=r.length
 refine ⟨"list",_,slot_list_getitem.lookup,ht.isList.typeIs,?_⟩
 refine wpAny_getItem_list_slice ht.isList hs pl pu .none (by simp) ?_ (by rw [List.size_toArray] <;> omega)
 rw [zgc,← hlen]
 refine ⟨.ref s.heap.objs.size,_,I.laid (t':=s.toks) (o:=.lst (cutV xs lo hi)) (fun b ob q=>Heap.get?_push_of_some _ q) (Nat.le_refl _) ?_,rfl,q _ (I.hok.fresh (Nat.le_refl _))⟩
 exact ⟨Nat.le_trans (zfx xs lo hi) hz,_,0,(r.drop (HT.sIx xs.length 0 lo)).take (HT.sIx xs.length xs.length hi - HT.sIx xs.length 0 lo),Heap.get?_push_size _ rfl⟩
noncomputable def zfF:V→Bool
 | .non=>true
 | .bl _=>true
 | .int _=>true
 | .str _=>true
 | _=>false
noncomputable def eqV:V→V→Bool
 | .non,.non=>true
 | .bl a,.bl b=>a==b
 | .bl a,.int b=>(if a then 1 else 0)==b
 | .int a,.bl b=>a==(if b then 1 else 0)
 | .int a,.int b=>a==b
 | .str a,.str b=>a==b
 | _,_=>false
theorem eqAt_V {A:Around}{s:Shared}{y x:V}{u v:Value}(ry:RelV y u)(rx:RelV x v)(fy:zfF y=true)(fx:zfF x=true):SeqAt.EqAt A s u v (eqV y x):=by
 cases y with
 | non=>
  cases ry
  cases x with
  | non=>cases rx;exact SeqAt.EqAt.same _
  | bl b=>cases rx;exact SeqAt.EqAt.none_bool b
  | int b=>obtain ⟨t,rfl⟩:=rx;exact SeqAt.EqAt.none_int b t
  | str b=>obtain ⟨t,rfl⟩:=rx;exact SeqAt.EqAt.none_str b t
  | _=>exact absurd (show false=true from fx) Bool.false_ne_true
 | bl a=>
  cases ry
  cases x with
  | non=>cases rx;exact SeqAt.EqAt.bool_none a
  | bl b=>cases rx;exact SeqAt.EqAt.bool_bool a b
  | int b=>obtain ⟨t,rfl⟩:=rx;exact SeqAt.EqAt.bool_int a b t
  | str b=>obtain ⟨t,rfl⟩:=rx;exact SeqAt.EqAt.bool_str a b t
  | _=>exact absurd (show false=true from fx) Bool.false_ne_true
 | int a=>
  obtain ⟨t',rfl⟩:=ry
  cases x with
  | non=>cases rx;exact SeqAt.EqAt.int_none a t'
  | bl b=>cases rx;exact SeqAt.EqAt.int_bool a t' b
  | int b=>obtain ⟨t,rfl⟩:=rx;exact SeqAt.EqAt.int_int a t' b t
  | str b=>obtain ⟨t,rfl⟩:=rx;exact SeqAt.EqAt.int_str a t' b t
  | _=>exact absurd (show false=true from fx) Bool.false_ne_true
 | str a=>
  obtain ⟨t',rfl⟩:=ry
  cases x with
  | non=>cases rx;exact SeqAt.EqAt.str_none a t'
  | bl b=>cases rx;exact SeqAt.EqAt.str_bool a t' b
  | int b=>obtain ⟨t,rfl⟩:=rx;exact SeqAt.EqAt.str_int a t' b t
  | str b=>obtain ⟨t,rfl⟩:=rx;exact SeqAt.EqAt.str_str a t' b t
  | _=>exact absurd (show false=true from fx) Bool.false_ne_true
 | _=>exact absurd (show false=true from fy) Bool.false_ne_true
noncomputable def eqU (x:V) (u:Value):Bool:=match u with
 | .none=>eqV .non x
 | .bool b=>eqV (.bl b) x
 | .int i _=>eqV (.int i) x
 | .str z _=>eqV (.str z) x
 | _=>false
theorem zlB {x y:V}{u:Value}(r:RelV y u)(f:zfF y=true):eqU x u=eqV y x:=by
 cases y with
 | non=>cases r;rfl
 | bl b=>cases r;rfl
 | int i=>obtain ⟨t,rfl⟩:=r;rfl
 | str z=>obtain ⟨t,rfl⟩:=r;rfl
 | _=>exact absurd (show false=true from f) Bool.false_ne_true
theorem zfd {x:V}:∀ {xs:List V} {us:List Value},Vals xs us→xs.all zfF=true→us.any (eqU x)=xs.any fun y=>eqV y x
 | _,_,.nil,_=>rfl
 | y::xs,u::us,.cons r t,f=>by
  rw [List.all_cons,Bool.and_eq_true] at f
  rw [List.any_cons,List.any_cons,zlB r f.1,zfd t f.2]
theorem zd8 {A:Around}{s:Shared}{x:V}{v:Value}(rx:RelV x v)(fx:zfF x=true):∀ {xs:List V} {us:List Value},Vals xs us→xs.all zfF=true→∀ u∈us,SeqAt.EqAt A s u v (eqU x u)
 | _,_,.nil,_=>fun u hu=>by cases hu
 | y::xs,u::us,.cons r t,f=>fun u' hu=>by
  rw [List.all_cons,Bool.and_eq_true] at f
  rcases List.mem_cons.mp hu with rfl | hu
  ·rw [zlB r f.1];exact eqAt_V r rx f.1 fx
  ·exact zd8 rx fx t f.2 u' hu
noncomputable def inV (x:V) (xs:List V):Bool:=xs.any fun y=>eqV y x
noncomputable def rIn (K:PySem.W.Frag) (neg:Bool):R2:=fun x y H Q=>∃ p xs,y= .ref p∧(SqL K H p xs∨SqT K H p xs)∧zfF x=true∧xs.all zfF=true∧Q (.bl (if neg then !inV x xs else inV x xs)) H
theorem ze3:OpR X (compareOp .In) (rIn X.K false):=by
 intro pins s σ H x y v u Q I rx ry h
 obtain ⟨p,xs,rfl,hq,fx,fs,q⟩:=h
 cases ry
 rcases hq with hq | hq
 ·obtain ⟨its,r,pl,hz⟩:=I.list hq
  refine SeqAt.in_listAt (eqU x) pl.isList (fun w hw=>zd8 rx fx r fs w (by simpa using hw)) ⟨.bl _,H,I,rfl,?_⟩
  rw [show its.toArray.any (eqU x)=its.any (eqU x) by simp,zfd r fs]
  exact q
 ·obtain ⟨its,r,pl,hz⟩:=I.tuple hq
  refine SeqAt.in_tupleAt (eqU x) pl (fun w hw=>zd8 rx fx r fs w (by simpa using hw)) ⟨.bl _,H,I,rfl,?_⟩
  rw [show its.toArray.any (eqU x)=its.any (eqU x) by simp,zfd r fs]
  exact q
theorem zg2:OpR X (compareOp .NotIn) (rIn X.K true):=by
 intro pins s σ H x y v u Q I rx ry h
 obtain ⟨p,xs,rfl,hq,fx,fs,q⟩:=h
 cases ry
 rcases hq with hq | hq
 ·obtain ⟨its,r,pl,hz⟩:=I.list hq
  refine SeqAt.notIn_listAt (eqU x) pl.isList (fun w hw=>zd8 rx fx r fs w (by simpa using hw)) ⟨.bl _,H,I,rfl,?_⟩
  rw [show its.toArray.any (eqU x)=its.any (eqU x) by simp,zfd r fs]
  exact q
 ·obtain ⟨its,r,pl,hz⟩:=I.tuple hq
  refine SeqAt.notIn_tupleAt (eqU x) pl (fun w hw=>zd8 rx fx r fs w (by simpa using hw)) ⟨.bl _,H,I,rfl,?_⟩
  rw [show its.toArray.any (eqU x)=its.any (eqU x) by simp,zfd r fs]
  exact q
theorem zau:zc8 X (.builtin "len") (fun xs H Q=>∃ p ys,xs= [.ref p]∧(SqL X.K H p ys∨SqT X.K H p ys)∧Q (.int ys.length) H):=by
 intro pins s σ H xs us Q I r h
 obtain ⟨p,ys,rfl,hq,q⟩:=h
 obtain ⟨u,rfl,rx⟩:=zgm r
 cases rx
 have hn:=zii
 rcases hq with hq | hq
 ·obtain ⟨its,r',pl,hz⟩:=I.list hq
  have hlen:=r'.length
  exact Calls.call_len_list pl.isList (by simp only [List.size_toArray] <;> omega) ⟨.int ys.length,H,I.tok _,⟨s.toks+1,by rw [List.size_toArray,hlen]⟩,q⟩
 ·obtain ⟨its,r',pl,hz⟩:=I.tuple hq
  have hlen:=r'.length
  exact len_tuple pl (by simp only [List.size_toArray] <;> omega) ⟨.int ys.length,H,I.tok _,⟨s.toks+1,by rw [List.size_toArray,hlen]⟩,q⟩
theorem zdu:zc8 X (.type "list") (fun xs H Q=>∃ p ys,xs= [.ref p]∧(SqL X.K H p ys∨SqT X.K H p ys)∧∀ l,H l=none→Q (.ref l) (upd H l (.lst ys))):=by
 intro pins s σ H xs us Q I r h
 obtain ⟨p,ys,rfl,hq,q⟩:=h
 obtain ⟨u,rfl,rx⟩:=zgm r
 cases rx
 have fin:∀ (its:List Value),Vals ys its→ys.length≤sizeLine→∀ (h':Heap) (c':Nat),(∀ b o',s.heap.get? b=some o'→h'.get? b=some o')→
   h'.get? s.heap.objs.size=some {cls:=.type "list",dict:=none,data:=.seq its.toArray c',slots:=#[]}→EP X pins σ Q (.ref s.heap.objs.size) {s with heap:=h'}:=fun its r' hz h' c' kp e=>
  ⟨.ref s.heap.objs.size,_,I.laid (t':=s.toks) kp (Nat.le_refl _) (show zbm X.prog X.w _ h' _ (.lst ys) from ⟨hz,its,c',r',e⟩),rfl,q _ (I.hok.fresh (Nat.le_refl _))⟩
 rcases hq with hq | hq
 ·obtain ⟨its,r',pl,hz⟩:=I.list hq
  have hlen:=r'.length
  obtain ⟨o,ho,hc,n,hd⟩:=pl.isList
  exact call_list_seq p (.inl rfl) ho hc hd (fun h' c' kp e=>fin its r' hz h' c' kp e) (by simp only [List.size_toArray] <;> omega)
 ·obtain ⟨its,r',pl,hz⟩:=I.tuple hq
  have hlen:=r'.length
  obtain ⟨o,ho,hc,n,hd⟩:=pl
  exact call_list_seq p (.inr rfl) ho hc hd (fun h' c' kp e=>fin its r' hz h' c' kp e) (by simp only [List.size_toArray] <;> omega)
theorem zgg:zc8 X (.type "tuple") (fun xs H Q=>∃ p ys,xs= [.ref p]∧((SqL X.K H p ys∧∀ l,H l=none→Q (.ref l) (upd H l (.tup ys)))∨(SqT X.K H p ys∧Q (.ref p) H))):=by
 intro pins s σ H xs us Q I r h
 obtain ⟨p,ys,rfl,h⟩:=h
 obtain ⟨u,rfl,rx⟩:=zgm r
 cases rx
 rcases h with ⟨hq,q⟩ | ⟨hq,q⟩
 ·obtain ⟨its,r',pl,hz⟩:=I.list hq
  have hlen:=r'.length
  refine call_tuple_list pl.isList (fun h' kp=>?_) (by simp only [List.size_toArray] <;> omega)
  have I1:Inv X pins σ H {s with heap:=h'}:=I.kept (t':=s.toks) kp
  have I2:Inv X pins σ (upd H h'.objs.size (.tup ys)) {s with heap:=h'.push {cls:=.type "tuple",data:=.seq its.toArray}}:=
   I1.laid (t':=s.toks) (fun b o e=>Heap.get?_push_of_some _ e) (Nat.le_refl _) (show zbm X.prog X.w _ _ _ (.tup ys) from ⟨hz,its,r',IsTup.new _ _⟩)
  exact ⟨.ref h'.objs.size,_,I2,rfl,q _ (I1.hok.fresh (Nat.le_refl _))⟩
 ·obtain ⟨its,r',pl,hz⟩:=I.tuple hq
  exact call_tuple_same pl ⟨.ref p,H,I,rfl,q⟩
noncomputable def tyV (K:PySem.W.Frag) (T:String) (x:V) (H:Hp):Prop:=match x with
 | .str _=>T="str"
 | .int _=>T="int"
 | .ref p=>(T="list"∧∃ xs,SqL K H p xs)∨(T="tuple"∧∃ o,K.lookup p=some o∧o.cls= .type "tuple"∧o.dict=none)∨
   (T="dict"∧((∃ kvs,H p=some (.dK kvs))∨∃ kvs,H p=some (.dT kvs)))∨(T="set"∧∃ S n,H p=some (.set S n))
 | _=>False
theorem zlG {pins:List (Addr×Obj)}{σ :St}{H:Hp}{s:Shared}{T:String}{x:V}{v:Value}(I:Inv X pins σ H s)(r:RelV x v)(ty:tyV X.K T x H):
  s.TypeIs v T∧∀ a,v= .ref a→∃ ob,s.heap.get? a=some ob∧ob.dict=none:=by
 cases x with
 | str z=>
  obtain ⟨t,rfl⟩:=r
  cases (show T="str" from ty)
  exact ⟨typeIs_str s z t,fun _ e=>nomatch e⟩
 | int i=>
  obtain ⟨t,rfl⟩:=r
  cases (show T="int" from ty)
  exact ⟨typeIs_int s i t,fun _ e=>nomatch e⟩
 | ref p=>
  cases r
  rcases ty with ⟨rfl,xs,hq⟩ | ⟨rfl,o,hk,hc,hd⟩ | ⟨rfl,hk⟩ | ⟨rfl,S,n,hk⟩
  ·obtain ⟨its,_,pl,_⟩:=I.list hq
   refine ⟨pl.isList.typeIs,fun a e=>?_⟩
   cases e
   obtain ⟨o,n,e,c,hd,_⟩:=pl
   exact ⟨o,e,hd⟩
  ·refine ⟨⟨o,I.kIn p o hk,hc⟩,fun a e=>?_⟩
   cases e
   exact ⟨o,I.kIn _ o hk,hd⟩
  ·have z:∃ o,s.heap.get? p=some o∧o.ExactDict:=by
    rcases hk with ⟨kvs,hk⟩ | ⟨kvs,hk⟩
    ·obtain ⟨_,_,_,_,o,_,_,e,ex,_⟩:=I.hok p _ hk
     exact ⟨o,e,ex⟩
    ·obtain ⟨_,_,_,_,o,_,_,e,ex,_⟩:=I.hok p _ hk
     exact ⟨o,e,ex⟩
   obtain ⟨o,e,ex⟩:=z
   refine ⟨⟨o,e,ex.1⟩,fun a e2=>?_⟩
   cases e2
   exact ⟨o,e,ex.2.1⟩
  ·obtain ⟨o,_,_,_,e,ex,_⟩:=I.hok p _ hk
   refine ⟨⟨o,e,ex.1⟩,fun a e2=>?_⟩
   cases e2
   exact ⟨o,e,ex.2.1⟩
 | _=>exact False.elim ty
noncomputable def tBM0 (K:PySem.W.Frag) (T:String) (r:V→List V→Hp→VK→Prop) (to:TE):TE:=fun σ H Q=>to σ H fun x H1=>tyV K T x H1∧r x [] H1 Q
noncomputable def tBM (K:PySem.W.Frag) (T:String) (r:V→List V→Hp→VK→Prop) (to:TE) (t:TA):TE:=fun σ H Q=>to σ H fun x H1=>tyV K T x H1∧t σ H1 fun xs H2=>r x xs H2 Q
variable {o e:Expr} {es:List Expr} {to:TE} {t:TA} {name:Str} {apos cpos:Pos} {T id:String} {r:V→List V→Hp→VK→Prop}
theorem pe_bm0 (pa:PlainAttrs T)(slot:Slot T name id)(hty:typeOf (.builtin id)=pure (.type "method_descriptor"))(hm:MtR X id r)(ho:PE X o to)
  (hbase:attributeBase o name X.env (eval o X.env)=eval o X.env:=by rfl) (hline:(apos.endLine==cpos.line)=true:=by rfl):PE X (.Call (.Attribute o name apos) [] [] cpos) (tBM0 X.K T r to):=by
 intro pins s σ H Q I h
 refine wpAny_Call_method0_late hbase hline (thn (ho pins s σ H _ I h) fun v s1 ⟨x,H1,I1,r1,ty,q1⟩=>?_)
 obtain ⟨h1,h2⟩:=zlG I1 r1 ty
 exact ⟨T,id,pa,slot,hty,h1,h2,Calls.callWith_builtin rfl (PySem.evalArgs_none (hm pins s1 σ H1 x [] v [] Q I1 r1 .nil q1))⟩
theorem pe_bm (pa:PlainAttrs T)(slot:Slot T name id)(hty:typeOf (.builtin id)=pure (.type "method_descriptor"))(hm:MtR X id r)(ho:PE X o to)(ha:PA X (e::es) t)
  (hbase:attributeBase o name X.env (eval o X.env)=eval o X.env:=by rfl)
  (hfew:((backTo cpos (starEach (e::es) X.env)).all (fun x=>!x.1) && (backToKw cpos (keywordEach [] X.env)).all (fun x=>x.1.isSome)
   && decide ((e::es).length+([]:List Keyword).length+(if ([]:List Keyword).isEmpty then 0 else 1) < 30))=true:=by rfl)
  (hline:(apos.endLine==cpos.line)=true:=by rfl) (hs:starEach (e::es) X.env=(false,eval e X.env)::starEach es X.env:=by rfl) (hplain:(backTo cpos (starEach es X.env)).any (·.1)=false:=by rfl):
  PE X (.Call (.Attribute o name apos) (e::es) [] cpos) (tBM X.K T r to t):=by
 intro pins s σ H Q I h
 refine wpAny_Call_method_late hbase hfew hline rfl (thn (ho pins s σ H _ I h) fun v s1 ⟨x,H1,I1,r1,ty,q1⟩=>?_)
 obtain ⟨h1,h2⟩:=zlG I1 r1 ty
 refine ⟨T,id,pa,slot,hty,h1,h2,?_⟩
 have hA:=ha cpos pins s1 σ H1 _ I1 q1
 rw [hs] at hA ⊢
 refine Calls.callWith_builtin (by show (false || (backTo cpos (starEach es X.env)).any (·.1))=false;rw [hplain] <;> rfl) (Calls.evalArgs_plain ?_)
 exact thn hA fun us s2 ⟨vs,H2,I2,r2,q2⟩=>hm pins s2 σ H2 x vs v us Q I2 r1 r2 q2
end
end L2
namespace L2
open PySem PySem.Spec PyProof.Rows
noncomputable def MtM (X:Cx) (id:String) (r:V→List V→Hp→VK→Prop):Prop:=
 ∀ (pins:List (Addr×Obj)) (s:Shared) (σ :St) (H:Hp) (x:V) (xs:List V) (v:Value) (us:List Value) (Q:VK),Inv X pins σ H s→RelV x v→Vals xs us→r x xs H Q→
  wpAny (model X.prog X.w) X.A (call (.builtin id) (v::us)) (EP X pins σ Q) X.xe s
theorem Vals.one:∀ {x:V} {us:List Value},Vals [x] us→∃ u,us= [u]∧RelV x u
 | _,_,.cons r .nil=>⟨_,rfl,r⟩
section
variable {X:Cx} {pins:List (Addr×Obj)} {σ :St} {H:Hp} {s:Shared} {l b:Addr} {xs ys zs:List V}
theorem Inv.lset {its its':List Value}{n:Nat}{f:Array Value→Array Value}{t':Nat}(I:Inv X pins σ H s)(hH:H l=some (.lst xs))
  (e:s.heap.get? l=some {cls:=.type "list",data:=.seq its.toArray n}) (hf:f its.toArray=its'.toArray) (hv:Vals ys its') (hz:ys.length≤sizeLine):
  Inv X pins σ (upd H l (.lst ys)) {s with heap:=s.heap.update l (Obj.mapSeq f),toks:=t'}:=by
 have q:=PySem.IsL.update e f
 rw [hf] at q
 refine I.write (x:=l) (e:=l) (by rw [hH];exact trivial) (.inl rfl) (fun b' u hb hu=>(Heap.get?_update_other s.heap (Obj.mapSeq f) (Ne.symm hb)).trans hu) ⟨_,q⟩ ?_
 exact ⟨hz,its',_,hv,q⟩
theorem Inv.lnew {its:List Value}{t':Nat}(I:Inv X pins σ H s)(hv:Vals ys its)(hz:ys.length≤sizeLine):
  Inv X pins σ (upd H s.heap.objs.size (.lst ys)) {s with heap:=s.heap.push {cls:=.type "list",data:=.seq its.toArray},toks:=t'}:=
 I.laid (fun _ _ q=>Heap.get?_push_of_some _ q) (Nat.le_refl _) ⟨hz,its,0,hv,Heap.get?_push_size _ rfl⟩
theorem Inv.fresh (I:Inv X pins σ H s):H s.heap.objs.size=none:=I.hok.fresh (Nat.le_refl _)
theorem Inv.lstM (I:Inv X pins σ H s)(hH:H l=some (.lst xs)):xs.length≤sizeLine∧∃ (its:List Value) (n:Nat),Vals xs its∧xs.length=its.length∧s.heap.get? l=some {cls:=.type "list",data:=.seq its.toArray n}:=by
 obtain ⟨z,its,n,r,e⟩:=I.hok l _ hH
 exact ⟨z,its,n,r,r.length,e⟩
end
section
variable {X:Cx}
noncomputable def zmK:V→List V→Hp→VK→Prop:=fun x vs H Q=>∃ l xs y,x= .ref l∧vs= [y]∧H l=some (.lst xs)∧xs.length < sizeLine∧Q .non (upd H l (.lst (xs++ [y])))
theorem zbn:MtM X "list.append" zmK:=by
 intro pins s σ H x vs v us Q I rx rv h
 obtain ⟨l,xs,y,rfl,rfl,hH,hz,q⟩:=h
 cases rx
 obtain ⟨u,rfl,ru⟩:=rv.one
 obtain ⟨z,its,n,r,hl,e⟩:=I.lstM hH
 refine call_meets F.slot_list_append ⟨_,e,rfl⟩ F.entry_list_append (F.args_list_append_2 _ _) (PySem.list_append l its.toArray n u (by rw [List.size_toArray];omega)) ⟨e,?_⟩
 refine ⟨.non,_,I.lset (its':=its++ [u]) hH e (by simp) (r.append (.cons ru .nil)) ?_,rfl,q⟩
 rw [List.length_append,List.length_singleton]
 omega
noncomputable def rCat:R2:=fun x y H Q=>∃ l b xs zs,x= .ref l∧y= .ref b∧H l=some (.lst xs)∧H b=some (.lst zs)∧xs.length+zs.length≤sizeLine∧∀ p,H p=none→Q (.ref p) (upd H p (.lst (xs++zs)))
theorem zc0:OpR X (binaryOp .Add) rCat:=by
 intro pins s σ H x y v u Q I rx ry h
 obtain ⟨l,b,xs,zs,rfl,rfl,hH,hB,hz,q⟩:=h
 cases rx
 cases ry
 obtain ⟨z,its,n,r,hl,e⟩:=I.lstM hH
 obtain ⟨z2,its2,n2,r2,hl2,e2⟩:=I.lstM hB
 refine PySem.P.add_list e e2 ?_ (by rw [List.size_toArray,List.size_toArray];omega)
 have ea:its.toArray++its2.toArray=(its++its2).toArray:=by simp
 rw [ea]
 exact ⟨.ref _,_,I.lnew (t':=s.toks) (r.append r2) (by rw [List.length_append];omega),rfl,q _ I.fresh⟩
end
section
variable {prog:Program} {w:World} {A:Around} {E:Value→Shared→Prop} {s:Shared}
end
section
variable {X:Cx}
end
end L2
namespace L2
open PySem PySem.Spec PyProof.Rows
section
variable {κ :Type} [DecidableEq κ]
noncomputable def valV (kvs:List (κ×V)) (k: κ):Option V:=(kvs.find? fun kv=>decide (kv.1=k)).map (·.2)
noncomputable def putK (kvs:List (κ×V)) (k: κ) (v:V):List (κ×V):=
 if (kvs.any fun kv=>decide (kv.1=k))=true then kvs.map (fun kv=>if kv.1=k then (kv.1,v) else kv) else kvs++ [(k,v)]
theorem zdL {p: κ×V}{r:List (κ×V)}{k: κ}(e:p.1=k):valV (p::r) k=some p.2:=by simp [valV,List.find?_cons,e]
theorem zcX {p: κ×V}{r:List (κ×V)}{k: κ}(e:¬p.1=k):valV (p::r) k=valV r k:=by simp [valV,List.find?_cons,e]
theorem zgp (k: κ):∀ kvs:List (κ×V),(kvs.any fun kv=>decide (kv.1=k))=(valV kvs k).isSome
 | []=>rfl
 | p::r=>by
  rw [List.any_cons]
  by_cases e:p.1=k
  ·simp only [zdL e,decide_eq_true e,Bool.true_or,Option.isSome_some]
  ·rw [zcX e,decide_eq_false e,Bool.false_or];exact zgp k r
theorem zdl (kvs:List (κ×V))(k: κ)(v:V):(putK kvs k v).length≤kvs.length+1:=by
 unfold putK
 split
 ·rw [List.length_map];omega
 ·rw [List.length_append,List.length_cons,List.length_nil];omega
theorem zeR {kvs:List (κ×V)}{k: κ}(v:V)(h:valV kvs k=none):putK kvs k v=kvs++ [(k,v)]:=by
 unfold putK
 rw [zgp,h]
 exact if_neg (by decide)
theorem RelO.isSome_eq {o:Option V}{u:Option Value}(r:RelO o u):o.isSome=u.isSome:=by
 cases o with
 | none=>cases u with
  | none=>rfl
  | some _=>exact (show False from r).elim
 | some _=>cases u with
  | none=>exact (show False from r).elim
  | some _=>rfl
theorem RelO.getD {o:Option V}{u:Option Value}{d:V}{d':Value}(r:RelO o u)(rd:RelV d d'):RelV (o.getD d) (u.getD d'):=by
 cases o with
 | none=>cases u with
  | none=>exact rd
  | some _=>exact (show False from r).elim
 | some _=>cases u with
  | none=>exact (show False from r).elim
  | some _=>exact r
theorem KV.val {kvs:List (κ×V)}{vs:List (κ×Value)}(r:KV kvs vs)(k: κ):RelO (valV kvs k) (valueAt vs k):=by
 unfold KV at r
 induction r with
 | nil=>exact True.intro
 | @cons p q ps qs h t ih=>
  obtain ⟨h1,h2⟩:=h
  by_cases e:p.1=k
  ·have e':q.1=k:=h1.symm.trans e
   have b:valueAt (q::qs) k=some q.2:=by simp [valueAt,List.find?_cons,e']
   rw [zdL e,b];exact h2
  ·have e':¬q.1=k:=fun z=>e (h1.trans z)
   have b:valueAt (q::qs) k=valueAt qs k:=by simp [valueAt,List.find?_cons,e']
   rw [zcX e,b];exact ih
theorem KV.any {kvs:List (κ×V)}{vs:List (κ×Value)}(r:KV kvs vs)(k: κ):(kvs.any fun kv=>decide (kv.1=k))=vs.any fun kv=>decide (kv.1=k):=by
 unfold KV at r
 induction r with
 | nil=>rfl
 | cons h t ih=>rw [List.any_cons,List.any_cons,ih,h.1]
theorem KV.repl {kvs:List (κ×V)}{vs:List (κ×Value)}(r:KV kvs vs)(k: κ){y:V}{u:Value}(ry:RelV y u):
  KV (kvs.map fun kv=>if kv.1=k then (kv.1,y) else kv) (vs.map fun kv=>if kv.1=k then (kv.1,u) else kv):=by
 unfold KV at r ⊢
 induction r with
 | nil=>exact .nil
 | @cons p q ps qs h t ih=>
  rw [List.map_cons,List.map_cons]
  refine .cons ?_ ih
  obtain ⟨h1,h2⟩:=h
  by_cases e:p.1=k
  ·rw [if_pos e,if_pos (h1.symm.trans e)];exact ⟨h1,ry⟩
  ·rw [if_neg e,if_neg (fun z=>e (h1.trans z))];exact ⟨h1,h2⟩
theorem KV.put {kvs:List (κ×V)}{vs:List (κ×Value)}(r:KV kvs vs)(k: κ){y:V}{u:Value}(ry:RelV y u):KV (putK kvs k y) (stored vs k u):=by
 unfold putK stored
 rw [r.any k]
 by_cases e:(vs.any fun kv=>decide (kv.1=k))=true
 ·rw [if_pos e,if_pos e];exact r.repl k ry
 ·rw [if_neg e,if_neg e];exact Paired.snoc r ⟨rfl,ry⟩
theorem KV.length {kvs:List (κ×V)}{vs:List (κ×Value)}(r:KV kvs vs):kvs.length=vs.length:=Paired.length r
end
theorem ziu {P:Program}{w:World}{k:Key}{u:Value}(r:RelV (kV k) u):(zaG P w).is k u=true:=by
 cases k with
 | inl i=>obtain ⟨t,e⟩:=(show ∃ t,u=Value.int i t from r);subst e;exact zhz P w i t
 | inr x=>obtain ⟨t,e⟩:=(show ∃ t,u=Value.str x t from r);subst e;exact zhv P w x t
theorem zhd {P:Program}{w:World}:∀ {ks:List Key} {us:List Value},Vals (ks.map kV) us→ItemsAre (zaG P w) ks us
 | [],_,r=>by rw [List.map_nil] at r;cases r;exact .nil
 | k::ks,_,r=>by
  rw [List.map_cons] at r
  cases r with
  | cons h t=>exact .cons (ziu h) (zhd t)
noncomputable abbrev KT (H:Hp):List (List Key×V)→List (List Key×Addr×Value)→Prop:=Paired fun p q=>p.1=q.1∧RdT H q.2.1 (p.1.map kV)∧RelV p.2 q.2.2
theorem KT.val {H:Hp}{kvs:List (List Key×V)}{xs:List (List Key×Addr×Value)}(r:KT H kvs xs)(k:List Key):RelO (valV kvs k) ((atKey xs k).map (·.2)):=by
 induction r with
 | nil=>exact True.intro
 | @cons p q ps qs h t ih=>
  obtain ⟨h1,_,h2⟩:=h
  by_cases e:p.1=k
  ·have e':q.1=k:=h1.symm.trans e
   have b:atKey (q::qs) k=some q.2:=by simp [atKey,List.find?_cons,e']
   rw [zdL e,b];exact h2
  ·have e':¬q.1=k:=fun z=>e (h1.trans z)
   have b:atKey (q::qs) k=atKey qs k:=by simp [atKey,List.find?_cons,e']
   rw [zcX e,b];exact ih
theorem KT.repl {H:Hp}{kvs:List (List Key×V)}{xs:List (List Key×Addr×Value)}(r:KT H kvs xs)(k:List Key){y:V}{u:Value}(ry:RelV y u):
  KT H (kvs.map fun kv=>if kv.1=k then (kv.1,y) else kv) (xs.map (putAt k u)):=by
 induction r with
 | nil=>exact .nil
 | @cons p q ps qs h t ih=>
  rw [List.map_cons,List.map_cons]
  refine .cons ?_ ih
  obtain ⟨h1,h2,h3⟩:=h
  unfold putAt
  by_cases e:p.1=k
  ·rw [if_pos e,if_pos (h1.symm.trans e)];exact ⟨h1,h2,ry⟩
  ·rw [if_neg e,if_neg (fun z=>e (h1.trans z))];exact ⟨h1,h2,h3⟩
theorem KT.put {H:Hp}{kvs:List (List Key×V)}{xs:List (List Key×Addr×Value)}(r:KT H kvs xs)(k:List Key){b:Addr}{y:V}{u:Value}(hb:RdT H b (k.map kV))(ry:RelV y u):
  KT H (putK kvs k y) (storedH xs k b u):=by
 have e:(kvs.any fun kv=>decide (kv.1=k))=(atKey xs k).isSome:=by
  rw [zgp,(r.val k).isSome_eq,Option.isSome_map]
 unfold putK storedH
 rw [e]
 by_cases q:(atKey xs k).isSome=true
 ·rw [if_pos q,if_pos q];exact r.repl k ry
 ·rw [if_neg q,if_neg q];exact Paired.snoc r ⟨rfl,hb,ry⟩
theorem KT.keeps {H H':Hp}{kvs:List (List Key×V)}{xs:List (List Key×Addr×Value)}(r:KT H kvs xs)(ht:∀ b ys,RdT H b ys→RdT H' b ys):KT H' kvs xs:=
 Paired.mapP r fun _ _ z=>⟨z.1,ht _ _ z.2.1,z.2.2⟩
section
variable {P:Program} {w:World} {H:Hp} {h:Heap} {a:Addr}
theorem rd_of {u:HO}(ok:HOk P w H h)(e:Rd H a u):zbm P w H h a u:=e.ok ok
theorem ziH {kvs:List (Key×V)}(ok:HOk P w H h)(e:Rd H a (.dK kvs)):kvs.length≤sizeLine∧(a==sysModules)=false∧∃ vs,KV kvs vs∧h.DictOf (zaG P w) a vs:=
 show zbm P w H h a (.dK kvs) from rd_of ok e
theorem dk_of {kvs:List (Key×V)}(ok:HOk P w H h)(e:H a=some (.dK kvs)):kvs.length≤sizeLine∧(a==sysModules)=false∧∃ vs,KV kvs vs∧h.DictOf (zaG P w) a vs:=ziH ok (.inl e)
theorem zfA {ks:List Key}(ok:HOk P w H h)(e:RdT H a (ks.map kV)):(tupleKind (zaG P w)).is h ks a:=by
 obtain ⟨_,its,r,o,h1,h2,n,h3⟩:=(show zbm P w H h a (.tup (ks.map kV)) from Rd.ok (show Rd H a _ from e) ok)
 exact ⟨o,its.toArray,n,h1,h2,h3,by simpa using zhd r⟩
theorem ziA {kvs:List (List Key×V)}(ok:HOk P w H h)(e:Rd H a (.dT kvs)):kvs.length≤sizeLine∧(a==sysModules)=false∧
  ∃ xs,KT H kvs xs∧h.DictOfH (tupleKind (zaG P w)) a xs:=by
 obtain ⟨z,y,xs,r,o,es,ep,h1,h2,h3,h4,h5⟩:=(show zbm P w H h a (.dT kvs) from rd_of ok e)
 refine ⟨z,y,xs,r,o,es,ep,h1,h2,h3,h4,fun x hx=>?_,h5⟩
 have all:∀ {l:List (List Key×V)} {m:List (List Key×Addr×Value)},KT H l m→∀ x∈m,(tupleKind (zaG P w)).is h x.1 x.2.1:=by
  intro l m q
  induction q with
  | nil=>intro x hx;exact nomatch hx
  | @cons p q ps qs hq t ih=>
   intro x hx
   rcases List.mem_cons.mp hx with e | hx
   ·subst e
    exact zfA ok (by rw [← hq.1];exact hq.2.1)
   ·exact ih x hx
 exact all r x hx
theorem dt_of {kvs:List (List Key×V)}(ok:HOk P w H h)(e:H a=some (.dT kvs)):kvs.length≤sizeLine∧(a==sysModules)=false∧
  ∃ xs,KT H kvs xs∧h.DictOfH (tupleKind (zaG P w)) a xs:=ziA ok (.inl e)
end
noncomputable def DGet (H:Hp) (a:Addr) (y:V) (r:Option V):Prop:=
 (∃ kvs k,Rd H a (.dK kvs)∧y=kV k∧r=valV kvs k)∨∃ kvs k b,Rd H a (.dT kvs)∧y= .ref b∧RdT H b (k.map kV)∧r=valV kvs k
noncomputable def DPut (H:Hp) (a:Addr) (y v:V) (H':Hp):Prop:=
 (∃ kvs k,H a=some (.dK kvs)∧y=kV k∧kvs.length < sizeLine∧H'=upd H a (.dK (putK kvs k v)))∨
 ∃ kvs k b,H a=some (.dT kvs)∧y= .ref b∧RdT H b (k.map kV)∧kvs.length < sizeLine∧H'=upd H a (.dT (putK kvs k v))
theorem DGet.k {H:Hp}{a:Addr}{kvs:List (Key×V)}{k:Key}(e:H a=some (.dK kvs)):DGet H a (kV k) (valV kvs k):=.inl ⟨kvs,k,.inl e,rfl,rfl⟩
theorem DGet.t {H:Hp}{a b:Addr}{kvs:List (List Key×V)}{k:List Key}(e:H a=some (.dT kvs))(eb:H b=some (.tup (k.map kV))):DGet H a (.ref b) (valV kvs k):=.inr ⟨kvs,k,b,.inl e,rfl,.inl eb,rfl⟩
theorem DPut.t {H:Hp}{a b:Addr}{kvs:List (List Key×V)}{k:List Key}{v:V}(e:H a=some (.dT kvs))(eb:H b=some (.tup (k.map kV)))(hl:kvs.length < sizeLine):
  DPut H a (.ref b) v (upd H a (.dT (putK kvs k v))):=.inr ⟨kvs,k,b,e,rfl,.inl eb,hl,rfl⟩
section
variable {X:Cx} {pins:List (Addr×Obj)} {σ :St} {H:Hp} {s:Shared} {a:Addr} {y v:V} {u r:Value} {o:Option V} {A:Around} {E:Value→Shared→Prop}
theorem Inv.big (I:Inv X pins σ H s):sysModules < s.heap.objs.size:=by
 have h:mainGlobals < s.heap.objs.size:=(I.mod.glob.keeps I.bk).lt
 exact Nat.lt_trans (by decide) h
theorem zkd {Q:Value→Shared→Prop}(hu:A.units+1 < cLine)(I:Inv X pins σ H s)(g:DGet H a y (some v))(ry:RelV y u)(h:∀ w' s',Inv X pins σ H s'→RelV v w'→Q w' s'):
  wpAny (model X.prog X.w) A (getItem (.ref a) u) Q E s:=by
 rcases g with ⟨kvs,k,e,ey,l⟩ | ⟨kvs,k,b,e,ey,eb,l⟩
 ·subst ey
  obtain ⟨z,hd,vs,rel,dd⟩:=ziH I.hok e
  obtain ⟨w',hw,rw'⟩:=RelO.some_of (v:=v) (o:=valueAt vs k) (by rw [l];exact rel.val k)
  exact wpAny_getItem_of (ziu ry) dd.mapOf hw (h w' _ (I.tok _) rw')
 ·subst ey
  cases (show u=Value.ref b from ry)
  obtain ⟨z,hd,xs,rel,dd⟩:=ziA I.hok e
  obtain ⟨w',hw,rw'⟩:=RelO.some_of (v:=v) (o:=(atKey xs k).map (·.2)) (by rw [l];exact rel.val k)
  obtain ⟨p,hp,hp2⟩:=Option.map_eq_some_iff.mp hw
  refine wpAny_getItem_heap (tupleKind_room_in1 hu) (zfA I.hok eb) dd hp ?_
  rw [hp2]
  exact h w' _ (I.tok _) rw'
theorem zmp {Q:Value→Shared→Prop}(hu:A.units+1 < cLine)(I:Inv X pins σ H s)(g:DGet H a y o)(ry:RelV y u)(h:∀ s',Inv X pins σ H s'→Q (.bool (!o.isSome)) s'):
  wpAny (model X.prog X.w) A (compareOp .NotIn u (.ref a)) Q E s:=by
 rcases g with ⟨kvs,k,e,ey,l⟩ | ⟨kvs,k,b,e,ey,eb,l⟩
 ·subst ey
  obtain ⟨z,hd,vs,rel,dd⟩:=ziH I.hok e
  refine wpAny_notIn_of (ziu ry) hd dd.mapOf ?_
  rw [← (rel.val k).isSome_eq,← l]
  exact h _ (I.tok _)
 ·subst ey
  cases (show u=Value.ref b from ry)
  obtain ⟨z,hd,xs,rel,dd⟩:=ziA I.hok e
  refine wpAny_notIn_heap (tupleKind_room_in1 hu) (zfA I.hok eb) hd dd ?_
  have q:=(rel.val k).isSome_eq
  rw [Option.isSome_map] at q
  rw [← q,← l]
  exact h _ (I.tok _)
theorem zgG {h':Heap}{t':Nat}{ob:HO}(I:Inv X pins σ H s)(mu:Mut (H a))(hs:Heap.SameBut a s.heap h')(he:∃ q,h'.get? a=some q)(new:zbm X.prog X.w (upd H a ob) h' a ob):
  Inv X pins σ (upd H a ob) {s with heap:=h',toks:=t'}:=
 I.write (x:=a) (e:=a) mu (.inl rfl) (fun b q hb z=>(hs.2 b hb).trans z) he new
theorem zlI {P:Program}{w:World}{H':Hp}{h':Heap}{kvs:List (Key×V)}{vs:List (Key×Value)}(z:kvs.length≤sizeLine)(hd:(a==sysModules)=false)(rel:KV kvs vs)(dd:h'.DictOf (zaG P w) a vs):
  zbm P w H' h' a (.dK kvs):=⟨z,hd,vs,rel,dd⟩
theorem zjm {H':Hp}{Q:Unit→Shared→Prop}(hu:A.units+1 < cLine)(I:Inv X pins σ H s)(g:DPut H a y v H')(ry:RelV y u)(rv:RelV v r)(h:∀ s',Inv X pins σ H' s'→Q () s'):
  wpAny (model X.prog X.w) A (setItem (.ref a) u r) Q E s:=by
 rcases g with ⟨kvs,k,e,ey,l,eH⟩ | ⟨kvs,k,b,e,ey,eb,l,eH⟩
 ·subst ey eH
  obtain ⟨z,hd,vs,rel,dd⟩:=dk_of I.hok e
  have hz:vs.length≤sizeLine:=by rw [← rel.length];exact z
  have hl:(putK kvs k v).length≤sizeLine:=by have:=zdl kvs k v;omega
  refine wpAny_setItem_pairs (hsz:=hz) (ziu ry) dd fun h' dd' hs=>h _ ?_
  have he:∃ q,h'.get? a=some q:=let ⟨q,_,_,hq,_⟩:=dd';⟨q,hq⟩
  exact zgG I (by rw [e];exact True.intro) hs he (zlI hl hd (rel.put k rv) dd')
 ·subst ey eH
  cases (show u=Value.ref b from ry)
  obtain ⟨z,hd,xs,rel,dd⟩:=dt_of I.hok e
  have hz:xs.length≤sizeLine:=by rw [← Paired.length rel];exact z
  have hl:(putK kvs k v).length≤sizeLine:=by have:=zdl kvs k v;omega
  refine wpAny_setItem_heap (hsz:=hz) (tupleKind_room_in1 hu) (zfA I.hok eb) dd fun h' dd' hs=>h _ ?_
  obtain ⟨q,es,ep,hq,h2,h3,h4,_,h5⟩:=dd'
  refine zgG I (by rw [e];exact True.intro) hs ⟨q,hq⟩ ⟨hl,hd,_,(rel.put k eb rv).keeps fun c ys ec=>ec.keep fun u eu hu=>?_,q,es,ep,hq,h2,h3,h4,h5⟩
  rw [zai (zi3 eu e (fun z=>by obtain ⟨ys,hu | ⟨_,hu⟩⟩:=hu <;> (rw [hu] at z;cases z)))]
  exact eu
end
section
variable {X:Cx} {pins:List (Addr×Obj)} {σ :St} {H:Hp} {s:Shared} {a:Addr} {kvs:List (Key×V)} {k:Key} {u:Value} {A:Around} {E:Value→Shared→Prop}
end
noncomputable def NoSl (i:Expr):Prop:=∀ ov iv,subscripted i false ov iv=operate [ov,iv] (getItem ov iv)
theorem zmF {prog:Program}{w:World}{A:Around}{E:Value→Shared→Prop}{s:Shared}{env:Env}{value slice:Expr}{pos:Pos}{T id:String}{Q:Value→Shared→Prop}
  (hl:typeLookup (.type T) "__getitem__" =pure (some (.builtin id))) (hs:NoSl slice)
  (h:wpAny (model prog w) A (eval value env) (fun o s₁ =>wpAny (model prog w) A (eval slice env) (fun i s₂ =>s₂.TypeIs o T∧wpAny (model prog w) A (getItem o i) Q E s₂) E s₁) E s):
  wpAny (model prog w) A (eval (.Subscript value slice pos) env) Q E s:=by
 refine Subscript_ (wpAny_mono h (fun o s₁ h₁ =>wpAny_mono h₁ (fun i s₂ h₂ =>?_) fun _ _ x=>x) fun _ _ x=>x)
 obtain ⟨hT,h₂⟩:=h₂
 unfold subscriptTail
 refine wpAny_bind ?_
 rw [getitemInPython_of_ne hT.not_modules]
 refine wpAny_bind (wpAny_specialOf hT hl ?_)
 have fin:wpAny (model prog w) A (subscripted slice false o i) (fun r s₃ =>wpAny (model prog w) A (letTemporaryGo value o r >>=fun _=>pure r) Q E s₃) E s₂ :=by
  rw [hs o i]
  exact wpAny_operating (wpAny_mono h₂ (fun r s₃ h₃ =>wpAny_bind (wpAny_letTemporaryGo (wpAny_pure h₃))) fun _ _ x=>x)
 first
  | exact wpAny_pure (wpAny_bind fin)
  | exact wpAny_bind (wpAny_pure (wpAny_bind fin))
  | exact wpAny_bind fin
theorem zhM {X:Cx}{pins:List (Addr×Obj)}{σ :St}{H:Hp}{s:Shared}{a:Addr}{y:V}{o:Option V}(I:Inv X pins σ H s)(g:DGet H a y o):s.TypeIs (.ref a) "dict" :=by
 rcases g with ⟨kvs,k,e,_,_⟩ | ⟨kvs,k,b,e,_,_,_⟩
 ·obtain ⟨_,_,vs,_,dd⟩:=ziH I.hok e
  exact dd.typeIs
 ·obtain ⟨_,_,xs,_,dd⟩:=ziA I.hok e
  exact dd.typeIs
noncomputable def tDGet (td ty:TE):TE:=fun σ H Q=>td σ H fun x H1=>ty σ H1 fun y H2=>∃ a v,x= .ref a∧DGet H2 a y (some v)∧Q v H2
noncomputable def zjr (ty td:TE):TE:=fun σ H Q=>ty σ H fun y H1=>td σ H1 fun x H2=>∃ a o,x= .ref a∧DGet H2 a y o∧Q (.bl (!o.isSome)) H2
noncomputable def sDPut (td ty tv:TE):TS:=fun D σ H=>tv σ H fun v H1=>td σ H1 fun x H2=>ty σ H2 fun y H3=>∃ a H4,x= .ref a∧DPut H3 a y v H4∧D.nx σ H4
section
variable {X:Cx} {o i e value:Expr} {pos pos' tpos:Pos} {td ty tv:TE}
theorem zmj (hu:X.A.units+1 < cLine)(ho:PE X o td)(hi:PE X i ty)(hs:NoSl i):PE X (.Subscript o i pos) (tDGet td ty):=by
 intro pins s σ H Q I h
 refine zmF PySem.F.slot_dict_getitem.lookup hs (thn (ho pins s σ H _ I h) fun u s1 ⟨x,H1,I1,rx,q1⟩=>thn (hi pins s1 σ H1 _ I1 q1) fun iv s2 ⟨y,H2,I2,ry,a,v,ex,g,q2⟩=>?_)
 subst ex
 obtain rfl:u=Value.ref a:=rx
 exact ⟨zhM I2 g,zkd hu I2 g ry fun w' s3 I3 rw'=>⟨v,H2,I3,rw',q2⟩⟩
theorem zjE (hu:X.A.units+1 < cLine)(hi:PE X i ty)(ho:PE X o td):PC X .NotIn i o (zjr ty td):=by
 intro pins s σ H Q I h
 refine thn (hi pins s σ H _ I h) fun iv s1 ⟨y,H1,I1,ry,q1⟩=>thn (ho pins s1 σ H1 _ I1 q1) fun u s2 ⟨x,H2,I2,rx,a,ov,ex,g,q2⟩=>?_
 subst ex
 obtain rfl:u=Value.ref a:=rx
 exact zmp hu I2 g ry fun s3 I3=>⟨.bl (!ov.isSome),H2,I3,rfl,q2⟩
theorem zmh (hu:X.A.units+1 < cLine)(ho:PE X o td)(hi:PE X i ty)(hv:PE X value tv)(hs:swapsWith value (some (.Subscript o i pos')) pos.line X.env=pure false):
  PS X (.Assign [.Subscript o i pos'] value pos) (sDPut td ty tv):=by
 intro pins s σ H D I h
 refine wpAny_Assign_Subscript (thn (hv pins s σ H _ I h) fun r s1 ⟨v,H1,I1,rv,q1⟩=>thn (ho pins s1 σ H1 _ I1 q1) fun u s2 ⟨x,H2,I2,rx,q2⟩=>thn (hi pins s2 σ H2 _ I2 q2) fun iv s3 ⟨y,H3,I3,ry,a,H4,ex,g,q3⟩=>?_) hs
 subst ex
 obtain rfl:u=Value.ref a:=rx
 exact zjm hu I3 g ry rv fun s4 I4=>⟨σ,H4,I4,q3⟩
end
theorem zlq {P:Program}{w:World}{H:Hp}(h:Heap)(hb:sysModules < h.objs.size):zbm P w H (h.push {cls:=.type "dict",data:=.dict #[]}) h.objs.size (.dK []):=
 ⟨Nat.zero_le _,beq_eq_false_iff_ne.mpr (Ne.symm (Nat.ne_of_lt hb)),[],.nil,Heap.DictOf.new h⟩
theorem zik {P:Program}{w:World}{H:Hp}(h:Heap)(hb:sysModules < h.objs.size):zbm P w H (h.push {cls:=.type "dict",data:=.dict #[]}) h.objs.size (.dT []):=
 ⟨Nat.zero_le _,beq_eq_false_iff_ne.mpr (Ne.symm (Nat.ne_of_lt hb)),[],.nil,_,#[],0,Heap.get?_push_size _ rfl,⟨rfl,rfl,rfl⟩,rfl,rfl,List.nodup_nil⟩
noncomputable def zlL:TE:=fun _ H Q=>∀ p,H p=none→Q (.ref p) (upd H p (.dT []))
section
variable {X:Cx} {pos:Pos}
theorem zkY:PE X (.Dict [] [] pos) zlL:=fun pins s σ H Q I h=>
 wpAny_Dict_empty ⟨.ref s.heap.objs.size,_,I.laid (a:=s.heap.objs.size) (o:=.dT []) (t':=s.toks) (fun _ _ q=>Heap.get?_push_of_some _ q) (Nat.le_refl _) (zik s.heap I.big),rfl,h _ (I.hok.fresh (Nat.le_refl _))⟩
end
noncomputable def zjb:List (TE×TE)→St→Hp→(List (V×V)→Hp→Prop)→Prop
 | [],_,H,Q=>Q [] H
 | (tk,tv)::r,σ,H,Q=>tk σ H fun x H1=>tv σ H1 fun y H2=>zjb r σ H2 fun ps H3=>Q ((x,y)::ps) H3
noncomputable abbrev VV:List (V×V)→List (Value×Value)→Prop:=Paired fun p q=>RelV p.1 q.1∧RelV p.2 q.2
noncomputable def PPs (X:Cx) (pos:Pos) (keys:List (Option Expr)) (values:List Expr) (trs:List (TE×TE)):Prop:=
 ∀ (pins:List (Addr×Obj)) (s:Shared) (σ :St) (H:Hp) (Q:List (V×V)→Hp→Prop),Inv X pins σ H s→zjb trs σ H Q→
  wpAny (model X.prog X.w) X.A (evalPairs (pairTrees keys values X.env pos)) (fun vs s'=>∃ ps H',Inv X pins σ H' s'∧VV ps vs∧Q ps H') X.xe s
theorem zmn {X:Cx}{pos:Pos}:PPs X pos [] [] []:=fun pins s σ H Q I h=>pairTrees_nil_walk ⟨[],H,I,.nil,h⟩
theorem zk2 {X:Cx}{pos:Pos}{k v:Expr}{ks:List (Option Expr)}{vs:List Expr}{tk tv:TE}{trs:List (TE×TE)}(hk:PE X k tk)(hv:PE X v tv)(hr:PPs X pos ks vs trs):
  PPs X pos (some k::ks) (v::vs) ((tk,tv)::trs):=fun pins s σ H Q I h=>
 pairTrees_cons_walk (thn (hk pins s σ H _ I h) fun u s1 ⟨x,H1,I1,rx,q1⟩=>thn (hv pins s1 σ H1 _ I1 q1) fun w2 s2 ⟨y,H2,I2,ry,q2⟩=>
  thn (hr pins s2 σ H2 _ I2 q2) fun ws s3 ⟨ps,H3,I3,rel,q3⟩=>⟨(x,y)::ps,H3,I3,.cons ⟨rx,ry⟩ rel,q3⟩)
noncomputable def zdS (kvs more:List (Key×V)):List (Key×V):=more.foldl (fun acc kv=>putK acc kv.1 kv.2) kvs
theorem KV.merge:∀ {more:List (Key×V)} {rs:List (Key×Value)} {kvs:List (Key×V)} {vs:List (Key×Value)},KV more rs→KV kvs vs→KV (zdS kvs more) (merged vs rs):=by
 intro more rs kvs vs r
 unfold KV at r
 induction r generalizing kvs vs with
 | nil=>intro q;exact q
 | @cons p q ps qs h t ih=>
  intro r0
  have e:KV (putK kvs p.1 p.2) (stored vs q.1 q.2):=by
   have:=r0.put p.1 h.2
   rw [← h.1];exact this
  exact ih e
theorem zel:∀ (more kvs:List (Key×V)),(zdS kvs more).length≤kvs.length+more.length
 | [],kvs=>by show kvs.length≤kvs.length+0;omega
 | p::r,kvs=>by
  have h1:=zel r (putK kvs p.1 p.2)
  have h2:=zdl kvs p.1 p.2
  show (zdS (putK kvs p.1 p.2) r).length≤_
  rw [List.length_cons];omega
theorem zf6 {P:Program}{w:World}:∀ {kvs:List (Key×V)} {ws:List (Value×Value)},VV (kvs.map fun kv=>(kV kv.1,kv.2)) ws→∃ rs,Carries (zaG P w) ws rs∧KV kvs rs
 | [],_,r=>by rw [List.map_nil] at r;cases r;exact ⟨[],True.intro,.nil⟩
 | p::kvs,_,r=>by
  rw [List.map_cons] at r
  cases r with
  | @cons a b as bs h t=>
   obtain ⟨rs,c,q⟩:=zf6 (P:=P) (w:=w) t
   obtain ⟨b1,b2⟩:=b
   exact ⟨(p.1,b2)::rs,⟨ziu h.1,rfl,c⟩,.cons ⟨rfl,h.2⟩ q⟩
noncomputable def tDisp (trs:List (TE×TE)):TE:=fun σ H Q=>∀ p,H p=none→zjb trs σ (upd H p (.dK [])) fun ps H2=>H2 p=some (.dK [])∧∃ kvs:List (Key×V),ps=kvs.map (fun kv=>(kV kv.1,kv.2))∧kvs.length≤15∧Q (.ref p) (upd H2 p (.dK (zdS [] kvs)))
theorem zl1 {X:Cx}{pos:Pos}{keys:List (Option Expr)}{values:List Expr}{trs:List (TE×TE)}(h:PPs X pos keys values trs)(hall:keys.all (·.isSome)=true)(hl:keys.length=values.length)(h0:keys≠[])
  (h15:keys.length≤15):PE X (.Dict keys values pos) (tDisp trs):=by
 intro pins s σ H Q I q
 have hn:=I.hok.fresh (Nat.le_refl s.heap.objs.size)
 have I1:=I.laid (a:=s.heap.objs.size) (o:=.dK []) (h':=s.heap.push {cls:=.type "dict",data:=.dict #[]}) (t':=s.toks) (fun _ _ q=>Heap.get?_push_of_some _ q) (Nat.le_refl _) (zlq s.heap I.big)
 refine wpAny_Dict_walk (knd:=zaG X.prog X.w) hall hl h0 h15 (thn (h pins _ σ _ _ I1 (q _ hn)) fun ws s2 ⟨ps,H2,I2,rel,e,kvs,ep,lk,q2⟩=>?_)
 subst ep
 obtain ⟨rs,c,rk⟩:=zf6 (P:=X.prog) (w:=X.w) rel
 obtain ⟨z,hd,vs0,r0,dd⟩:=dk_of I2.hok e
 cases r0
 refine ⟨rs,c,dd,fun h' dd' hs=>⟨.ref s.heap.objs.size,_,?_,rfl,q2⟩⟩
 have hz:(zdS [] kvs).length≤sizeLine:=by
  have h1:=zel kvs []
  rw [List.length_nil] at h1
  rw [sizeLine_eq];omega
 have he:∃ q,h'.get? s.heap.objs.size=some q:=let ⟨q,_,_,hq,_⟩:=dd';⟨q,hq⟩
 exact zgG I2 (by rw [e];exact True.intro) hs he (zlI hz hd (rk.merge .nil) dd')
structure M2 (X:Cx) (o:Expr) (m:Str) (apos:Pos) (e f:Expr) (cpos:Pos):Prop where
 base:attributeBase o m X.env (eval o X.env)=eval o X.env
 few:((backTo cpos (starEach [e,f] X.env)).all (fun x=>!x.1) && (backToKw cpos (keywordEach [] X.env)).all (fun x=>x.1.isSome)
  && decide (([e,f]:List Expr).length+([]:List Keyword).length+(if ([]:List Keyword).isEmpty then 0 else 1) < 30))=true
 line:(apos.endLine==cpos.line)=true
 trees:backTo cpos (starEach [e,f] X.env)= [(false,eval e X.env),(false,eval f X.env)]
noncomputable def IsD (H:Hp) (a:Addr):Prop:=(∃ kvs,Rd H a (.dK kvs))∨∃ kvs,Rd H a (.dT kvs)
theorem isD_at {X:Cx}{pins:List (Addr×Obj)}{σ :St}{H:Hp}{s:Shared}{a:Addr}(I:Inv X pins σ H s)(d:IsD H a):
  s.TypeIs (.ref a) "dict"∧(∀ b,Value.ref a= .ref b→∃ ob,s.heap.get? b=some ob∧ob.dict=none)∧(a==sysModules)=false:=by
 rcases d with ⟨kvs,e⟩ | ⟨kvs,e⟩
 ·obtain ⟨_,hd,vs,_,dd⟩:=ziH I.hok e
  refine ⟨dd.typeIs,fun b q=>?_,hd⟩
  cases q
  obtain ⟨ob,_,_,h1,h2,_⟩:=dd
  exact ⟨ob,h1,h2.2.1⟩
 ·obtain ⟨_,hd,xs,_,dd⟩:=ziA I.hok e
  refine ⟨dd.typeIs,fun b q=>?_,hd⟩
  cases q
  obtain ⟨ob,_,_,h1,h2,_⟩:=dd
  exact ⟨ob,h1,h2.2.1⟩
section
variable {X:Cx} {pins:List (Addr×Obj)} {σ :St} {H:Hp} {s:Shared} {a:Addr} {y d:V} {u r:Value} {o:Option V} {A:Around} {E:Value→Shared→Prop}
theorem d_get2 {Q:Value→Shared→Prop}(hu:A.units+1 < cLine)(I:Inv X pins σ H s)(g:DGet H a y o)(ry:RelV y u)(rd:RelV d r)(h:∀ w' s',Inv X pins σ H s'→RelV (o.getD d) w'→Q w' s'):
  wpAny (model X.prog X.w) A (call (.builtin "dict.get") [.ref a,u,r]) Q E s:=by
 rcases g with ⟨kvs,k,e,ey,l⟩ | ⟨kvs,k,b,e,ey,eb,l⟩
 ·subst ey
  obtain ⟨z,hd,vs,rel,dd⟩:=ziH I.hok e
  refine call_meetsIn PySem.F.slot_dict_get dd.typeIs PySem.F.entry_dict_get (PySem.F.args_dict_get_3 _ _ _) (meets_dict_get_default (zaG X.prog X.w) a (ziu ry) hd r) ⟨_,dd.mapOf,h _ _ (I.tok _) ?_⟩
  rw [l]
  exact (rel.val k).getD rd
 ·subst ey
  cases (show u=Value.ref b from ry)
  obtain ⟨z,hd,xs,rel,dd⟩:=ziA I.hok e
  refine call_meetsIn PySem.F.slot_dict_get dd.typeIs PySem.F.entry_dict_get (PySem.F.args_dict_get_3 _ _ _) (meetsH_dict_get_default (tupleKind (zaG X.prog X.w)) a b hd r) ⟨tupleKind_room_in1 hu,k,xs,zfA I.hok eb,dd,h _ _ (I.tok _) ?_⟩
  rw [l]
  exact (rel.val k).getD rd
end
noncomputable def zlO (td ty tx:TE):TE:=fun σ H Q=>td σ H fun x H1=>∃ a,x= .ref a∧IsD H1 a∧ty σ H1 fun y H2=>tx σ H2 fun z H3=>∃ o,DGet H3 a y o∧Q (o.getD z) H3
section
variable {X:Cx} {o e f:Expr} {apos cpos:Pos} {td ty tx:TE}
theorem zk7 (hu:X.A.units+1 < cLine)(ho:PE X o td)(he:PE X e ty)(hf:PE X f tx)(m:M2 X o "get" apos e f cpos):PE X (.Call (.Attribute o "get" apos) [e,f] [] cpos) (zlO td ty tx):=by
 intro pins s σ H Q I h
 refine wpAny_Call_method m.base m.few m.line PySem.F.plainAttrs_dict PySem.F.slot_dict_get PySem.F.type_dict_get (thn (ho pins s σ H _ I h) fun u s1 ⟨x,H1,I1,rx,a,ex,d,q1⟩=>?_)
 subst ex
 obtain rfl:u=Value.ref a:=rx
 obtain ⟨t1,t2,_⟩:=isD_at I1 d
 refine ⟨t1,t2,?_⟩
 rw [m.trees]
 refine Calls.callWith_builtin rfl (Calls.evalArgs_plain (Calls.spliced_cons (thn (he pins s1 σ H1 _ I1 q1) fun iv s2 ⟨y,H2,I2,ry,q2⟩=>
  Calls.spliced_cons (thn (hf pins s2 σ H2 _ I2 q2) fun fv s3 ⟨z,H3,I3,rz,ov,g,q3⟩=>Calls.spliced_nil ?_))))
 exact d_get2 hu I3 g ry rz fun w' s4 I4 rw'=>⟨_,H3,I4,rw',q3⟩
end
section
variable {X:Cx} {pins:List (Addr×Obj)} {σ :St} {H:Hp} {s:Shared} {a:Addr} {kvs:List (Key×V)} {A:Around} {E:Value→Shared→Prop}
end
section
variable {X:Cx} {pins:List (Addr×Obj)} {σ :St} {H:Hp} {s:Shared} {a:Addr} {y:V} {u:Value} {A:Around} {E:Value→Shared→Prop}
end
end L2
namespace Att
open PySem PySem.W PySem.Calls PyProof.Rows
theorem ze8 {P:Params}{h:Heap}:∀ (ns:List Int) (vs:List Value),WellAll P h vs (ns.map WData.int)→IntsAre vs ns:=by
 intro ns
 induction ns with
 | nil=>
  intro vs w
  rw [List.map_nil] at w
  cases w
  exact .nil
 | cons n ns ih=>
  intro vs w
  rw [List.map_cons] at w
  cases w with
  | cons a b=>
   cases a
   exact .cons _ _ (ih _ b)
theorem zjz {l:OpenLaw}{n:Nat}(hn:l.most=some n){P:Params}{h:Heap}{args:List WData}{vals:List Value}
  (hpre:l.row.toRowW.claim.pre args=true) (hwl:WellAll P h vals args):
  ∃ a vs ns,vals= [Value.ref a]∧args= [WData.list (ns.map WData.int)]∧h.get? a=some {cls:=.type "list",data:=.seq vs.toArray}∧IntsAre vs ns∧ns.length≤n:=by
 have hsh:WShape.hasAll [] args [.list .int]=true:=(pre_splitW hpre).1
 have hc:l.pre.holds [] {args:=args}=true:=(pre_splitW hpre).2
 obtain ⟨d,r,rfl,h1,h2⟩:=hasAllW_cons hsh
 obtain rfl:=hasAllW_nil h2
 obtain ⟨xs,rfl,h3⟩:=hasW_list h1
 obtain ⟨ns,rfl⟩:=items_int h3
 have hlen:ns.length≤n:=by
  unfold OpenLaw.pre at hc
  have h4:(WTm.not (.lt (.lit (.int (n:Int))) (.len (.arg 0)))).holds [] {args:=[.list (ns.map .int)]}=true:=by
   have h4:=(holds_andW hc).1
   rw [hn] at h4
   exact h4
  have h5:=condW_of h4 (w_not (w_lt w_lit (w_len_list (w_arg rfl))))
  rw [List.length_map] at h5
  refine Nat.le_of_not_lt fun q=>?_
  have q':(n:Int) < ((ns.length:Nat):Int):=by omega
  first
   | (rw [decide_eq_true q'] at h5;exact absurd h5 (by decide))
   | (simp at h5;omega)
 cases hwl with
 | cons w1 w2=>
  cases w2
  cases w1 with
  | list ho hall=>exact ⟨_,_,ns,rfl,rfl,ho,ze8 ns _ hall,hlen⟩
theorem zjw (l:OpenLaw)(args:List WData):l.row.toRowW.claim.post args (.bool true) args=true:=
 postW_of (r:=l.row.toRowW) (X:=(true==true))
  (show WShape.has [] (.bool true) .bool=true by first | rfl | decide | simp [WShape.has,WShape.arms,WShape.armsAll])
  (show (WTm.eq .res (.lit (.bool true))).value [] {args:=args,res:=some (.bool true),after:=args}=some (.bool (true==true)) from w_eq_bool (w_res rfl) w_lit) rfl
theorem attach_call {l:OpenLaw}{n:Nat}{q:Program}{loose:List Str}{XP:(Str→Option Value)→Heap→Prop}{YP:World→Heap→Prop}{d:DefRec}
  (hn:l.most=some n) (hdf:d.params.defaults= [])
  (call:∀ (w:World) (s₀ s₁ :Shared) (mg mb:Str→Option Value) (fa:Addr) (o:Obj) (pm cd doc:Value) (a:Addr) (vs:List Value) (ns:List Int),
   Ground q loose [] XP w s₀ mg mb s₁.heap→YP w s₁.heap→
   s₁.heap.get? fa=some o→o.data= .func (docDef d.name d.params d.body d.scope pm cd doc)→s₁.heap.CodeRec cd d.name→mg d.name=some (.ref fa)→
   s₁.heap.get? a=some {cls:=.type "list",data:=.seq vs.toArray}→IntsAre vs ns→ns.length≤n→s₁.gens= #[]→
   codeAny (model l.prog w) callerA (.call (.ref fa) ⟨[.ref a],[]⟩) (fun r s'=>r= .ok (.ret (.bool true))∧OldK s₁.heap s'.heap∧s'.os=s₁.os∧AllBare s'.gens) s₁):
  WalkO q loose XP YP l.row.toRowW d [] (fun f vs=>PySem.call f vs):=by
 intro w s₀ s₁ mg mb G Y fa o pm cd doc dV kV ho hd hcd hD hmg hg args vals as hpre hlay hrd hwl hlo
 obtain rfl:dV= .none:=Dflts.none hD hdf
 obtain rfl:kV= .none:=Dflts.noKw hD
 obtain ⟨a,vs,ns,rfl,rfl,hobj,hints,hlen⟩:=zjz hn hpre hwl
 refine enter_call (codeAny_mono (call w s₀ s₁ mg mb fa o pm cd doc a vs ns G Y ho (fd_plain hd) hcd hmg hobj hints hlen hg) fun r s' hq=>?_)
 obtain ⟨rfl,h2,h3,h4⟩:=hq
 exact ⟨.inl ⟨.bool true,.bool true,[],rfl,fun _=>rfl,.bool true,zjw l _,fun _=>⟨List.Pairwise.nil,fun _ hm=>(nomatch hm)⟩⟩,h2,h3,h4⟩
section
variable {prog:Program} {w:World} {A:Around} {E:Value→Shared→Prop} {s:Shared} {K:Frag}
end
end Att
namespace L2
open PySem PySem.Spec PyProof.Rows
theorem zgW:∀ {vs:List Value} {ns:List Int},IntsAre vs ns→Vals (ns.map V.int) vs
 | _,_,.nil=>.nil
 | _,_,.cons n t h=>.cons ⟨t,rfl⟩ (zgW h)
noncomputable def Only (H:Hp):Prop:=∀ b,H b=none∨∃ o xs,H b=some (.frz o (.lst xs))
theorem zk9 {P:Program}{w:World}{K:PySem.W.Frag}{mg mb:Str→Option Value}{CX:CXT}{k:Nat}{fa a:Addr}{fd:FuncData}{x:Str}{sp:Sp}{s₁ :Shared}{vs:List Value}{ns:List Int}
  (KX:K.In s₁.heap) (hns:s₁.heap.Ns mainGlobals mg) (hb:s₁.heap.Ns builtinsNs mb) (hbb:∀ x:Str,x≠"__name__"→mb x=bootBuiltins x) (hlim:s₁.heap.NoLimit) (hg:s₁.gens= #[])
  (ha:s₁.heap.get? a=some {cls:=.type "list",data:=.seq vs.toArray}) (hi:IntsAre vs ns) (hl:ns.length≤sizeLine) (hr:Room k callerA)
  (F:∀ base:Heap,K.In base→base.Ns mainGlobals mg→FnOk P w K mg base CX k fa fd [x] sp) (hbind:∀ (s:Shared) (u:Value),BindsTo s fd ⟨[u],[]⟩ [(x,u)])
  (hsp:∀ H:Hp,Only H→SqL K H a (ns.map V.int)→sp [.ref a] H (fun v _=>v= .bl true) fun _ _ _=>False)
  (hCX:∀ H e s',CX [] H s₁ (fun _ _ _=>False) e s'→False):
  codeAny (model P w) callerA (.call (.ref fa) ⟨[.ref a],[]⟩) (fun r s'=>r= .ok (.ret (.bool true))∧OldK s₁.heap s'.heap∧s'.os=s₁.os∧AllBare s'.gens) s₁ :=by
 have rv:=zgW hi
 have lenV:=hi.length
 have core:∀ H:Hp,Only H→SqL K H a (ns.map V.int)→HOk P w H s₁.heap→(∀ b,H b≠none→b=a)→(H a≠none→K.lookup a=none)→
   codeAny (model P w) callerA (.call (.ref fa) ⟨[.ref a],[]⟩) (fun r s'=>r= .ok (.ret (.bool true))∧OldK s₁.heap s'.heap∧s'.os=s₁.os∧AllBare s'.gens) s₁ :=by
  intro H hO hS hok hA hK
  have base_of:∀ {b:Addr} {o:Obj},s₁.heap.get? b=some o→H b=none→(hidT s₁.heap H).get? b=some o:=fun e n=>zkP e n
  have noA:∀ {b:Addr} {o:Obj} {es:Array DictEntry} {ep:Nat},s₁.heap.get? b=some o→o.data= .dict es ep→H b=none:=fun {b o es ep} e d=>by
   cases q:H b with
   | none=>rfl
   | some u=>
    have e':b=a:=hA b (by rw [q];simp)
    subst e'
    rw [ha] at e;cases e
    have d':Data.seq vs.toArray _=Data.dict es ep:=d
    cases d'
  have nsK:∀ {b:Addr} {m:Str→Option Value},s₁.heap.Ns b m→(hidT s₁.heap H).Ns b m:=fun {b m} ⟨o,es,ep,e,d,r⟩=>⟨o,es,ep,base_of e (noA e d),d,r⟩
  have hKb:K.In (hidT s₁.heap H):=fun b o e=>base_of (KX b o e) (by
   cases q:H b with
   | none=>rfl
   | some u=>
    have e':b=a:=hA b (by rw [q];simp)
    subst e'
    rw [hK (by rw [q];simp)] at e;cases e)
  have hM:Mod K mg (hidT s₁.heap H):=⟨hKb,nsK hns,⟨mb,nsK hb,hbb⟩,let ⟨mc,h1,h2⟩:=hlim;⟨mc,nsK h1,h2⟩⟩
  have e0:Env0 P w K mg (hidT s₁.heap H) callerA [] s₁ H:=⟨rfl,hM,fun b o e=>zmQ e,Nat.le_of_eq (zko _ _),trivial,fun b hb=>absurd (show b∈([]:List Addr) from hb) (by simp),hok,.of_eq hg⟩
  refine codeAny_mono ((F _ hKb (nsK hns)).run callerA [] s₁ H ⟨[.ref a],[]⟩ [.ref a] [.ref a] _ _ hr e0 (hbind s₁ (.ref a)) (.cons rfl .nil) (hsp H hO hS)) fun r s' h=>?_
  cases r with
  | error e=>exact (hCX H e s' h).elim
  | ok fl=>
   cases fl with
   | next=>exact False.elim h
   | brk=>exact False.elim h
   | cont=>exact False.elim h
   | ret u=>
    obtain ⟨v,H',os,bare,un,hok',r',q⟩:=h
    have q':v= .bl true:=q
    subst q'
    obtain rfl:u=Value.bool true:=r'
    refine ⟨rfl,OldK.of_keep fun b o e=>?_,os,bare⟩
    cases q:H b with
    | none=>exact un.keep b o e q (by intro z;exact absurd (show b∈([]:List Addr) from z) (by simp)) (by simp)
    | some u=>
     rcases hO b with z | ⟨ob,xs,z⟩
     ·rw [q] at z;cases z
     ·have z2:=un.frzs b ob _ z
      obtain ⟨e1,_⟩:=hok b _ z
      obtain ⟨e2,_⟩:=hok' b _ z2
      rw [e] at e1;cases e1
      exact e2
 cases hk:K.lookup a with
 | some o=>
  have e:=KX a o hk
  rw [ha] at e
  cases e
  refine core (fun _=>none) (fun _=>.inl rfl) (.inr ⟨_,vs.toArray,_,hk,rfl,rfl,rfl,by rw [List.size_toArray,lenV];exact hl,by simpa using rv⟩) (fun b u z=>by have z':(none:Option HO)=some u:=z;cases z') (fun b z=>absurd rfl z) fun z=>absurd rfl z
 | none=>
  refine core (fun b=>if b=a then some (.frz {cls:=.type "list",data:=.seq vs.toArray} (.lst (ns.map V.int))) else none) (fun b=>?_) (.inl (.inr ⟨{cls:=.type "list",data:=.seq vs.toArray},if_pos rfl⟩)) (fun b u z=>?_) (fun b z=>?_) fun _=>hk
  ·by_cases hb:b=a
   ·exact .inr ⟨_,_,if_pos hb⟩
   ·exact .inl (if_neg hb)
  ·by_cases hb:b=a
   ·have z':=(if_pos hb).symm.trans z
    cases z'
    subst hb
    exact ⟨ha,by rw [List.length_map];exact hl,vs,_,rv,ha⟩
   ·have z':=(if_neg hb).symm.trans z
    cases z'
  ·by_cases hb:b=a
   ·exact hb
   ·exact absurd (if_neg hb) z
end L2
namespace L2
open PySem PySem.Spec PyProof.Rows
theorem zlS {l:PySem.W.OpenLaw}{n k:Nat}{q:Program}{loose:List Str}{XP:(Str→Option Value)→Heap→Prop}{YP:World→Heap→Prop}{d:DefRec}{K:Params→PySem.W.Frag}{CX:World→CXT}{sp:World→Sp}{x:Str}
  (hn:l.most=some n) (hn2:n≤sizeLine) (hdf:d.params.defaults= []) (hr:Room k callerA)
  (hY:∀ (w:World) (h:Heap),YP w h→(K w.params).In h)
  (F:∀ (w:World) (mg:Str→Option Value) (fa:Addr) (h:Heap),(K w.params).In h→h.Ns mainGlobals mg→mg d.name=some (.ref fa)→
   ∃ fd:FuncData,(∀ (s:Shared) (u:Value),BindsTo s fd ⟨[u],[]⟩ [(x,u)])∧
    ∀ base:Heap,(K w.params).In base→base.Ns mainGlobals mg→FnOk l.prog w (K w.params) mg base (CX w) k fa fd [x] (sp w))
  (hsp:∀ (w:World) (H:Hp) (a:Addr) (ns:List Int),ns.length≤n→Only H→SqL (K w.params) H a (ns.map V.int)→sp w [.ref a] H (fun v _=>v= .bl true) fun _ _ _=>False)
  (hCX:∀ (w:World) (H:Hp) (s:Shared) (e:Value) (s':Shared),CX w [] H s (fun _ _ _=>False) e s'→False):
  PySem.W.WalkO q loose XP YP l.row.toRowW d [] (fun f vs=>PySem.call f vs):=by
 refine Att.attach_call hn hdf fun w s₀ s₁ mg mb fa o pm cd doc a vs ns G Y ho hd hcd hmg hobj hints hlen hg=>?_
 have KX:=hY w _ Y
 obtain ⟨fd,hb,hF⟩:=F w mg fa _ KX G.T.g hmg
 exact zk9 KX G.T.g G.T.b G.T.builtins G.T.nolimit hg hobj hints (Nat.le_trans hlen hn2) hr hF hb (fun H hO hS=>hsp w H a ns hlen hO hS) fun H e s'=>hCX w H s₁ e s'
end L2
namespace L2
open PySem PySem.Spec PyProof.Rows
noncomputable abbrev CX0:CXT:=fun _ _ _ _ _ _=>False
noncomputable abbrev E0:XK:=fun _ _ _=>False
theorem zaU {X:Cx}:zgO CX0 X E0:=fun _ _ _ _ _ _ _ h=>h.elim
structure Fun (K:PySem.W.Frag) (x qual:Str) (st:Stmt) (f:Addr) (fd:FuncData):Prop where
 ex:∃ (oc:Value) (od:Option Addr) (kV doc pm:Value) (an:Option Addr) (cdv ct:Value) (osl:Array (Option Value)),
  fd=PySem.W.fnOf x qual (zaq st) (zap st) (zag st) .none kV doc pm an cdv ct∧K.lookup f=some ⟨oc,od,.func fd,osl⟩∧PySem.W.codeIn K cdv qual=true
 kp:PySem.W.keepIn K (.ref f)=true
section
variable {P:Program} {w:World} {K:PySem.W.Frag} {mg:Str→Option Value} {base:Heap}
theorem Fun.ok {x qual:Str}{st:Stmt}{f:Addr}{fd:FuncData}{N ps:List Str}{k:Nat}{sp:Sp}(F:Fun K x qual st f fd)(S:zax N ps (zag st))(len:∀ vs H Q E,sp vs H Q E→vs.length=ps.length)
  (hbody:∀ (cdv:Value) (A:Around) (outer:List Env) (s:Shared) (H:Hp) (vs:List V) (Q:VK) (E:XK),Room k (A.deeper (envOfC qual (zag st) s.heap.objs.size f cdv))→sp vs H Q E→
   ∃ t,PSs (cxOf CX0 P w K mg base N qual (zag st) f cdv A outer s H E).nox (zap st) t∧t {nx:=fun _ H'=>Q .non H',rt:=Q} (start N vs) H):FnOk P w K mg base CX0 (k+1) f fd ps sp:=by
 obtain ⟨oc,od,kV,doc,pm,an,cdv,ct,osl,rfl,lk,hcd⟩:=F.ex
 refine zmJ lk hcd S len fun A outer s H vs Q E hr hsp=>?_
 obtain ⟨t,h,q⟩:=hbody cdv A outer s H vs Q E hr hsp
 exact ⟨t,h.nox,q⟩
theorem Fun.binds {x qual:Str}{st:Stmt}{f:Addr}{fd:FuncData}{ps:List Str}(F:Fun K x qual st f fd)
  (h:∀ (kV doc pm:Value) (an:Option Addr) (cdv ct:Value) (us:List Value),us.length=ps.length→bindArgs (PySem.W.fnOf x qual (zaq st) (zap st) (zag st) .none kV doc pm an cdv ct) ⟨us,[]⟩=pure (ps.zip us)):zff K fd ps []:=by
 obtain ⟨oc,od,kV,doc,pm,an,cdv,ct,osl,rfl,lk,hcd⟩:=F.ex
 exact .all (h kV doc pm an cdv ct)
theorem zaE {x qual:Str}{st:Stmt}{f:Addr}{oc:Value}{od an:Option Addr}{osl:Array (Option Value)}{kV doc pm cdv ct:Value}(l:K.lookup f=some ⟨oc,od,.func (PySem.W.fnOf x qual (zaq st) (zap st) (zag st) .none kV doc pm an cdv ct),osl⟩)
  (c:PySem.W.codeIn K cdv qual=true) (k:PySem.W.keepIn K (.ref f)=true):Fun K x qual st f (PySem.W.fnOf x qual (zaq st) (zap st) (zag st) .none kV doc pm an cdv ct):=⟨⟨oc,od,kV,doc,pm,an,cdv,ct,osl,rfl,l,c⟩,k⟩
end
theorem zfP {A:Around}{k:Nat}(hr:Room k A):A.units+1 < cLine:=Nat.lt_of_le_of_lt (Nat.add_le_add_left (by decide: 1≤64) _) hr.units
section
variable {X:Cx}
theorem pv (i:Nat){x:Str}{pos:Pos}(hN:X.N[i]? =some x:=by rfl)(hv:Vis X.env.scope x:=by first | exact Or.inl rfl | exact Or.inr (Or.inl rfl) | exact Or.inr (Or.inr rfl))(hd:(x==("__debug__" :Str))=false:=by decide)
  (hcd:(x==("__classdict__" :Str))=false:=by decide):PE X (.Name x pos) (tVar i):=zlD hN hv hd hcd
end
theorem iteF {A B:Prop}(h:B):if false=true then A else B:=by
 rw [if_neg Bool.false_ne_true]
 exact h
theorem iteT {A B:Prop}(h:A):if true=true then A else B:=by
 rw [if_pos rfl]
 exact h
theorem ite2 {c A B:Prop}[Decidable c](h1:c→A)(h2:¬c→B):if c then A else B:=by
 by_cases h:c
 ·rw [if_pos h]
  exact h1 h
 ·rw [if_neg h]
  exact h2 h
theorem iteNS {c A B:Prop}[Decidable c](hc:c)(h:B):if (!decide c)=true then A else B:=by
 rw [decide_eq_true hc]
 exact iteF h
noncomputable def Same (H H':Hp):Prop:=∀ b o,H b=some o→H' b=some o
theorem Same.refl (H:Hp):Same H H:=fun _ _ h=>h
theorem Same.trans {H H1 H2:Hp}(a:Same H H1)(b:Same H1 H2):Same H H2:=fun c o h=>b c o (a c o h)
theorem Same.free {H H':Hp}(e:Same H H'){l:Addr}(h:H' l=Option.none):H l=Option.none:=by
 cases q:H l with
 | none=>rfl
 | some o=>
  rw [e l o q] at h
  cases h
theorem Same.seq {K:PySem.W.Frag}{H H':Hp}{a:Addr}{xs:List V}(e:Same H H')(h:SqL K H a xs):SqL K H' a xs:=by
 rcases h with (h | ⟨o,h⟩) | h
 ·exact .inl (.inl (e _ _ h))
 ·exact .inl (.inr ⟨o,e _ _ h⟩)
 ·exact .inr h
end L2
namespace L2
open PySem PySem.Spec PyProof.Rows
section
variable {X:Cx}
end
section
variable {κ :Type} [DecidableEq κ]
end
end L2
set_option maxHeartbeats 4000000
namespace L2
open PySem PySem.Spec PyProof.Rows
theorem zgb {prog:Program}{w:World}{A:Around}{R:Result→Shared→Prop}{s:Shared}
  {elt tg iter:Expr} {ifs:List Expr} {scope:Scope} {pos:Pos} {it acc:Value} {env:Env}
  (I:Nat→Shared→Prop)
  (turn:∀ n s,I n s→wpAny (model prog w) A (pyNext it)
   (fun r s1=>match r with
    | none=>R (.ok .next) s1
    | some v=>wpAny (model prog w) A (letOwnedTupleGo tg it v) (fun _ s2=>
      wpAny (model prog w) A (assign tg env v) (fun _ s3=>
      wpAny (model prog w) A
       (forIn ifs true fun c r=>if r=true then do
         let ok ← isTrue c env (eval c env)
         pure (ForInStep.yield ok)
        else pure (ForInStep.yield r))
       (fun ok s4=>if ok=true then
         wpAny (model prog w) A (eval elt env) (fun x s5=>
          wpAny (model prog w) A (call (.builtin "list.append") [acc,x])
           (fun _ s6=>∃ m,m < n∧I m s6) (fun _ _=>False) s5) (fun _ _=>False) s4
        else ∃ m,m < n∧I m s4) (fun _ _=>False) s3) (fun _ _=>False) s2)
      (fun _ _=>False) s1)
   (fun _ _=>False) s)
  (n:Nat) (h:I n s):
  codeAny (model prog w) A (.compLoop (.ListComp elt [⟨tg,iter,ifs,0⟩] scope pos) 0 it acc env) R s:=by
 refine codeAny_loop rfl I (fun n s hI=>?_) n h
 show wpAny _ A ((compTurn _ 0 it acc env).onRaise (fun x=>do noteFrame x env;theTreesLotGoes x)) _ _ s
 refine wpAny_noted (E:=fun e s'=>R (.error e) s') ?_
 rw [compTurn_list]
 refine wpAny_bind (wpAny_standAt (wpAny_bind (wpAny_mono (turn n s hI) (fun r s1 h1=>?_) fun _ _ z=>z.elim)))
 cases r with
 | none=>exact wpAny_pure h1
 | some v=>
  refine wpAny_bind (wpAny_mono h1 (fun _ s2 h2=>wpAny_bind (wpAny_mono h2 (fun _ s3 h3=>
   wpAny_bind (wpAny_mono h3 (fun ok s4 h4=>?_) fun _ _ z=>z.elim)) fun _ _ z=>z.elim)) fun _ _ z=>z.elim)
  cases ok with
  | false=>exact wpAny_pure ⟨rfl,h4⟩
  | true=>
   exact wpAny_bind (wpAny_bind (wpAny_mono h4 (fun x s5 h5=>wpAny_bind (wpAny_mono h5
    (fun _ s6 h6=>wpAny_pure (wpAny_pure ⟨rfl,h6⟩)) fun _ _ z=>z.elim)) fun _ _ z=>z.elim))
theorem zf3 {scope:Scope}{env:Env}(h:∀ y∈scope.names,y.2= .free→∃ c,env.cells.lookup y.1=some c):
  ∃ cl,closureFor scope env=pure cl∧(∀ x c,cl.lookup x=some c→env.cells.lookup x=some c)∧
   ∀ y∈scope.names,y.2= .free→∃ c,cl.lookup y.1=some c:=by
 have all:∀ (ns:List (Str×NameKind)),(∀ y∈ns,y.2= .free→∃ c,env.cells.lookup y.1=some c)→∀ cl0:List (Str×Addr),
   (∀ x c,cl0.lookup x=some c→env.cells.lookup x=some c)→
   ∃ cl,(forIn ns cl0 fun (x:Str×NameKind) (r:List (Str×Addr))=>
     (if (x.2==NameKind.free)=true then do
      let a ← cellOf env x.1
      pure (ForInStep.yield ((x.1,a)::r))
     else pure (ForInStep.yield r):Sem _))=pure cl∧(∀ x c,cl.lookup x=some c→env.cells.lookup x=some c)∧
    (∀ x c,cl0.lookup x=some c→∃ c,cl.lookup x=some c)∧∀ y∈ns,y.2= .free→∃ c,cl.lookup y.1=some c:=by
  intro ns
  induction ns with
  | nil=>exact fun _ cl0 h0=>⟨cl0,rfl,h0,fun x c e=>⟨c,e⟩,fun y hy=>nomatch hy⟩
  | cons y r ih=>
   intro hy cl0 h0
   by_cases hk:y.2= .free
   ·obtain ⟨c,hc⟩:=hy y (.head _) hk
    have h1:∀ x d,((y.1,c)::cl0).lookup x=some d→env.cells.lookup x=some d:=fun x d e=>by
     rw [List.lookup_cons] at e
     cases q:x==y.1 with
     | true=>
      rw [q] at e
      have:x=y.1:=eq_of_beq q
      subst this
      exact (Option.some.inj e) ▸ hc
     | false=>
      rw [q] at e
      exact h0 x d e
    obtain ⟨cl,e,a,b,d⟩:=ih (fun z hz=>hy z (.tail _ hz)) ((y.1,c)::cl0) h1
    have keep:∀ x d,cl0.lookup x=some d→∃ d,cl.lookup x=some d:=fun x d e=>by
     cases q:x==y.1 with
     | true=>exact b x c (by rw [List.lookup_cons,q])
     | false=>exact b x d (by rw [List.lookup_cons,q];exact e)
    refine ⟨cl,?_,a,keep,fun z hz hf=>?_⟩
    ·rw [List.forIn_cons]
     have:(y.2==NameKind.free)=true:=by rw [hk];rfl
     rw [if_pos this]
     have ec:cellOf env y.1=pure c:=by unfold cellOf;rw [hc]
     rw [ec]
     exact e
    ·rcases List.mem_cons.mp hz with rfl | hz
     ·exact b z.1 c (by rw [List.lookup_cons,beq_self_eq_true])
     ·exact d z hz hf
   ·obtain ⟨cl,e,a,b,d⟩:=ih (fun z hz=>hy z (.tail _ hz)) cl0 h0
    refine ⟨cl,?_,a,b,fun z hz hf=>?_⟩
    ·rw [List.forIn_cons]
     have:¬(y.2==NameKind.free)=true:=by simpa using hk
     rw [if_neg this]
     exact e
    ·rcases List.mem_cons.mp hz with rfl | hz
     ·exact absurd hf hk
     ·exact d z hz hf
 obtain ⟨cl,e,a,_,d⟩:=all scope.names h [] (fun x c e=>by simp at e)
 exact ⟨cl,congrArg (fun (m:Sem (List (Str×Addr)))=>m >>=fun cs=>pure cs) e,a,d⟩
theorem zeI {scope:Scope}{env:Env}{x:Str}(hc:∀ y∈scope.names,y.2≠.cell)
  (h:(relabel scope env).names.lookup x=some .cell∨(relabel scope env).names.lookup x=some .free):∃ y∈scope.names,y.1=x∧y.2= .free:=by
 have all:∀ ns:List (Str×NameKind),(∀ y∈ns,y.2≠.cell)→∀ k,(k=NameKind.cell∨k=NameKind.free)→
   (ns.map fun (n,k)=>if (k== .free && env.scope.kind== .function && env.kindOf n==some .cell) then (n,.cell) else (n,k)).lookup x=some k→∃ y∈ns,y.1=x∧y.2= .free:=by
  intro ns
  induction ns with
  | nil=>intro _ k _ e;simp at e
  | cons y r ih=>
   intro hn k hk e
   obtain ⟨n,j⟩:=y
   rw [List.map_cons,List.lookup_cons] at e
   have step:(∃ z∈r,z.1=x∧z.2= .free)→∃ z∈(n,j)::r,z.1=x∧z.2= .free:=fun ⟨z,hz,q⟩=>⟨z,.tail _ hz,q⟩
   by_cases hcc:(j==NameKind.free && env.scope.kind== .function && env.kindOf n==some .cell)=true
   ·have hj:j= .free:=by
     simp only [Bool.and_eq_true,beq_iff_eq] at hcc
     exact hcc.1.1
    simp only [hcc,if_true] at e
    cases q:x==n with
    | true=>exact ⟨(n,j),.head _,(eq_of_beq q).symm,hj⟩
    | false=>
     rw [q] at e
     exact step (ih (fun z hz=>hn z (.tail _ hz)) k hk e)
   ·simp only [hcc,if_false,Bool.false_eq_true] at e
    cases q:x==n with
    | true=>
     rw [q] at e
     have ej:j=k:=Option.some.inj e
     refine ⟨(n,j),.head _,(eq_of_beq q).symm,?_⟩
     rcases hk with hk | hk
     ·exact absurd (ej.trans hk) (hn (n,j) (.head _))
     ·exact ej.trans hk
    | false=>
     rw [q] at e
     exact step (ih (fun z hz=>hn z (.tail _ hz)) k hk e)
 rcases h with h | h
 ·exact all scope.names hc _ (.inl rfl) h
 ·exact all scope.names hc _ (.inr rfl) h
noncomputable def zbE (X:Cx) (N:List Str) (scope:Scope) (cl:List (Str×Addr)) (fp:List Addr) (s:Shared) (H:Hp):Cx where
 prog:=X.prog
 w:=X.w
 K:=X.K
 mg:=X.mg
 base:=X.base
 A:=X.A
 N:=N
 s₀ :=s
 H₀ :=H
 env:=compEnvC scope cl s.heap.objs.size X.env
 outer:=X.stack
 stack:=X.stack
 ex:=fp
 fn:=fun _=>false
 calm:=X.calm
 pn:=[]
 xe:=fun _ _=>False
noncomputable def zb1 (n:Nat) (cap:List Nat) (σ :St):St:=List.replicate n none++cap.map fun j=>(σ[j]?).join
noncomputable def PTs (X:Cx) (ifs:List Expr) (t:TT):Prop:=
 ∀ (pins:List (Addr×Obj)) (s:Shared) (σ :St) (H:Hp) (Q:Bool→Hp→Prop),Inv X pins σ H s→t σ H Q→
  wpAny (model X.prog X.w) X.A (forIn ifs true fun c r=>if r=true then do
    let ok ← isTrue c X.env (eval c X.env)
    pure (ForInStep.yield ok)
   else pure (ForInStep.yield r)) (TP X pins σ Q) X.xe s
noncomputable def tYes:TT:=fun _ H Q=>Q true H
theorem zlY {X:Cx}:PTs X [] tYes:=fun _ _ _ H _ I h=>wpAny_tests_nil ⟨H,I,h⟩
theorem zmG {X:Cx}{c:Expr}{t:TT}(h:PT X c t):PTs X [c] t:=fun pins s σ H Q I hw=>wpAny_tests_one (h pins s σ H Q I hw)
noncomputable def zdo (J:It) (D:Addr) (n:Nat) (cap:List Nat) (σ :St) (g:TG) (tt:TT) (te:TE) (Q:VK) (H1:Hp):Prop:=
 ∃ W:Nat→Nat→Hp→Prop,(∃ m,W 0 m (upd H1 D (.lst [])))∧∀ i m H,W i m H→
  (J.stop i H∧Q (.ref D) H)∨(J.go i H∧∃ N:Hp→Prop,(∀ H',N H'→∃ m',m' < m∧W (i+1) m' H')∧∀ x H',J.yld i H x H'→g x (zb1 n cap σ) H' fun σ2 H2=>
   tt σ2 H2 fun b H3=>if b=true then te σ2 H3 fun y H4=>∃ xs,H4 D=some (.lst xs)∧xs.length < sizeLine∧N (upd H4 D (.lst (xs++ [y])))
    else N H3)
noncomputable def zkW (n:Nat) (cap:List Nat) (wi:TI) (g:TG) (tt:TT) (te:TE):TE:=fun σ H Q=>wi σ H fun J H1=>∀ D,H1 D=none→zdo J D n cap σ g tt te Q H1
section
variable {X:Cx} {elt tg iter:Expr} {ifs:List Expr} {scope:Scope} {pos:Pos} {N:List Str} {n:Nat} {cap:List Nat} {wi:TI} {g:TG} {tt:TT} {te:TE}
structure Blk (X:Cx) (scope:Scope) (N:List Str) (n:Nat) (cap:List Nat):Prop where
 kind:scope.kind= .function
 cell:∀ y∈scope.names,y.2≠.cell
 names:∀ y∈scope.names,y.2= .local→scope.names.lookup y.1=some .local
 free:∀ y∈scope.names,y.2= .free→X.env.kindOf y.1=some .cell∨X.env.kindOf y.1=some .free
 len:N.length=n+cap.length
 caps:∀ (i j:Nat) (x:Str),cap[i]? =some j→N[n+i]? =some x→X.N[j]? =some x∧(scope.names.lookup x=some .free)
end
noncomputable def blkOk (names:List (Str×NameKind)) (N:List Str) (n:Nat) (cap:List Nat) (No:List Str) (so:List (Str×NameKind)):Bool:=
 names.all (fun y=>y.2 != .cell) && names.all (fun y=>y.2 != .local || names.lookup y.1==some .local) &&
 names.all (fun y=>y.2 != .free || (so.lookup y.1==some .cell || so.lookup y.1==some .free)) && (N.length==n+cap.length) &&
 (List.range cap.length).all fun i=>match cap[i]?,N[n+i]? with
  | some j,some x=>No[j]? ==some x && names.lookup x==some .free
  | _,_=>true
theorem zbU {X:Cx}{scope:Scope}{N:List Str}{n:Nat}{cap:List Nat}(hk:scope.kind= .function)(h:blkOk scope.names N n cap X.N X.env.scope.names=true):Blk X scope N n cap:=by
 unfold blkOk at h
 simp only [Bool.and_eq_true,List.all_eq_true] at h
 obtain ⟨⟨⟨⟨h1,h2⟩,h3⟩,h4⟩,h5⟩:=h
 refine ⟨hk,fun y hy z=>?_,fun y hy z=>?_,fun y hy z=>?_,by simpa using h4,fun i j x e1 e2=>?_⟩
 ·have:=h1 y hy
  rw [z] at this
  cases this
 ·have:=h2 y hy
  rw [z] at this
  simpa using this
 ·have:=h3 y hy
  rw [z] at this
  show X.env.scope.names.lookup y.1=some .cell∨X.env.scope.names.lookup y.1=some .free
  simpa using this
 ·have hi:i < cap.length:=(List.getElem?_eq_some_iff.mp e1).1
  have:=h5 i (List.mem_range.mpr hi)
  rw [e1,e2] at this
  simpa using this
theorem zjk {n:Nat}{cap:List Nat}{σ :St}{i:Nat}{v:V}(h:(zb1 n cap σ)[i]? =some (some v)):
  ∃ k j,i=n+k∧cap[k]? =some j∧σ[j]? =some (some v):=by
 unfold zb1 at h
 by_cases hi:i < n
 ·rw [List.getElem?_append_left (by simpa using hi),List.getElem?_replicate,if_pos hi] at h
  cases h
 ·rw [List.getElem?_append_right (by simpa using Nat.not_lt.mp hi)] at h
  simp only [List.length_replicate,List.getElem?_map] at h
  cases e:cap[i - n]? with
  | none=>rw [e] at h;cases h
  | some j=>
   rw [e] at h
   have h':(σ[j]?).join=some v:=Option.some.inj h
   refine ⟨i - n,j,by omega,e,?_⟩
   cases q: σ[j]? with
   | none=>rw [q] at h';cases h'
   | some o=>
    rw [q] at h'
    exact congrArg some h'
theorem zeL {scope:Scope}{env:Env}{x:Str}(h:scope.names.lookup x=some .free):
  (relabel scope env).names.lookup x=some .cell∨(relabel scope env).names.lookup x=some .free:=by
 have all:∀ ns:List (Str×NameKind),ns.lookup x=some .free→
   (ns.map fun (n,k)=>if (k== .free && env.scope.kind== .function && env.kindOf n==some .cell) then (n,NameKind.cell) else (n,k)).lookup x=some .cell∨
   (ns.map fun (n,k)=>if (k== .free && env.scope.kind== .function && env.kindOf n==some .cell) then (n,NameKind.cell) else (n,k)).lookup x=some .free:=by
  intro ns
  induction ns with
  | nil=>intro e;simp at e
  | cons y r ih=>
   intro e
   obtain ⟨m,j⟩:=y
   rw [List.lookup_cons] at e
   rw [List.map_cons,List.lookup_cons]
   cases q:x==m with
   | true=>
    rw [q] at e
    have ej:j= .free:=Option.some.inj e
    subst ej
    by_cases hcc:(NameKind.free==NameKind.free && env.scope.kind== .function && env.kindOf m==some .cell)=true
    ·simp only [hcc,if_true,q,true_or]
    ·simp only [hcc,if_false,Bool.false_eq_true,q,or_true]
   | false=>
    rw [q] at e
    have h1:=ih e
    by_cases hcc:(j==NameKind.free && env.scope.kind== .function && env.kindOf m==some .cell)=true
    ·simp only [hcc,if_true,q]
     exact h1
    ·simp only [hcc,if_false,Bool.false_eq_true,q]
     exact h1
 exact all scope.names h
theorem zmZ {X:Cx}{pins:List (Addr×Obj)}{σ :St}{H:Hp}{s:Shared}{N:List Str}{scope:Scope}{n:Nat}{cap:List Nat}{cl:List (Str×Addr)}{fp:List Addr}
  (I:Inv X pins σ H s) (B:Blk X scope N n cap) (c1:∀ x c,cl.lookup x=some c→X.env.cells.lookup x=some c)
  (c2:∀ y∈scope.names,y.2= .free→∃ c,cl.lookup y.1=some c) (hf:∀ b∈fp,FpOk X pins H b) (hfl:∀ b∈fp,b < s.heap.objs.size):(zbE X N scope cl fp s H).Ok where
 mod:=I.ok.mod
 kind:=by show (relabel scope X.env).kind=_;exact B.kind
 glob:=I.ok.glob
 blt:=I.ok.blt
 above:=Nat.le_refl _
 inj:=fun x y c e1 e2=>I.ok.inj x y c (c1 x c e1) (c1 y c e2)
 has:=fun x h=>by
  obtain ⟨y,hy,e,k⟩:=zeI B.cell h
  obtain ⟨c,hc⟩:=c2 y hy k
  exact ⟨c,e ▸ hc⟩
 cab:=fun x c h=>nomatch h
 hd:=I.ok.hd
 frames:=I.ok.frames
 stk:=.inl rfl
 exf:=fun b hb=>⟨Nat.ne_of_lt (hfl b hb),fun x c e=>(hf b hb).2.2.2.2.1 x c (c1 x c e)⟩
 bs:=I.bs
 bsz:=Nat.le_trans I.ok.bsz I.sz
 noex:=fun b o e hb=>by
  rcases (hf b hb).2.2.2.1 with z | z
  ·exact I.ok.noex b o e z
  ·exact absurd (Nat.lt_of_lt_of_le (Heap.lt_size e) (Nat.le_trans I.ok.bsz z)) (Nat.lt_irrefl _)
 exfs:=fun b hb z=>by
  rcases List.mem_cons.mp (I.stkSub b z) with e | e
  ·exact (hf b hb).2.1 e
  ·exact (hf b hb).2.2.1 e
 funs:=I.stack
 frf:=I.stkFree
theorem ziI {X:Cx}{pins:List (Addr×Obj)}{σ :St}{H:Hp}{s:Shared}{h1:Heap}{t1:Nat}{N:List Str}{scope:Scope}{n:Nat}{cap:List Nat}{cl:List (Str×Addr)}{fp:List Addr}{m:Str→Option Value}
  (I:Inv X pins σ H s) (B:Blk X scope N n cap) (c1:∀ x c,cl.lookup x=some c→X.env.cells.lookup x=some c)
  (c2:∀ y∈scope.names,y.2= .free→∃ c,cl.lookup y.1=some c) (hf:∀ b∈fp,FpOk X pins H b) (hfl:∀ b∈fp,b < s.heap.objs.size)
  (hn:h1.Ns s.heap.objs.size m) (k:∀ b o,s.heap.get? b=some o→h1.get? b=some o):
  Inv (zbE X N scope cl fp s H) [] (zb1 n cap σ) H {s with heap:=h1,toks:=t1} where
 ok:=zmZ I B c1 c2 hf hfl
 os:=rfl
 bare:=I.bare
 base:=Un.kept k
 loc:=by
  refine ⟨m,hn,fun i x v e1 e2 e3=>?_⟩
  obtain ⟨k',j,rfl,ec,es⟩:=zjk e2
  obtain ⟨ex,ef⟩:=B.caps k' j x ec e1
  have hy:∃ y∈scope.names,y.1=x∧y.2= .free:=zeI (env:=X.env) B.cell (zeL ef)
  obtain ⟨y,hy,ey,ky⟩:=hy
  have kx:X.env.kindOf x=some .cell∨X.env.kindOf x=some .free:=ey ▸ B.free y hy ky
  obtain ⟨m0,_,hl⟩:=I.loc
  have vis:Vis X.env.scope x:=.inr kx
  obtain ⟨u,r,l⟩:=hl j x v ex es vis
  refine ⟨u,r,.inr ⟨zeL ef,?_⟩⟩
  rcases l with ⟨kl,_⟩ | ⟨_,c,hc,ho⟩
  ·rcases kx with q | q <;> (rw [kl] at q;cases q)
  ·obtain ⟨c',hc'⟩:=c2 y hy ky
   rw [ey] at hc'
   have:=c1 x c' hc'
   rw [hc] at this
   cases this
   obtain ⟨o,eo,d⟩:=ho
   exact ⟨c,hc',o,k c o eo,d⟩
 cell:=fun x c e=>by
  obtain ⟨v,o,eo,d⟩:=I.cell x c (c1 x c e)
  exact ⟨v,o,k c o eo,d⟩
 free:=I.hok.fresh (Nat.le_refl _)
 freeC:=fun x c e=>I.freeC x c (c1 x c e)
 pin:=fun p hp=>nomatch hp
 hok:=I.hok.kept k
 len:=by show (zb1 n cap σ).length=N.length;rw [B.len];unfold zb1;simp
theorem zk4 {X:Cx}{pins:List (Addr×Obj)}{σ σ':St}{H H':Hp}{s s':Shared}{N:List Str}{scope:Scope}{cl:List (Str×Addr)}{fp:List Addr}{pl:List (Addr×Obj)}
  (I:Inv X pins σ H s) (I':Inv (zbE X N scope cl fp s H) pl σ' H' s') (hf:∀ b∈fp,FpOk X pins H b):
  Inv X pins σ H' s'∧FpOk X pins H' s.heap.objs.size∧∃ m,s'.heap.Ns s.heap.objs.size m:=by
 obtain ⟨m,hn,_⟩:=I'.loc
 have u:Un (frs X.stack) fp H H' s.heap s'.heap:=I'.base
 have J:Inv X pins σ H' s':=I.call' (ch:=fp) I'.os u I'.hok I'.bare fun b hb=>by
  obtain ⟨_,a1,_,a3,a4,a5⟩:=hf b hb
  exact ⟨a3,a1,a4,a5⟩
 exact ⟨J,I.fpOk (Nat.le_refl _) I'.free,m,hn⟩
noncomputable def zhu (n:Nat) (g:TG):Prop:=∀ x σ H Q,g x σ H Q→g x σ H fun σ2 H2=>Q σ2 H2∧σ2.length= σ.length∧∀ z,n≤z→σ2[z]? = σ[z]?
noncomputable def zkA (n:Nat) (g:TGs):Prop:=∀ xs σ H Q,g xs σ H Q→g xs σ H fun σ2 H2=>Q σ2 H2∧σ2.length= σ.length∧∀ z,n≤z→σ2[z]? = σ[z]?
theorem zaL {n i:Nat}(h:i < n):zhu n (zd7 i):=fun x σ H Q q=>⟨q,by simp,fun z hz=>by rw [List.getElem?_set_ne (by omega)]⟩
theorem zkF {n:Nat}:zkA n gNil:=fun xs σ H Q q=>⟨q.1,q.2,rfl,fun _ _=>rfl⟩
theorem zhh {n i:Nat}{u:TGs}(h:i < n)(hu:zkA n u)(hm:∀ xs σ H (Q Q':St→Hp→Prop),u xs σ H Q→(∀ a b,Q a b→Q' a b)→u xs σ H Q'):zkA n (zhL (zd7 i) u):=fun xs σ H Q q=>by
 obtain ⟨v,r,e,q⟩:=q
 refine ⟨v,r,e,hm r _ H _ _ (hu r _ H _ q) fun σ2 H2 ⟨p,l,k⟩=>⟨p,by rw [l];simp,fun z hz=>?_⟩⟩
 rw [k z hz,List.getElem?_set_ne (by omega)]
theorem zh2:∀ xs σ H (Q Q':St→Hp→Prop),gNil xs σ H Q→(∀ a b,Q a b→Q' a b)→gNil xs σ H Q':=fun xs σ H Q Q' q m=>⟨q.1,m _ _ q.2⟩
theorem zj4 {i:Nat}{u:TGs}(hm:∀ xs σ H (Q Q':St→Hp→Prop),u xs σ H Q→(∀ a b,Q a b→Q' a b)→u xs σ H Q'):
  ∀ xs σ H (Q Q':St→Hp→Prop),zhL (zd7 i) u xs σ H Q→(∀ a b,Q a b→Q' a b)→zhL (zd7 i) u xs σ H Q':=fun xs σ H Q Q' ⟨v,r,e,q⟩ m=>⟨v,r,e,hm r _ H _ _ q m⟩
theorem zd9 {K:PySem.W.Frag}{n m i j:Nat}(hi:i < n)(hj:j < n):zhu n (gTup K m (zhL (zd7 i) (zhL (zd7 j) gNil))):=fun x σ H Q q=>by
 obtain ⟨a,xs,e,hq,hl,q⟩:=q
 exact ⟨a,xs,e,hq,hl,zhh hi (zhh hj zkF zh2) (zj4 zh2) xs σ H Q q⟩
theorem zhj {X:Cx}{elt tg iter:Expr}{ifs:List Expr}{scope:Scope}{pos:Pos}{N:List Str}{n:Nat}{cap:List Nat}{g:TG}{tt:TT}{te:TE}
  {cl:List (Str×Addr)} {RR:Value→Addr→Result→Shared→Prop} {E:Value→Shared→Prop}
  (hc:X.calm=true) (B:Blk X scope N n cap) (c1:∀ x c,cl.lookup x=some c→X.env.cells.lookup x=some c) (c2:∀ y∈scope.names,y.2= .free→∃ c,cl.lookup y.1=some c)
  (hk:zhu n g) (hg:∀ cl fp s H,PG (zbE X N scope cl fp s H) tg g) (ht:∀ cl fp s H,PTs (zbE X N scope cl fp s H) ifs tt) (he:∀ cl fp s H,PE (zbE X N scope cl fp s H) elt te)
  {pins:List (Addr×Obj)} {σ :St} {Q:VK} {itv:Value} {s2:Shared}
  (h:PIE X pins σ tg (fun J H1=>∀ D,H1 D=none→zdo J D n cap σ g tt te Q H1) itv s2)
  (hRR:∀ (D C:Addr) (H':Hp) (s':Shared) (m:Str→Option Value),Inv X pins σ H' s'→FpOk X pins H' C→s'.heap.Ns C m→Q (.ref D) H'→RR (.ref D) C (.ok .next) s'):
  wpAny (model X.prog X.w) X.A (newList []) (fun acc s3=>
   wpAny (model X.prog X.w) X.A (newFunctionEnv scope X.env.globals cl [] X.env.qual none .none (some X.env)) (fun cenv s4=>
    codeAny (model X.prog X.w) X.A (.compStart (.ListComp elt [⟨tg,iter,ifs,0⟩] scope pos) 0 itv acc {cenv with scope:=relabel scope X.env})
     (RR acc cenv.locals) s4) E s3) E s2:=by
 obtain ⟨it,fp,tn,J,H2,e,I2,T,st2,f2,q2⟩:=h
 subst e
 refine wpAny_newObj_type ?_ (by show 0≤sizeLine;decide)
 have hD:H2 s2.heap.objs.size=none:=I2.hok.fresh (Nat.le_refl _)
 obtain ⟨W,⟨m0,w0⟩,turn⟩:=q2 _ hD
 have I3:Inv X pins σ (upd H2 s2.heap.objs.size (.lst [])) {s2 with heap:=s2.heap.push {cls:=.type "list",data:=.seq ([]:List Value).toArray},toks:=s2.toks}:=
  I2.lnew .nil (by show 0≤sizeLine;decide)
 have st3:tn 0 (s2.heap.push {cls:=.type "list",data:=.seq ([]:List Value).toArray}):=T.keep _ _ _ st2 fun b _ o e=>Heap.get?_push_of_some _ e
 have obj2:=T.obj _ _ st2
 have fD:∀ b∈fp,b≠s2.heap.objs.size:=fun b hb=>by
  obtain ⟨o,eo,_⟩:=obj2 b hb
  exact Nat.ne_of_lt (Heap.lt_size eo)
 have f3:∀ b∈fp,FpOk X pins (upd H2 s2.heap.objs.size (.lst [])) b:=fun b hb=>⟨by rw [zai (fD b hb)];exact (f2 b hb).1,(f2 b hb).2⟩
 have go3:∀ (s3:Shared) (H3:Hp),Inv X pins σ H3 s3→tn 0 s3.heap→(∀ b∈fp,FpOk X pins H3 b)→W 0 m0 H3→
   wpAny (model X.prog X.w) X.A (newFunctionEnv scope X.env.globals cl [] X.env.qual none .none (some X.env)) (fun cenv s4=>
    codeAny (model X.prog X.w) X.A (.compStart (.ListComp elt [⟨tg,iter,ifs,0⟩] scope pos) 0 (.ref it) (.ref s2.heap.objs.size) {cenv with scope:=relabel scope X.env})
     (RR (.ref s2.heap.objs.size) cenv.locals) s4) E s3:=by
  intro s3 H3 I3 st3 f3 w0
  refine wpAny_newFunctionEnv B.cell (fun y hy=>nomatch hy) (fun h4 n4 sb4=>?_) B.kind
  have k4:∀ b o,s3.heap.get? b=some o→h4.get? b=some o:=fun b o e=>sb4.extBut b o (Nat.ne_of_lt (Heap.lt_size e)) (Heap.get?_push_of_some _ e)
  have fl3:∀ b∈fp,b < s3.heap.objs.size:=fun b hb=>by
   obtain ⟨o,eo,_⟩:=T.obj _ _ st3 b hb
   exact Heap.lt_size eo
  have I4:Inv (zbE X N scope cl fp s3 H3) [] (zb1 n cap σ) H3 {s3 with heap:=h4,toks:=s3.toks+([]:List (Str×Value)).length}:=
   ziI I3 B c1 c2 f3 fl3 n4 k4
  have st4:tn 0 h4:=T.keep _ _ _ st3 fun b _ o e=>k4 b o e
  have stat:∀ {H':Hp},(∀ b∈fp,H' b=none)→∀ b∈fp,FpOk (zbE X N scope cl fp s3 H3) [] H' b:=fun hn b hb=>by
   obtain ⟨_,a1,a2,_,a4,_⟩:=f3 b hb
   refine ⟨hn b hb,Nat.ne_of_lt (fl3 b hb),fun z=>?_,.inl hb,fun x c e=>a4 x c (c1 x c e),fun p hp=>nomatch hp⟩
   rcases List.mem_cons.mp (I3.stkSub b z) with e | e
   ·exact a1 e
   ·exact a2 e
  have loop:∀ s5:Shared,s5= {s3 with heap:=h4,toks:=s3.toks+([]:List (Str×Value)).length}→
    codeAny (model X.prog X.w) X.A (.compLoop (.ListComp elt [⟨tg,iter,ifs,0⟩] scope pos) 0 (.ref it) (.ref s2.heap.objs.size) (compEnvC scope cl s3.heap.objs.size X.env))
     (RR (.ref s2.heap.objs.size) s3.heap.objs.size) s5:=by
   rintro s5 rfl
   refine zgb (fun k s'=>∃ i H',Inv (zbE X N scope cl fp s3 H3) [] (zb1 n cap σ) H' s'∧tn i s'.heap∧(∀ b∈fp,H' b=none)∧W i k H') ?_ m0
    ⟨0,H3,I4,st4,fun b hb=>(f3 b hb).1,w0⟩
   rintro k s6 ⟨i,H6,I6,st6,fr6,w6⟩
   rcases turn i k H6 w6 with ⟨stop,qn⟩ | ⟨go,N6,hN6,step⟩
   ·refine thn (T.done (zbE X N scope cl fp s3 H3) rfl rfl rfl hc i [] s6 _ H6 _ I6 (stat fr6) st6 stop) fun r s7 ⟨hr,I7⟩=>?_
    subst hr
    obtain ⟨J7,C7,m7,n7⟩:=zk4 I3 I7 f3
    exact hRR _ _ H6 s7 m7 J7 C7 n7 qn
   ·refine thn (T.item (zbE X N scope cl fp s3 H3) rfl rfl rfl hc i [] s6 _ H6 _ I6 (stat fr6) st6 go) fun r s7 ⟨u,hr,h7⟩=>?_
    subst hr
    refine thn h7 fun _ s8 ⟨x,H8,I8,r8,y8,st8,fr8⟩=>?_
    have I8':=I8.pinned (stat fr8) (T.obj _ _ st8)
    refine thn (hg cl fp s3 H3 _ s8 _ H8 x u _ I8' r8 (hk _ _ _ _ (step x H8 y8))) fun _ s9 ⟨σ9,H9,I9,q9,l9,k9⟩=>?_
    refine thn (ht cl fp s3 H3 _ s9 σ9 H9 _ I9 q9) fun b s10 ⟨H10,I10,q10⟩=>?_
    have wk:∀ (z:Nat) v,(zb1 n cap σ)[z]? =some (some v)→σ9[z]? =some (some v):=fun z v e=>by
     obtain ⟨kk,j,rfl,_,_⟩:=zjk e
     rw [k9 _ (Nat.le_add_right _ _)]
     exact e
    have back:∀ {Ha:Hp} {sa:Shared} {j:Nat},Inv (zbE X N scope cl fp s3 H3) ([]++zgU fp s8.heap) σ9 Ha sa→W (i+1) j Ha→
      ∃ i H',Inv (zbE X N scope cl fp s3 H3) [] (zb1 n cap σ) H' sa∧tn i sa.heap∧(∀ b∈fp,H' b=none)∧W i j H':=fun {Ha sa j} Ia wa=>by
     refine ⟨i+1,Ha,(Ia.unpinned).weak l9.symm wk,T.keep _ _ _ st8 fun b hb o e=>(Ia.pin (b,o) (List.mem_append_right _ (List.mem_append_right _ (zdF hb e)))).1,fun b hb=>?_,wa⟩
     obtain ⟨o,e,d⟩:=T.obj _ _ st8 b hb
     exact (Ia.pin (b,o) (List.mem_append_right _ (List.mem_append_right _ (zdF hb e)))).2.1
    cases b with
    | false=>
     rw [if_neg Bool.false_ne_true] at q10 ⊢
     obtain ⟨m',hm,w'⟩:=hN6 _ q10
     exact ⟨m',hm,back I10 w'⟩
    | true=>
     rw [if_pos rfl] at q10 ⊢
     refine thn (he cl fp s3 H3 _ s10 σ9 H10 _ I10 q10) fun y s11 ⟨yv,H11,I11,r11,q11⟩=>?_
     obtain ⟨xs,eD,hl,q11⟩:=q11
     obtain ⟨m',hm,w'⟩:=hN6 _ q11
     refine thn (zbn _ s11 σ9 H11 (.ref s2.heap.objs.size) [yv] (.ref s2.heap.objs.size) [y] (fun _ Hz=>Hz=upd H11 s2.heap.objs.size (.lst (xs++ [yv]))) I11 rfl (.cons r11 .nil)
      ⟨_,xs,yv,rfl,rfl,eD,hl,rfl⟩) fun _ s12 ⟨_,H12,I12,_,e12⟩=>?_
     subst e12
     exact ⟨m',hm,back I12 w'⟩
  exact codeAny_compStart_list (loop _ rfl) (T.self _ _ _ _ _ st4 (loop _ rfl))
 exact go3 _ _ I3 st3 f3 w0
section
variable {X:Cx} {elt tg iter:Expr} {ifs:List Expr} {scope:Scope} {pos:Pos} {N:List Str} {n:Nat} {cap:List Nat} {wi:TI} {g:TG} {tt:TT} {te:TE}
theorem zmN (hc:X.calm=true)(B:Blk X scope N n cap)(hi:PI X tg iter wi)(hk:zhu n g)
  (hg:∀ cl fp s H,PG (zbE X N scope cl fp s H) tg g) (ht:∀ cl fp s H,PTs (zbE X N scope cl fp s H) ifs tt) (he:∀ cl fp s H,PE (zbE X N scope cl fp s H) elt te)
  (hs:∀ x,foldedSetIterable iter X.env x=pure x:=by intro _;rfl):PE X (.ListComp elt [⟨tg,iter,ifs,0⟩] scope pos) (zkW n cap wi g tt te):=by
 intro pins s σ H Q I h
 obtain ⟨cl,ecl,c1,c2⟩:=zf3 (scope:=scope) (env:=X.env) fun y hy k=>I.ok.has y.1 (B.free y hy k)
 rw [eval_ListComp]
 refine wpAny_comprehension_free (use:=none) rfl hs ecl B.kind B.names ?_
 refine thn (hi pins s σ H _ I h) fun v s1 h1=>thn h1 fun itv s2 h2=>?_
 refine zhj (RR:=fun acc C=>compPost (model X.prog X.w) X.A X.xe none (EP X pins σ Q) acc C) hc B c1 c2 hk hg ht he h2 fun D C H' s' m J f nn q=>?_
 exact ⟨m,nn,fun h' sb=>⟨.ref D,H',J.turned (t':=s'.toks) (fun b o hb e=>sb.extBut b o hb e) f.1 f.2.1 f.2.2.2.1 f.2.2.2.2.1 f.2.2.2.2.2,rfl,q⟩⟩
theorem zlV {i:Nat}{x:Str}{pos' spos:Pos}(hc:X.calm=true)(B:Blk X scope N n cap)(hN:X.N.Nodup)(hi:X.N[i]? =some x)(hx:X.env.scope.names.lookup x=some .local)(hit:PI X tg iter wi)(hk:zhu n g)
  (hg:∀ cl fp s H,PG (zbE X N scope cl fp s H) tg g) (ht:∀ cl fp s H,PTs (zbE X N scope cl fp s H) ifs tt) (he:∀ cl fp s H,PE (zbE X N scope cl fp s H) elt te)
  (hsw:swapsWith (.ListComp elt [⟨tg,iter,ifs,0⟩] scope pos) (some (.Name x pos')) spos.line X.env=pure true)
  (hs:∀ x,foldedSetIterable iter X.env x=pure x:=by intro _;rfl):
  PS X (.Assign [.Name x pos'] (.ListComp elt [⟨tg,iter,ifs,0⟩] scope pos) spos) (tAsg (zkW n cap wi g tt te) (zd7 i)):=by
 intro pins s σ H D I h
 obtain ⟨cl,ecl,c1,c2⟩:=zf3 (scope:=scope) (env:=X.env) fun y hy k=>I.ok.has y.1 (B.free y hy k)
 rw [exec_Assign_Name_used _ _ _ _ hsw]
 refine wpAny_bind (wpAny_standAt (wpAny_bind ?_))
 show wpAny _ X.A (do
  let _ ← comprehension (.ListComp elt [⟨tg,iter,ifs,0⟩] scope pos) scope X.env _ (newList []) false (eval iter X.env)
   (some (assign (.Name x pos') X.env))) _ _ s
 refine wpAny_bind (thn (wpAny_comprehension_free (use:=some (assign (.Name x pos') X.env)) (Q:=fun _ s'=>SP X pins D .next s') rfl hs ecl B.kind B.names ?_) fun _ s' hq=>wpAny_pure (wpAny_pure hq))
 refine thn (hit pins s σ H _ I h) fun v s1 h1=>thn h1 fun itv s2 h2=>?_
 refine zhj (Q:=fun y H2=>zd7 i y σ H2 D.nx) (RR:=fun acc C=>compPost (model X.prog X.w) X.A X.xe (some (assign (.Name x pos') X.env)) (fun _ s'=>SP X pins D .next s') acc C) hc B c1 c2 hk hg ht he h2 fun Dl C H' s' m J f nn q=>?_
 show wpAny (model X.prog X.w) X.A (assign (.Name x pos') X.env (.ref Dl)) _ X.xe s'
 refine wpAny_assign_Name (zhe J hN hi (.inl hx) (show RelV (.ref Dl) (.ref Dl) from rfl) (fun s3 I3 ⟨a,sb,ha⟩=>?_) (.inr hx))
 have ca:C≠a:=by
  rcases ha with e | e
  ·rw [e];exact f.2.1
  ·exact fun z=>f.2.2.2.2.1 x a e z.symm
 refine ⟨m,nn.sameBut sb ca,fun h' sb'=>⟨_,H',I3.turned (t':=s3.toks) (fun b o hb e=>sb'.extBut b o hb e) f.1 f.2.1 f.2.2.2.1 f.2.2.2.2.1 f.2.2.2.2.2,q⟩⟩
end
section
variable {g:TG} {tt:TT} {te:TE} {n0:Nat} {cap:List Nat} {σ :St} {Q:VK} {D:Addr} {H1:Hp} {K:PySem.W.Frag}
theorem zdG {lo:Int}{n:Nat}(Pv:Nat→Hp→Prop)(h0:Pv 0 (upd H1 D (.lst [])))
  (hs:∀ i H,i < n→Pv i H→g (.int (lo+i)) (zb1 n0 cap σ) H fun σ2 H2=>tt σ2 H2 fun b H3=>if b=true then te σ2 H3 fun y H4=>∃ xs,H4 D=some (.lst xs)∧xs.length < sizeLine∧Pv (i+1) (upd H4 D (.lst (xs++ [y]))) else Pv (i+1) H3)
  (hd:∀ H,Pv n H→Q (.ref D) H):
  zdo (Itr lo n) D n0 cap σ g tt te Q H1:=by
 refine ⟨fun i m H=>m=n - i∧i≤n∧Pv i H,⟨n,by simp,Nat.zero_le _,h0⟩,?_⟩
 rintro i m H ⟨rfl,hi,p⟩
 by_cases hlt:i < n
 ·refine .inr ⟨hlt,Pv (i+1),fun H' p'=>⟨n - (i+1),by omega,rfl,hlt,p'⟩,fun x H' y=>?_⟩
  obtain ⟨e1,e2⟩:=y
  subst e1 e2
  exact hs i _ hlt p
 ·have e:i=n:=by omega
  subst e
  exact .inl ⟨Nat.le_refl _,hd H p⟩
theorem zbo {a:Addr}{xs:List V}(Pv:Nat→Hp→Prop)(h0:Pv 0 (upd H1 D (.lst [])))(hl:∀ i H,i≤xs.length→Pv i H→SqL K H a xs)
  (hs:∀ i x H,xs[i]? =some x→Pv i H→g x (zb1 n0 cap σ) H fun σ2 H2=>tt σ2 H2 fun b H3=>if b=true then te σ2 H3 fun y H4=>∃ xs,H4 D=some (.lst xs)∧xs.length < sizeLine∧Pv (i+1) (upd H4 D (.lst (xs++ [y]))) else Pv (i+1) H3)
  (hd:∀ H,Pv xs.length H→Q (.ref D) H):
  zdo (Itl K a) D n0 cap σ g tt te Q H1:=by
 refine ⟨fun i m H=>m=xs.length - i∧i≤xs.length∧Pv i H,⟨xs.length,by simp,Nat.zero_le _,h0⟩,?_⟩
 rintro i m H ⟨rfl,hi,p⟩
 have q:=hl i H hi p
 by_cases hlt:i < xs.length
 ·refine .inr ⟨⟨xs,xs[i],q,by simp [hlt]⟩,Pv (i+1),fun H' p'=>⟨xs.length - (i+1),by omega,rfl,hlt,p'⟩,fun x H' y=>?_⟩
  obtain ⟨e1,y⟩:=y
  subst e1
  exact hs i x _ (y xs q) p
 ·have e:i=xs.length:=by omega
  subst e
  exact .inl ⟨⟨xs,q,Nat.le_refl _⟩,hd H p⟩
theorem zhT {a:Addr}{xs:List V}(Pv:Nat→Hp→Prop)(h0:Pv 0 (upd H1 D (.lst [])))(hl:∀ i H,i≤xs.length→Pv i H→SqT K H a xs)
  (hs:∀ i x H,xs[i]? =some x→Pv i H→g x (zb1 n0 cap σ) H fun σ2 H2=>tt σ2 H2 fun b H3=>if b=true then te σ2 H3 fun y H4=>∃ xs,H4 D=some (.lst xs)∧xs.length < sizeLine∧Pv (i+1) (upd H4 D (.lst (xs++ [y]))) else Pv (i+1) H3)
  (hd:∀ H,Pv xs.length H→Q (.ref D) H):
  zdo (Itt K a) D n0 cap σ g tt te Q H1:=by
 refine ⟨fun i m H=>m=xs.length - i∧i≤xs.length∧Pv i H,⟨xs.length,by simp,Nat.zero_le _,h0⟩,?_⟩
 rintro i m H ⟨rfl,hi,p⟩
 have q:=hl i H hi p
 by_cases hlt:i < xs.length
 ·refine .inr ⟨⟨xs,xs[i],q,by simp [hlt]⟩,Pv (i+1),fun H' p'=>⟨xs.length - (i+1),by omega,rfl,hlt,p'⟩,fun x H' y=>?_⟩
  obtain ⟨e1,y⟩:=y
  subst e1
  exact hs i x _ (y xs q) p
 ·have e:i=xs.length:=by omega
  subst e
  exact .inl ⟨⟨xs,q,Nat.le_refl _⟩,hd H p⟩
end
end L2
namespace L2
open PySem PySem.Spec PyProof.Rows
theorem Inv.laidC {X:Cx}{pins:List (Addr×Obj)}{σ :St}{H:Hp}{s:Shared}{h':Heap}{a:Addr}{o:HO}{t':Nat}{ch:List Addr}(I:Inv X pins σ H s)
  (hch:∀ b∈ch,FpOk X pins H b) (k:∀ b u,b∉ch→s.heap.get? b=some u→h'.get? b=some u) (hp:s.heap.objs.size≤a)
  (new:zbm X.prog X.w (upd H a o) h' a o):Inv X pins σ (upd H a o) {s with heap:=h',toks:=t'}:=by
 have hn:=I.hok.fresh hp
 have nch:∀ c u,H c=some u→c∉ch:=fun c u e z=>by rw [(hch c z).1] at e;cases e
 refine I.step (g':=s.gens) (d':=s.drawn) (ch:=ch) (fun b hb=>⟨(hch b hb).2.2.2.1,(hch b hb).2.1,(hch b hb).2.2.2.2.1,(hch b hb).2.2.2.2.2⟩)
  (fun b u _ _ hc e _=>k b u hc e) (fun b u _ _ hc e _=>⟨u.slots,k b u hc e⟩)
  (fun b u _ e n=>by rw [zai (Nat.ne_of_lt (Nat.lt_of_lt_of_le (Heap.lt_size e) hp))];exact n) (fun b u hc e=>⟨u,k b u hc e⟩)
  (fun b xs q=>by rw [zai (zal q hn)];exact q) (fun b u xs q=>by rw [zai (zal q hn)];exact q)
  (fun b ps q=>⟨#[],by rw [zai (zal q hn),q];simp⟩) (fun m hm=>?_) (fun b u e=>?_) I.bare
 ·exact hm.at' fun ob e=>k _ ob (fun z=>(hch _ z).2.1 rfl) e
 ·by_cases hb:b=a
  ·subst hb;rw [zab] at e;cases e;exact new
  ·rw [zai hb] at e
   refine (I.hok b u e).stay (fun c v hc q=>k c v ?_ q) (fun c q=>by rw [zai (zal q hn)];exact q) fun c xs q=>q.upd hn
   rcases hc with rfl | hc
   ·exact nch _ _ e
   ·exact nch _ _ hc
noncomputable def Ite (K:PySem.W.Frag) (a:Addr):It:=
 ⟨fun i H => ∃ xs x, SqL K H a xs ∧ xs[i]? = some x,
  fun i H v H'=>∃ T x,H T=none∧v= .ref T∧H'=upd H T (.tup [.int i,x])∧∀ xs,SqL K H a xs→xs[i]? =some x,
  fun i H=>∃ xs,SqL K H a xs∧xs.length≤i⟩
theorem zjJ {P:Program}{w:World}{K:PySem.W.Frag}{elts:List Expr}{k:Nat}{tp:Pos}(a e it:Addr)(hne:e≠it):
  Turn P w K (.Tuple elts k tp) (Ite K a) [e,it] e (fun i h=>(∃ old,IsEnum h e it (i:Nat) old)∧h.IsListIter it a i) where
 mem:=by simp
 obj:=fun i h st b hb=>by
  obtain ⟨⟨old,he⟩,o,eo,c,d⟩:=st
  rcases List.mem_cons.mp hb with rfl | hb
  ·exact ⟨_,he,fun v z=>nomatch z⟩
  ·have q:b=it:=by simpa using hb
   subst q
   exact ⟨o,eo,fun v z=>by rw [d] at z;cases z⟩
 keep:=fun i h h' st k=>by
  obtain ⟨⟨old,he⟩,hit⟩:=st
  exact ⟨⟨old,k e (by simp) _ he⟩,hit.at fun o q=>k it (by simp) o q⟩
 item:=by
  intro X hP hw hK hc i pins s σ H E I hf st hg
  subst hP hw hK
  obtain ⟨⟨old,he⟩,hit⟩:=st
  obtain ⟨xs,x,hq,hx⟩:=hg
  obtain ⟨its,rv,p,hz⟩:=I.list hq
  obtain ⟨u,hu,ru⟩:=rv.get hx
  have fe:=hf e (by simp)
  have fi:=hf it (by simp)
  refine wpAny_pyNext_enum_item he hit p.isList (x:=u) (by simpa using hu) hne fun h' ho hit' hT hsz hk=>?_
  have eT:e≠s.heap.objs.size:=Nat.ne_of_lt (Heap.lt_size he)
  have iT:it≠s.heap.objs.size:=by
   obtain ⟨o,eo,_⟩:=hit
   exact Nat.ne_of_lt (Heap.lt_size eo)
  have I1:Inv X pins σ (upd H s.heap.objs.size (.tup [.int i,x])) {s with heap:=h',toks:=s.toks+1}:=
   I.laidC (ch:=[e,it]) hf (fun b v hb q=>hk b v (fun z=>hb (by simp [z])) (fun z=>hb (by simp [z])) q) (Nat.le_refl _)
    ⟨(by show 2≤sizeLine;decide),[.int i s.toks,u],.cons ⟨_,rfl⟩ (.cons ru .nil),_,hT,rfl,_,rfl⟩
  refine ⟨_,rfl,wpAny_letOwnedTupleGo_enum ho fun h2 he2 sb2=>?_⟩
  have I2:Inv X pins σ (upd H s.heap.objs.size (.tup [.int i,x])) {s with heap:=h2,toks:=s.toks+1}:=
   I1.turned (t':=s.toks+1) (fun b o hb q=>(sb2.2 b hb).trans q) (by rw [zai eT];exact fe.1) fe.2.1 fe.2.2.2.1 fe.2.2.2.2.1 fe.2.2.2.2.2
  refine ⟨.ref s.heap.objs.size,_,I2,rfl,⟨_,x,I.hok.fresh (Nat.le_refl _),rfl,rfl,fun ys hy=>by rw [I.list_inj hy hq];exact hx⟩,⟨⟨u,?_⟩,?_⟩,fun b hb=>?_⟩
  ·have:(((i+1:Nat)):Int)=(i:Int)+1:=by omega
   rw [this]
   exact he2
  ·exact hit'.extBut sb2.extBut (Ne.symm hne)
  ·rcases List.mem_cons.mp hb with rfl | hb
   ·rw [zai eT];exact fe.1
   ·have q:b=it:=by simpa using hb
    subst q
    rw [zai iT];exact fi.1
 done:=by
  intro X hP hw hK hc i pins s σ H E I hf st hg
  subst hP hw hK
  obtain ⟨⟨old,he⟩,hit⟩:=st
  obtain ⟨xs,hq,hx⟩:=hg
  obtain ⟨its,rv,p,hz⟩:=I.list hq
  have fi:=hf it (by simp)
  have hl:=rv.length
  exact wpAny_pyNext_enum_end (I.ok.hd hc) he hit p.isList (by simp;omega) fun h' eb=>
   ⟨rfl,I.turned (t':=s.toks) (fun b o hb q=>eb b o hb q) fi.1 fi.2.1 fi.2.2.2.1 fi.2.2.2.2.1 fi.2.2.2.2.2⟩
 self:=fun _ _ _ _ _ st h=>by
  obtain ⟨⟨old,he⟩,_⟩:=st
  exact wpAny_pyIter_enum he h
noncomputable def iEnum (K:PySem.W.Frag) (ta:TA):TI:=fun σ H R=>ta σ H fun vs H1=>∃ l,vs= [.ref l]∧(∃ xs,SqL K H1 l xs)∧R (Ite K l) H1
theorem zmL {X:Cx}{a:Expr}{ta:TA}{p pos tp:Pos}{elts:List Expr}{k:Nat}(hg:Gl X "enumerate")(hm:X.mg "enumerate" =none)(ha:PA X [a] ta)
  (hs:starEach [a] X.env= [(false,eval a X.env)]:=by rfl):PI X (.Tuple elts k tp) (.Call (.Name "enumerate" p) [a] [] pos) (iEnum X.K ta):=by
 intro pins s σ H R I h
 refine Call_ (zf4 I hg hm boot_enumerate (PyProof.Rows.callWith_type1 (thn (ha pos pins s σ H _ I h) fun us s1 ⟨vs,H1,I1,r1,q1⟩=>?_) hs rfl))
 obtain ⟨l,e,⟨xs,hq⟩,q⟩:=q1
 subst e
 cases r1 with
 | cons r rr=>
  cases rr
  cases r
  obtain ⟨its,rv,pl,hz⟩:=I1.list hq
  refine call_enumerate_list pl.isList fun h' he hit hz' hk=>?_
  refine wpAny_pyIter_enum he ?_
  refine ⟨s1.heap.objs.size+1,[s1.heap.objs.size+1,s1.heap.objs.size],_,_,H1,rfl,I1.kept (t':=s1.toks) hk,zjJ l _ _ (Nat.succ_ne_self _),⟨⟨_,he⟩,hit⟩,fun b hb=>?_,q⟩
  have le:s1.heap.objs.size≤b:=by
   rcases List.mem_cons.mp hb with z | hb
   ·rw [z];exact Nat.le_succ _
   ·have z:b=s1.heap.objs.size:=by simpa using hb
    rw [z];exact Nat.le_refl _
  exact I1.fpOk le (I1.hok.fresh le)
theorem zic {K:PySem.W.Frag}{a:Addr}{xs:List V}{g:TG}{tb:TS}{D:Ends}{σ :St}{H:Hp}(Pv:Nat→St→Hp→Prop)(h0:Pv 0 σ H)
  (hl:∀ i σ H,i≤xs.length→Pv i σ H→SqL K H a xs)
  (hs:∀ i x σ H T,xs[i]? =some x→Pv i σ H→H T=none→g (.ref T) σ (upd H T (.tup [.int i,x])) fun σ2 H2=>tb {D with nx:=Pv (i+1),ct:=Pv (i+1),bk:=D.nx} σ2 H2)
  (hd:∀ σ H,Pv xs.length σ H→D.nx σ H):
  ∃ W:Nat→Nat→St→Hp→Prop,(∃ m,W 0 m σ H)∧∀ i m σ H,W i m σ H→
   ((Ite K a).stop i H ∧ D.nx σ H) ∨ ((Ite K a).go i H ∧ ∃ N : St → Hp → Prop, (∀ σ' H', N σ' H' → ∃ m', m' < m ∧ W (i + 1) m' σ' H') ∧
     ∀ x H',(Ite K a).yld i H x H'→g x σ H' fun σ2 H2=>tb {D with nx:=N,ct:=N,bk:=D.nx} σ2 H2):=by
 refine ⟨fun i m σ H=>m=xs.length - i∧i≤xs.length∧Pv i σ H,⟨xs.length,by simp,Nat.zero_le _,h0⟩,?_⟩
 rintro i m σ H ⟨rfl,hi,p⟩
 have q:=hl i σ H hi p
 by_cases hlt:i < xs.length
 ·refine .inr ⟨⟨xs,xs[i],q,by simp [hlt]⟩,Pv (i+1),fun σ' H' p'=>⟨xs.length - (i+1),by omega,rfl,hlt,p'⟩,fun x H' y=>?_⟩
  obtain ⟨T,z,hT,e1,e2,y⟩:=y
  subst e1 e2
  exact hs i z σ H T (y xs q) p hT
 ·have e:i=xs.length:=by omega
  subst e
  exact .inl ⟨⟨xs,q,Nat.le_refl _⟩,hd σ H p⟩
end L2
namespace L2
open PySem PySem.Spec PyProof.Rows
open PySem.W (Dat kqdP kqdPs kqdOk)
mutual
inductive Rep (K:PySem.W.Frag) (H:Hp):V→Dat→Prop
 | non:Rep K H .non .none
 | bl (b:Bool):Rep K H (.bl b) (.bool b)
 | int (i:Int):Rep K H (.int i) (.int i)
 | str (x:Str):Rep K H (.str x) (.str x)
 | tup {a:Addr} {xs:List V} {ds:List Dat}:SqT K H a xs→Reps K H xs ds→Rep K H (.ref a) (.tuple ds)
 | lst {a:Addr} {xs:List V} {ds:List Dat}:SqL K H a xs→Reps K H xs ds→Rep K H (.ref a) (.list ds)
inductive Reps (K:PySem.W.Frag) (H:Hp):List V→List Dat→Prop
 | nil:Reps K H [] []
 | cons {x:V} {xs:List V} {d:Dat} {ds:List Dat}:Rep K H x d→Reps K H xs ds→Reps K H (x::xs) (d::ds)
end
theorem Same.seqT {K:PySem.W.Frag}{H H':Hp}{a:Addr}{xs:List V}(e:Same H H')(h:SqT K H a xs):SqT K H' a xs:=by
 rcases h with h | h
 ·rcases h with h | ⟨o,h⟩
  ·exact .inl (.inl (e _ _ h))
  ·exact .inl (.inr ⟨o,e _ _ h⟩)
 ·exact .inr h
mutual
theorem Rep.mono {K:PySem.W.Frag}{H H':Hp}(s:Same H H'):∀ {v:V} {d:Dat},Rep K H v d→Rep K H' v d
 | _,_,.non=>.non
 | _,_,.bl b=>.bl b
 | _,_,.int i=>.int i
 | _,_,.str x=>.str x
 | _,_,.tup h r=>.tup (s.seqT h) (Reps.mono s r)
 | _,_,.lst h r=>.lst (s.seq h) (Reps.mono s r)
theorem Reps.mono {K:PySem.W.Frag}{H H':Hp}(s:Same H H'):∀ {vs:List V} {ds:List Dat},Reps K H vs ds→Reps K H' vs ds
 | _,_,.nil=>.nil
 | _,_,.cons h r=>.cons (Rep.mono s h) (Reps.mono s r)
end
theorem Reps.length {K:PySem.W.Frag}{H:Hp}:∀ {vs:List V} {ds:List Dat},Reps K H vs ds→vs.length=ds.length
 | _,_,.nil=>rfl
 | _,_,.cons _ r=>congrArg Nat.succ (Reps.length r)
theorem Reps.get {K:PySem.W.Frag}{H:Hp}:∀ {vs:List V} {ds:List Dat} {i:Nat} {v:V},Reps K H vs ds→vs[i]? =some v→∃ d,ds[i]? =some d∧Rep K H v d
 | _,_,_,_,.nil,e=>by simp at e
 | _,_,0,_,.cons h _,e=>by simp at e;subst e;exact ⟨_,rfl,h⟩
 | _,_,i+1,v,.cons _ r,e=>by
  obtain ⟨d,h1,h2⟩:=Reps.get (i:=i) (v:=v) r (by simpa using e)
  exact ⟨d,by simpa using h1,h2⟩
theorem Reps.getD {K:PySem.W.Frag}{H:Hp}:∀ {vs:List V} {ds:List Dat} {i:Nat} {d:Dat},Reps K H vs ds→ds[i]? =some d→∃ v,vs[i]? =some v∧Rep K H v d
 | _,_,_,_,.nil,e=>by simp at e
 | _,_,0,_,.cons h _,e=>by simp at e;subst e;exact ⟨_,rfl,h⟩
 | _,_,i+1,v,.cons _ r,e=>by
  obtain ⟨d,h1,h2⟩:=Reps.getD (i:=i) (d:=v) r (by simpa using e)
  exact ⟨d,by simpa using h1,h2⟩
theorem Reps.append {K:PySem.W.Frag}{H:Hp}:∀ {vs us:List V} {ds es:List Dat},Reps K H vs ds→Reps K H us es→Reps K H (vs++us) (ds++es)
 | _,_,_,_,.nil,s=>s
 | _,_,_,_,.cons h r,s=>.cons h (Reps.append r s)
theorem Reps.snoc {K:PySem.W.Frag}{H:Hp}{vs:List V}{ds:List Dat}{v:V}{d:Dat}(r:Reps K H vs ds)(h:Rep K H v d):Reps K H (vs++ [v]) (ds++ [d]):=r.append (.cons h .nil)
theorem Reps.ints {K:PySem.W.Frag}{H:Hp}:∀ ns:List Int,Reps K H (ns.map V.int) (ns.map Dat.int)
 | []=>.nil
 | n::r=>.cons (.int n) (Reps.ints r)
section
variable {X:Cx} {pins:List (Addr×Obj)} {σ :St} {H:Hp} {s:Shared}
mutual
theorem Rep.reads (I:Inv X pins σ H s):∀ (n:Nat) {v:V} {d:Dat} {u:Value},Rep X.K H v d→RelV v u→kqdOk n d=true→∃ as,Reads s.heap u (kqdP d) as
 | _,_,_,_,.non,r,_=>by cases (show _=_ from r);exact ⟨_,Reads.none⟩
 | _,_,_,_,.bl b,r,_=>by cases (show _=_ from r);exact ⟨_,Reads.bool b⟩
 | _,_,_,_,.int i,r,_=>by obtain ⟨t,rfl⟩:=r;exact ⟨_,Reads.int i t⟩
 | _,_,_,_,.str x,r,_=>by obtain ⟨t,rfl⟩:=r;exact ⟨_,Reads.str x t⟩
 | 0,_,_,_,.tup _ _,_,hk=>by simp [kqdOk] at hk
 | 0,_,_,_,.lst _ _,_,hk=>by simp [kqdOk] at hk
 | n+1,_,_,_,.tup h q,r,hk=>by
  cases (show _=_ from r)
  obtain ⟨its,rv,⟨o,e,c,m,d⟩,_⟩:=I.tuple h
  obtain ⟨as,z⟩:=Reps.reads I n q rv (by simpa [kqdOk] using hk)
  rw [kqdP]
  exact ⟨as,reads_tuple_at e c d (by simpa using z)⟩
 | n+1,_,_,_,.lst h q,r,hk=>by
  cases (show _=_ from r)
  obtain ⟨its,rv,⟨o,m,e,c,_,d⟩,_⟩:=I.list h
  obtain ⟨as,z⟩:=Reps.reads I n q rv (by simpa [kqdOk] using hk)
  rw [kqdP]
  exact ⟨_,reads_list_at e c d (by simpa using z)⟩
theorem Reps.reads (I:Inv X pins σ H s):∀ (n:Nat) {vs:List V} {ds:List Dat} {us:List Value},Reps X.K H vs ds→Vals vs us→(∀ d∈ds,kqdOk n d=true)→∃ as,ReadsAll s.heap us (kqdPs ds) as
 | _,_,_,_,.nil,r,_=>by cases r;exact ⟨_,ReadsAll.nil⟩
 | n,_,_,_,.cons h q,r,hk=>by
  cases r with
  | cons r1 r2=>
   obtain ⟨as,z⟩:=Rep.reads I n h r1 (hk _ (.head _))
   obtain ⟨bs,y⟩:=Reps.reads I n q r2 fun d hm=>hk d (.tail _ hm)
   rw [kqdPs]
   exact ⟨_,ReadsAll.cons z y⟩
end
end
noncomputable def rEqD (K:PySem.W.Frag) (neg:Bool):R2:=fun x y H Q=>∃ dx dy,Rep K H x dx∧Rep K H y dy∧kqdOk 8 dx=true∧kqdOk 8 dy=true∧(dx=dy→Q (.bl (!neg)) H)∧(dx≠dy→Q (.bl neg) H)
section
variable {X:Cx}
theorem zcz {d:Dat}(h:kqdOk 8 d=true):SeqAt.shaped (kqdP d)=true:=by
 have l:=PySem.W.kqd_lay 8 d h
 unfold SeqAt.shaped
 rw [l.1,Bool.true_and]
 exact decide_eq_true (Nat.le_trans l.2 (by decide))
theorem zig (hu:X.A.units+64 < cLine):OpR X (compareOp .Eq) (rEqD X.K false):=by
 intro pins s σ H x y v u Q I rx ry ⟨dx,dy,hx,hy,kx,ky,q1,q2⟩
 obtain ⟨as,ra⟩:=Rep.reads I 8 hx rx kx
 obtain ⟨bs,rb⟩:=Rep.reads I 8 hy ry ky
 have e:=PySem.W.kqd_eqv 8 dx dy 8 kx ky
 refine eq_dataH ra rb (zcz kx) (zcz ky) hu ?_
 cases z:PyData.eqv (kqdP dx) (kqdP dy) with
 | true=>exact ⟨.bl true,H,I,rfl,q1 (e.mp z)⟩
 | false=>exact ⟨.bl false,H,I,rfl,q2 fun w=>by rw [e.mpr w] at z;cases z⟩
theorem zki (hu:X.A.units+64 < cLine):OpR X (compareOp .NotEq) (rEqD X.K true):=by
 intro pins s σ H x y v u Q I rx ry ⟨dx,dy,hx,hy,kx,ky,q1,q2⟩
 obtain ⟨as,ra⟩:=Rep.reads I 8 hx rx kx
 obtain ⟨bs,rb⟩:=Rep.reads I 8 hy ry ky
 have e:=PySem.W.kqd_eqv 8 dx dy 8 kx ky
 refine ne_dataH ra rb (zcz kx) (zcz ky) hu ?_
 cases z:PyData.eqv (kqdP dx) (kqdP dy) with
 | true=>exact ⟨.bl false,H,I,rfl,q1 (e.mp z)⟩
 | false=>exact ⟨.bl true,H,I,rfl,q2 fun w=>by rw [e.mpr w] at z;cases z⟩
inductive TyR (K:PySem.W.Frag) (H:Hp):V→Value→Prop where
 | of {x:V} {c:Value} (h:TyOf K H x c):TyR K H x c
 | tup {a:Addr} {xs:List V} (h:SqT K H a xs):TyR K H (.ref a) (.type "tuple")
 | lst {a:Addr} {xs:List V} (h:SqL K H a xs):TyR K H (.ref a) (.type "list")
noncomputable def rIsI (K:PySem.W.Frag):List V→Hp→VK→Prop:=fun xs H Q=>∃ x T t b,xs= [x,.ty T]∧TyR K H x t∧PySem.W.kitOne K t (.type T)=some b∧Q (.bl b) H
theorem zhU:zc8 X (.builtin "isinstance") (rIsI X.K):=by
 intro pins s σ H xs us Q I r ⟨x,T,t,b,e,ty,ek,q⟩
 subst e
 obtain ⟨u,w',rfl,rx,rt⟩:=zkg r
 cases (show w'=Value.type T from rt)
 cases ty with
 | of ty=>exact zj8 I rx ty ek fun tk=>⟨.bl b,H,I.tok tk,rfl,q⟩
 | tup h=>
  cases (show u=_ from rx)
  obtain ⟨its,rv,⟨o,e,c,_⟩,_⟩:=I.tuple h
  exact PySem.W.kia_one PySem.W.kitx_tuple I.kIn ⟨o,e,c⟩ ek (fun z=>nomatch z) fun tk=>⟨.bl b,H,I.tok tk,rfl,q⟩
 | lst h=>
  cases (show u=_ from rx)
  obtain ⟨its,rv,⟨o,m,e,c,_⟩,_⟩:=I.list h
  exact PySem.W.kia_one PySem.W.kitx_list I.kIn ⟨o,e,c⟩ ek (fun z=>nomatch z) fun tk=>⟨.bl b,H,I.tok tk,rfl,q⟩
noncomputable def CBits (i j:Int):Prop:=Builtin.Int.intBits i≤2 ^ 20∧Builtin.Int.intBits j≤2 ^ 20
theorem zfb:OpR X (binaryOp .Mult) (rI CBits fun i j=>.int (i * j)):=opI fun i j t u s Q E h q=>mul_int q (IntMulOk.of_bits h.1 h.2)
theorem zgx {i:Int}{k:Nat}(hk:k≤2 ^ 20)(h1: -(2 ^ k) < i)(h2:i < 2 ^ k):Builtin.Int.intBits i≤2 ^ 20:=by
 unfold Builtin.Int.intBits
 split
 ·exact Nat.zero_le _
 ·rename_i h0
  have hn:i.natAbs < 2 ^ k:=by
   have e:((2 ^ k:Nat):Int)=2 ^ k:=by norm_cast
   omega
  have:i.natAbs.log2 < k:=by
   refine (Nat.log2_lt ?_).mpr hn
   intro z
   simp at h0
   omega
  omega
end
end L2
namespace L2
open PySem PySem.Spec PyProof.Rows
section
variable {X:Cx} {K:PySem.W.Frag}
theorem zcU (h:X.K=K:=by rfl):IxR X (rIxL K):=by subst h;exact zaH
theorem zgB (h:X.K=K:=by rfl):zc8 X (.type "list") (fun xs H Q=>∃ p ys,xs= [.ref p]∧(SqL K H p ys∨SqT K H p ys)∧∀ l,H l=none→Q (.ref l) (upd H l (.lst ys))):=by subst h;exact zdu
theorem zdK (h:X.K=K:=by rfl):OpR X (compareOp .In) (rIn K false):=by subst h;exact ze3
theorem zmb (hu:X.A.units+64 < cLine)(h:X.K=K:=by rfl):OpR X (compareOp .NotEq) (rEqD K true):=by subst h;exact zki hu
theorem zmf {es:List Expr}{k:Nat}{t:TGs}{n:Nat}{pos:Pos}(hc:X.calm=true)(h:PGs X es t)(hK:X.K=K:=by rfl)
  (hn:(assignEach es X.env).length=n:=by rfl) (hst:(assignEach es X.env).findIdx? (·.1)=none:=by rfl):PG X (.Tuple es k pos) (gTup K n t):=by subst hK;exact zlR hc h hn hst
end
end L2
namespace L2
open PySem PySem.Spec PyProof.Rows
structure Bx (p:Prop):Prop where
 get:p
section
variable {X:Cx} {a b c e l o i f elt tg iter target value:Expr} {es ts rest:List Expr} {st:Stmt} {sts body els:List Stmt} {ta tb tc te td ty tx tv tl to ti:TE} {tA tB':TT} {t tr:TA} {s u tb':TS} {g:TG} {gs:TGs} {wi:TI} {tt:TT}
 {pos apos cpos p pos' spos:Pos} {op op':CmpOp} {bop:Operator} {r r':R2} {lo hi:Option Expr} {tlo thi:TO}
theorem bpv (k:Nat){x:Str}{pos:Pos}(hN:X.N[k]? =some x:=by rfl)(hv:Vis X.env.scope x:=by first | exact Or.inl rfl | exact Or.inr (Or.inl rfl) | exact Or.inr (Or.inr rfl))
  (hd:(x==("__debug__" :Str))=false:=by decide) (hcd:(x==("__classdict__" :Str))=false:=by decide):Bx (PE X (.Name x pos) (tVar k)):=⟨zlD hN hv hd hcd⟩
theorem zae {k:Int}{j pos}:Bx (PE X (.Constant (.int k) j pos) (tC (.int k))):=⟨pe_int⟩
theorem zc1 {k:Bool}{j pos}:Bx (PE X (.Constant (.bool k) j pos) (tC (.bl k))):=⟨pe_bl⟩
theorem zl6 {j pos}:Bx (PE X (.Constant .none j pos) (tC .non)):=⟨pe_non⟩
theorem zav {x:Str}{j pos}:Bx (PE X (.Constant (.str x) j pos) (tC (.str x))):=⟨pe_str⟩
theorem zdn {x:Str}{v:V}{w:Value}{pos:Pos}(hg:Gl X x)(hm:X.mg x=some w)(r:RelV v w)(hd:(x==("__debug__" :Str))=false:=by decide):Bx (PE X (.Name x pos) (tC v)):=⟨zl8 hg hm r hd⟩
theorem zgH {x:Str}{v:V}{w:Value}{pos:Pos}(hg:Gl X x)(hm:X.mg x=none)(hv:bootBuiltins x=some w)(r:RelV v w)(hn:x≠"__name__" :=by decide)(hd:(x==("__debug__" :Str))=false:=by decide):Bx (PE X (.Name x pos) (tC v)):=⟨zlT hg hm hv r hn hd⟩
theorem zam (ho:OpR X (binaryOp bop) r)(ha:Bx (PE X a ta))(hb:Bx (PE X b tb)):Bx (PE X (.BinOp a bop b pos) (tOp r ta tb)):=⟨pe_op ho ha.1 hb.1⟩
theorem zlP {uop:UnaryOp}{r:V→Hp→VK→Prop}(ho:UnR X (unaryOp uop) r)(ha:Bx (PE X a ta)):Bx (PE X (.UnaryOp uop a pos) (tUn r ta)):=⟨pe_un ho ha.1⟩
theorem zcw (ho:OpR X (compareOp op) r)(ha:Bx (PE X a ta))(hb:Bx (PE X b tb))(hm:behindInMarks op b=false):Bx (PE X (.Compare a [op] [b] pos) (tOp r ta tb)):=⟨zl4 ho ha.1 hb.1 hm⟩
theorem zas (ho:OpR X (compareOp op) r)(ha:Bx (PE X a ta))(hb:Bx (PE X b tb))(hm:behindInMarks op b=false):Bx (PT X (.Compare a [op] [b] pos) (tTest (tOp r ta tb))):=⟨zl7 ho ha.1 hb.1 hm⟩
theorem ziE (hu:X.A.units+1 < cLine)(hi:Bx (PE X i ty))(ho:Bx (PE X o td)):Bx (PC X .NotIn i o (zjr ty td)):=⟨zjE hu hi.1 ho.1⟩
theorem zmC (h:Bx (PC X op a b te))(h1:behindInMarks op b=false:=by first | exact zie _ (by decide) (by decide) | rfl):Bx (PT X (.Compare a [op] [b] pos) (tB te)):=⟨pt_cmp h.1 h1⟩
theorem zdV (h:Bx (PE X e te))(he:∀ whole,isTrue e X.env whole=(do let v ← whole;standAt e.pos;holding [v] (truthy v)):=by intro _;rfl):Bx (PT X e (tB te)):=⟨pt_val h.1 he⟩
theorem zdQ (h:Bx (PW X e tt)):Bx (PT X e tt):=⟨h.1.pt⟩
theorem zgl (ha:Bx (PT X a tA)):Bx (PW X (.BoolOp .And [a] pos) tA):=⟨zmt ha.1⟩
theorem zd0 (ha:Bx (PT X a tA)):Bx (PW X (.BoolOp .Or [a] pos) tA):=⟨pw_or1 ha.1⟩
theorem zhs (ha:Bx (PT X a tA))(hb:Bx (PW X (.BoolOp .And (b::rest) pos) tB')):Bx (PW X (.BoolOp .And (a::b::rest) pos) (tAnd tA tB')):=⟨pw_and ha.1 hb.1⟩
theorem zfa (ha:Bx (PT X a tA))(hb:Bx (PW X (.BoolOp .Or (b::rest) pos) tB')):Bx (PW X (.BoolOp .Or (a::b::rest) pos) (tOr tA tB')):=⟨pw_or ha.1 hb.1⟩
theorem zex (ha:Bx (PT X a tA)):Bx (PT X (.UnaryOp .Not a pos) (tNot tA)):=⟨pt_not ha.1⟩
theorem zka (hc:Bx (PT X c tA))(ha:Bx (PE X a ta))(hb:Bx (PE X b tb)):Bx (PE X (.IfExp c a b pos) (tIf tA ta tb)):=⟨zln hc.1 ha.1 hb.1⟩
theorem zac:Bx (PA X [] tNil):=⟨pa_nil⟩
theorem zaa (ha:Bx (PE X e te))(hr:Bx (PA X es t))(hs:starEach (e::es) X.env=(false,eval e X.env)::starEach es X.env:=by rfl):Bx (PA X (e::es) (tCons te t)):=⟨zmP ha.1 hr.1 hs⟩
theorem zaJ {x1}(h:Bx (PA X es t)):Bx (PE X (.Tuple es x1 pos) (tTup t)):=⟨pe_tup h.1⟩
theorem zay (h:Bx (PA X es t)):Bx (PE X (.List es pos) (tLst t)):=⟨pe_lst h.1⟩
theorem zao (hr:IxR X r)(ha:Bx (PE X a ta))(hb:Bx (PE X b tb))(hs:zjO b):Bx (PE X (.Subscript a b pos) (tOp r ta tb)):=⟨pe_ix hr ha.1 hb.1 hs⟩
theorem zeg (hu:X.A.units+1 < cLine)(ho:Bx (PE X o td))(hi:Bx (PE X i ty))(hs:NoSl i):Bx (PE X (.Subscript o i pos) (tDGet td ty)):=⟨zmj hu ho.1 hi.1 hs⟩
theorem zds (hu:X.A.units+1 < cLine)(ho:Bx (PE X o td))(he:Bx (PE X e ty))(hf:Bx (PE X f tx))(m:M2 X o "get" apos e f cpos):Bx (PE X (.Call (.Attribute o "get" apos) [e,f] [] cpos) (zlO td ty tx)):=⟨zk7 hu ho.1 he.1 hf.1 m⟩
theorem zd3:Bx (PE X (.Dict [] [] pos) zlL):=⟨zkY⟩
theorem zk5:Bx (PPs X pos [] [] []):=⟨zmn⟩
theorem zen {ks:List (Option Expr)}{vs:List Expr}{trs:List (TE×TE)}(hk:Bx (PE X a ta))(hv:Bx (PE X b tb))(hr:Bx (PPs X pos ks vs trs)):Bx (PPs X pos (some a::ks) (b::vs) ((ta,tb)::trs)):=⟨zk2 hk.1 hv.1 hr.1⟩
theorem zkZ {keys:List (Option Expr)}{values:List Expr}{trs:List (TE×TE)}(h:Bx (PPs X pos keys values trs))(hall:keys.all (·.isSome)=true)(hl:keys.length=values.length)(h0:keys≠[])(h15:keys.length≤15):Bx (PE X (.Dict keys values pos) (tDisp trs)):=⟨zl1 h.1 hall hl h0 h15⟩
theorem zdI:Bx (PO X none zjV):=⟨zmk⟩
theorem zcZ (h:Bx (PE X e te)):Bx (PO X (some e) (tPart te)):=⟨zlZ h.1⟩
theorem zcP {r:V→Option Int→Option Int→Hp→VK→Prop}{p2:Pos}(hr:SlR X r)(he:Bx (PE X e te))(hl:Bx (PO X lo tlo))(hu:Bx (PO X hi thi)):Bx (PE X (.Subscript e (.Slice lo hi none p2) pos) (tSl r te tlo thi)):=⟨zkH hr he.1 hl.1 hu.1⟩
theorem zaw {r:List V→Hp→VK→Prop}{x:Str}{id:String}(hc:zc8 X (.builtin id) r)(hg:Gl X x)(hm:X.mg x=none)(hv:bootBuiltins x=some (.builtin id))(ha:Bx (PA X (e::es) t))(hn:x≠"__name__" :=by decide)(hdb:(x==("__debug__" :Str))=false:=by decide)
  (he:starEach (e::es) X.env=(false,eval e X.env)::starEach es X.env:=by rfl) (hpl:(backTo pos (starEach es X.env)).any (·.1)=false:=by rfl):Bx (PE X (.Call (.Name x p) (e::es) [] pos) (tCB r t)):=⟨zlz hc hg hm hv ha.1 hn hdb he hpl⟩
theorem zce {r:List V→Hp→VK→Prop}{x:Str}{T:String}(hc:zc8 X (.type T) r)(hg:Gl X x)(hm:X.mg x=none)(hv:bootBuiltins x=some (.type T))(ha:Bx (PA X (e::es) t))(hn:x≠"__name__" :=by decide)(hdb:(x==("__debug__" :Str))=false:=by decide)
  (he:starEach (e::es) X.env=(false,eval e X.env)::starEach es X.env:=by rfl) (hpl:(backTo pos (starEach es X.env)).any (·.1)=false:=by rfl):Bx (PE X (.Call (.Name x p) (e::es) [] pos) (tCB r t)):=⟨zjh hc hg hm hv ha.1 hn hdb he hpl⟩
theorem zan {CX:CXT}{k:Nat}{fa:Addr}{fd:FuncData}{ps:List Str}{sp:Sp}{dvs:List V}{ds:List Value}{E:XK}{x:Str}(F:FnOk X.prog X.w X.K X.mg X.base CX k fa fd ps sp)(hr:Room k X.A)(hg:Gl X x)(hm:X.mg x=some (.ref fa))(hk:PySem.W.keepIn X.K (.ref fa)=true)
  (hb:zff X.K fd ps ds) (hd:Vals dvs ds) (hx:zgO CX X E) (ha:Bx (PA X (e::es) t)) (hdb:(x==("__debug__" :Str))=false:=by decide)
  (he:starEach (e::es) X.env=(false,eval e X.env)::starEach es X.env:=by rfl) (hpl:(backTo pos (starEach es X.env)).any (·.1)=false:=by rfl):Bx (PE X (.Call (.Name x p) (e::es) [] pos) (tCall sp dvs E t)):=⟨zmA F hr hg hm hk hb hd hx ha.1 hdb he hpl⟩
theorem zdq {name:Str}{T id:String}{r:V→List V→Hp→VK→Prop}(pa:PlainAttrs T)(slot:Slot T name id)(hty:typeOf (.builtin id)=pure (.type "method_descriptor"))(hm:MtR X id r)(ho:Bx (PE X o to))(ha:Bx (PA X (e::es) t))
  (h1:attributeBase o name X.env (eval o X.env)=eval o X.env:=by rfl)
  (h2:((backTo cpos (starEach (e::es) X.env)).all (fun x=>!x.1) && (backToKw cpos (keywordEach [] X.env)).all (fun x=>x.1.isSome) && decide ((e::es).length+([]:List Keyword).length+(if ([]:List Keyword).isEmpty then 0 else 1) < 30))=true:=by rfl)
  (h3:(apos.endLine==cpos.line)=true:=by rfl) (h4:starEach (e::es) X.env=(false,eval e X.env)::starEach es X.env:=by rfl) (h5:(backTo cpos (starEach es X.env)).any (·.1)=false:=by rfl):
  Bx (PE X (.Call (.Attribute o name apos) (e::es) [] cpos) (tBM X.K T r to t)):=⟨pe_bm pa slot hty hm ho.1 ha.1 h1 h2 h3 h4 h5⟩
theorem zme {name:Str}{T id:String}{r:V→List V→Hp→VK→Prop}(pa:PlainAttrs T)(slot:Slot T name id)(hty:typeOf (.builtin id)=pure (.type "method_descriptor"))(hm:MtR X id r)(ho:Bx (PE X o to))
  (hbase:attributeBase o name X.env (eval o X.env)=eval o X.env:=by rfl) (hline:(apos.endLine==cpos.line)=true:=by rfl):Bx (PE X (.Call (.Attribute o name apos) [] [] cpos) (tBM0 X.K T r to)):=⟨pe_bm0 pa slot hty hm ho.1 hbase hline⟩
theorem zaA:Bx (PSs X [] tNext):=⟨zmR⟩
theorem zad (h1:Bx (PS X st s))(h2:Bx (PSs X sts u)):Bx (PSs X (st::sts) (tSeq s u)):=⟨zkJ h1.1 h2.1⟩
theorem zah (h1:Bx (PS X st s)):Bx (PSs X [st] s):=⟨zl2 h1.1⟩
theorem zgN:Bx (PS X st zlH):=⟨zlr⟩
theorem zbl (he:Bx (PE X e te))(hs:swapsWith e none pos.line X.env=pure false:=by rfl):Bx (PS X (.Expr e pos) (tDrop te)):=⟨zmS he.1 hs⟩
theorem zar (he:Bx (PE X e te)):Bx (PS X (.Return (some e) pos) (tRet te)):=⟨ps_ret he.1⟩
theorem zaW (hc:Bx (PT X c tA))(ha:Bx (PSs X body s))(hb:Bx (PSs X els u)):Bx (PS X (.If c body els pos) (tIfS tA s u)):=⟨ps_if hc.1 ha.1 hb.1⟩
theorem zaj {k:Nat}{x:Str}(hN:X.N.Nodup)(hi:X.N[k]? =some x)(hx:Loc X.env.scope x)(hf:X.fn x=true∨X.env.scope.names.lookup x=some .local:=by first | exact .inl rfl | exact .inr rfl | assumption):Bx (PG X (.Name x pos) (zd7 k)):=⟨zmX hN hi hx hf⟩
theorem zbW:Bx (PGs X [] gNil):=⟨zlX⟩
theorem zaz (h1:Bx (PG X e g))(h2:Bx (PGs X es gs))(hs:(assignEach (e::es) X.env).map (·.2)=assign e X.env::(assignEach es X.env).map (·.2):=by rfl):Bx (PGs X (e::es) (zhL g gs)):=⟨zly h1.1 h2.1 hs⟩
theorem zdi {k n:Nat}(hc:X.calm=true)(h:Bx (PGs X es gs))(hn:(assignEach es X.env).length=n:=by rfl)(hst:(assignEach es X.env).findIdx? (·.1)=none:=by rfl):Bx (PG X (.Tuple es k pos) (gTup X.K n gs)):=⟨zlR hc h.1 hn hst⟩
theorem zeT {K:PySem.W.Frag}{k n:Nat}(hc:X.calm=true)(h:Bx (PGs X es gs))(hK:X.K=K:=by rfl)(hn:(assignEach es X.env).length=n:=by rfl)(hst:(assignEach es X.env).findIdx? (·.1)=none:=by rfl):Bx (PG X (.Tuple es k pos) (gTup K n gs)):=⟨zmf hc h.1 hK hn hst⟩
theorem zmv {tset:TSet}(ho:Bx (PE X o to))(hi:Bx (PE X i ti))(hs:PSet X tset)
  (ha:∀ v,assign (.Subscript o i pos) X.env v=(do
   let ov ← holding [v] (eval o X.env)
   let iv ← holding [v,ov] (eval i X.env)
   standAt pos
   holding [v,ov,iv] (setItem ov iv v)
   release [v,ov,iv] []):=by intro _;rfl):Bx (PG X (.Subscript o i pos) (gSub to ti tset)):=⟨pg_sub ho.1 hi.1 hs ha⟩
theorem zjC (he:Bx (PE X e te))(hg:Bx (PG X tg g))(hs:swapsWithSole [tg] e pos.line X.env=pure false:=by rfl)(hw:swappedStores [tg] e X.env=pure none:=by rfl)
  (h1:(assignEach [tg] X.env).map (·.2)= [assign tg X.env]:=by rfl):Bx (PS X (.Assign [tg] e pos) (tAsg te g)):=⟨ps_asg he.1 hg.1 hs hw h1⟩
theorem zak {k:Nat}{x:Str}(hN:X.N.Nodup)(hi:X.N[k]? =some x)(hx:Loc X.env.scope x)(he:Bx (PE X e te))(hs:swapsWith e (some (.Name x pos')) pos.line X.env=pure false:=by rfl)(hf:X.fn x=true∨X.env.scope.names.lookup x=some .local:=by first | exact .inl rfl | exact .inr rfl | assumption):
  Bx (PS X (.Assign [.Name x pos'] e pos) (tAsg te (zd7 k))):=⟨ps_set hN hi hx he.1 hs hf⟩
theorem zgt (hu:X.A.units+1 < cLine)(ho:Bx (PE X o td))(hi:Bx (PE X i ty))(hv:Bx (PE X value tv))(hs:swapsWith value (some (.Subscript o i pos')) pos.line X.env=pure false:=by rfl):Bx (PS X (.Assign [.Subscript o i pos'] value pos) (sDPut td ty tv)):=⟨zmh hu ho.1 hi.1 hv.1 hs⟩
theorem zaK (hp:PassesOwn (model X.prog X.w) X.A X.env X.xe)(hc:X.calm=true)(hi:Bx (PI X tg iter wi))(hg:Bx (PG X tg g))(hb:Bx (PSs X body tb'))(hs:∀ x,foldedSetIterable iter X.env x=pure x:=by intro _;rfl):Bx (PS X (.For tg iter body [] pos) (tFor wi g tb')):=⟨ps_for hp hc hi.1 hg.1 hb.1 hs⟩
theorem zaI (hl:Bx (PE X l tl)):Bx (PI X tg l (iList X.K tl)):=⟨zma hl.1⟩
theorem zjZ (hl:Bx (PE X l tl)):Bx (PI X tg l (iTup X.K tl)):=⟨pi_tup hl.1⟩
theorem zaO (hg:Gl X "range")(hm:X.mg "range" =none)(ha:Bx (PA X [a] t))(hs:starEach [a] X.env= [(false,eval a X.env)]:=by rfl):Bx (PI X tg (.Call (.Name "range" p) [a] [] pos) (iRng1 t)):=⟨zkc hg hm ha.1 hs⟩
theorem zea {elts:List Expr}{k:Nat}{tp:Pos}(hg:Gl X "enumerate")(hm:X.mg "enumerate" =none)(ha:Bx (PA X [a] t))(hs:starEach [a] X.env= [(false,eval a X.env)]:=by rfl):Bx (PI X (.Tuple elts k tp) (.Call (.Name "enumerate" p) [a] [] pos) (iEnum X.K t)):=⟨zmL hg hm ha.1 hs⟩
theorem za3:Bx (PTs X [] tYes):=⟨zlY⟩
theorem zem (h:Bx (PT X c tA)):Bx (PTs X [c] tA):=⟨zmG h.1⟩
theorem zaQ {ifs:List Expr}{scope:Scope}{N:List Str}{n:Nat}{cap:List Nat}(hc:X.calm=true)(B:Blk X scope N n cap)(hi:Bx (PI X tg iter wi))(hk:zhu n g)
  (hg:∀ cl fp s H,Bx (PG (zbE X N scope cl fp s H) tg g)) (ht:∀ cl fp s H,Bx (PTs (zbE X N scope cl fp s H) ifs tt)) (he:∀ cl fp s H,Bx (PE (zbE X N scope cl fp s H) elt te))
  (hs:∀ x,foldedSetIterable iter X.env x=pure x:=by intro _;rfl):Bx (PE X (.ListComp elt [⟨tg,iter,ifs,0⟩] scope pos) (zkW n cap wi g tt te)):=
 ⟨zmN hc B hi.1 hk (fun cl fp s H=>(hg cl fp s H).1) (fun cl fp s H=>(ht cl fp s H).1) (fun cl fp s H=>(he cl fp s H).1) hs⟩
theorem zgj {ifs:List Expr}{scope:Scope}{N:List Str}{n:Nat}{cap:List Nat}{k:Nat}{x:Str}(hc:X.calm=true)(B:Blk X scope N n cap)(hN:X.N.Nodup)(hi:X.N[k]? =some x)(hx:X.env.scope.names.lookup x=some .local)(hit:Bx (PI X tg iter wi))(hk:zhu n g)
  (hg:∀ cl fp s H,Bx (PG (zbE X N scope cl fp s H) tg g)) (ht:∀ cl fp s H,Bx (PTs (zbE X N scope cl fp s H) ifs tt)) (he:∀ cl fp s H,Bx (PE (zbE X N scope cl fp s H) elt te))
  (hsw:swapsWith (.ListComp elt [⟨tg,iter,ifs,0⟩] scope pos) (some (.Name x pos')) spos.line X.env=pure true) (hs:∀ x,foldedSetIterable iter X.env x=pure x:=by intro _;rfl):
  Bx (PS X (.Assign [.Name x pos'] (.ListComp elt [⟨tg,iter,ifs,0⟩] scope pos) spos) (tAsg (zkW n cap wi g tt te) (zd7 k))):=
 ⟨zlV hc B hN hi hx hit.1 hk (fun cl fp s H=>(hg cl fp s H).1) (fun cl fp s H=>(ht cl fp s H).1) (fun cl fp s H=>(he cl fp s H).1) hsw hs⟩
end
section
variable {P:Program} {w:World} {K:PySem.W.Frag} {mg:Str→Option Value} {base:Heap}
theorem Fun.okB {x qual:Str}{st:Stmt}{f:Addr}{fd:FuncData}{N ps:List Str}{k:Nat}{sp:Sp}(F:Fun K x qual st f fd)(S:zax N ps (zag st))(len:∀ vs H Q E,sp vs H Q E→vs.length=ps.length)
  (hbody:∀ (cdv:Value) (A:Around) (outer:List Env) (s:Shared) (H:Hp) (vs:List V) (Q:VK) (E:XK),Room k (A.deeper (envOfC qual (zag st) s.heap.objs.size f cdv))→sp vs H Q E→
   ∃ t,Bx (PSs (cxOf CX0 P w K mg base N qual (zag st) f cdv A outer s H E).nox (zap st) t)∧t {nx:=fun _ H'=>Q .non H',rt:=Q} (start N vs) H):FnOk P w K mg base CX0 (k+1) f fd ps sp:=
 F.ok S len fun cdv A outer s H vs Q E hr h=>let ⟨t,a,b⟩:=hbody cdv A outer s H vs Q E hr h;⟨t,a.1,b⟩
end
end L2
namespace L2
open PySem PySem.Spec PyProof.Rows
section
variable {X:Cx}
theorem zis {its:List Value}{ns:List Int}(h:IntsAre its ns):∃ xs:Array (Int×Tok),its.toArray=intItems xs∧xs.toList.map (·.1)=ns:=by
 obtain ⟨xs,e⟩:=h.allInts.items
 refine ⟨xs,e,?_⟩
 rw [← nums_intItems,← e]
 exact h.numsOf
theorem zjn (hc:X.calm=true):zc8 X (.builtin "sum") (fun xs H Q=>∃ (p:Addr) (ns:List Int),xs= [.ref p]∧SqL X.K H p (ns.map V.int)∧Q (.int ns.sum) H):=by
 intro pins s σ H xs us Q I r ⟨p,ns,e,hq,q⟩
 subst e
 obtain ⟨u,rfl,rx⟩:=zgm r
 cases rx
 obtain ⟨its,rv,pl,hz⟩:=I.list hq
 obtain ⟨zs,e,en⟩:=zis (L2.ziz rv)
 refine sum_intListG (I.ok.hd hc) (by rw [← e];exact pl.isList) fun h' tk t' hk=>?_
 rw [preSum_eq,List.take_of_length_le (by simp),en]
 exact ⟨.int ns.sum,H,I.kept (t':=tk) hk,⟨t',rfl⟩,q⟩
theorem zh3 {bs:List Bool}:∀ {us:List Value} {j:Nat} {v:Value},Vals (bs.map V.bl) us→us[j]? =some v→∃ b,bs[j]? =some b∧v= .bool b:=by
 intro us j v r h
 have hl:=r.length
 have hj:j < us.length:=(List.getElem?_eq_some_iff.mp h).1
 have hb:j < bs.length:=by rw [List.length_map] at hl;omega
 obtain ⟨u,hu,ru⟩:=r.get (i:=j) (x:=.bl bs[j]) (by simp [hb])
 rw [h] at hu
 cases hu
 exact ⟨bs[j],by simp [hb],ru⟩
theorem zja (bs:List Bool):(List.range bs.length).all (fun j=>(bs[j]?).getD true)=bs.all id:=by
 rw [Bool.eq_iff_iff,List.all_eq_true,List.all_eq_true]
 constructor
 ·intro h b hb
  obtain ⟨j,hj,e⟩:=List.mem_iff_getElem.mp hb
  have:=h j (List.mem_range.mpr hj)
  rw [List.getElem?_eq_getElem hj] at this
  simpa [e] using this
 ·intro h j hj
  have hj:=List.mem_range.mp hj
  rw [List.getElem?_eq_getElem hj]
  exact h _ (List.getElem_mem hj)
theorem zgQ (hc:X.calm=true):zc8 X (.builtin "all") (fun xs H Q=>∃ (p:Addr) (bs:List Bool),xs= [.ref p]∧SqL X.K H p (bs.map V.bl)∧Q (.bl (bs.all id)) H):=by
 intro pins s σ H xs us Q I r ⟨p,bs,e,hq,q⟩
 subst e
 obtain ⟨u,rfl,rx⟩:=zgm r
 cases rx
 obtain ⟨its,rv,pl,hz⟩:=I.list hq
 have hl:its.toArray.size=bs.length:=by
  have:=rv.length
  simpa using this.symm
 have hlt:p < s.heap.objs.size:=by
  obtain ⟨o,ho,_⟩:=pl.isList
  exact Heap.lt_size ho
 refine call_all_walk (wpAny_pyIter_list pl.isList ?_)
 refine ⟨_,_,_,_,_,_,fun j=>(bs[j]?).getD true,rfl,Walks.list (A:=X.A.in1) (I.ok.hd hc) _ p (Nat.ne_of_lt hlt) its.toArray,⟨⟨_,Heap.get?_push_size _ rfl,rfl,rfl⟩,pl.isList.at fun o e=>Heap.get?_push_of_some _ e⟩,?_,fun h' tk hk=>?_⟩
 ·intro j v s' Q' E' hv hQ
  obtain ⟨b,hb,rfl⟩:=zh3 rv (show its[j]? =some v by simpa using hv)
  dsimp only at hQ
  rw [hb] at hQ
  exact wpAny_truthy_bool hQ
 ·rw [hl,zja]
  refine ⟨.bl _,H,I.kept (t':=tk) fun b o e=>hk b o ?_ (Heap.get?_push_of_some _ e),rfl,q⟩
  intro z
  have:b=s.heap.objs.size:=by simpa using z
  exact Nat.ne_of_lt (Heap.lt_size e) this
end
end L2
namespace L2
open PySem PySem.Spec PyProof.Rows
open PySem.W (Dat kqdP kqdPs kqdOk)
theorem zaf {H:Hp}{p:Addr}(h:H p=none)(o:HO):Same H (upd H p o):=fun b u q=>by rw [zai (zal q h)];exact q
theorem Same.upd {H H':Hp}(s:Same H H'){p:Addr}(h:H' p=none)(o:HO):Same H (upd H' p o):=s.trans (zaf h o)
theorem Same.write {H H':Hp}(s:Same H H'){p:Addr}(h:H p=none)(o:HO):Same H (L2.upd H' p o):=fun b u q=>by rw [zai (zal q h)];exact s b u q
structure Bld (K:PySem.W.Frag) (H0:Hp) (p:Addr) (xs:List V) (ds:List Dat) (H:Hp):Prop where
 ex:∃ G,Same H0 G∧Same G H∧G p=none∧Reps K G xs ds
 at_:H p=some (.lst xs)
section
variable {K:PySem.W.Frag} {H0 H:Hp} {p T:Addr} {xs vs:List V} {ds es:List Dat}
theorem Bld.start (h:H0 p=none):Bld K H0 p [] [] (upd H0 p (.lst [])):=⟨⟨H0,Same.refl _,zaf h _,h,.nil⟩,zab⟩
theorem Bld.same (b:Bld K H0 p xs ds H):Same H0 H:=by
 obtain ⟨G,a,c,_⟩:=b.ex
 exact a.trans c
theorem Bld.reps (b:Bld K H0 p xs ds H):Reps K H xs ds:=by
 obtain ⟨G,_,a,_,r⟩:=b.ex
 exact r.mono a
theorem Bld.len (b:Bld K H0 p xs ds H):xs.length=ds.length:=b.reps.length
theorem Bld.sq (b:Bld K H0 p xs ds H):SqL K H p xs:=.of b.at_
theorem Bld.new (b:Bld K H0 p xs ds H)(h:H T=none)(o:HO):Bld K H0 p xs ds (upd H T o):=by
 obtain ⟨G,a,c,n,r⟩:=b.ex
 exact ⟨⟨G,a,c.upd h o,n,r⟩,by rw [zai (zal b.at_ h)];exact b.at_⟩
theorem Bld.pushT (b:Bld K H0 p xs ds H)(h:H T=none)(r:Reps K H0 vs es):Bld K H0 p (xs++ [.ref T]) (ds++ [.tuple es]) (upd (upd H T (.tup vs)) p (.lst (xs++ [.ref T]))):=by
 obtain ⟨G,a,c,n,rs⟩:=b.ex
 have hT:G T=none:=c.free h
 have pT:p≠T:=zal b.at_ h
 have s1:Same G (upd G T (.tup vs)):=zaf hT _
 refine ⟨⟨upd G T (.tup vs),a.trans s1,fun x u q=>?_,by rw [zai pT];exact n,(rs.mono s1).snoc (.tup (.of zab) ((r.mono a).mono s1))⟩,zab⟩
 by_cases e:x=T
 ·subst e
  rw [zab] at q
  rw [zai (Ne.symm pT),zab]
  exact q
 ·rw [zai e] at q
  rw [zai (zal q n),zai e]
  exact c x u q
end
theorem big {n:Nat}(h:n≤100000):n < sizeLine:=Nat.lt_of_le_of_lt h (by decide)
theorem bigE {n:Nat}(h:n≤100000):n≤sizeLine:=Nat.le_of_lt (big h)
end L2
namespace L2
open PySem PySem.Spec PyProof.Rows
open PySem.W (Dat kqdP kqdPs kqdOk)
noncomputable def rInD (K:PySem.W.Frag) (neg:Bool):R2:=fun x y H Q=>∃ d ds,Rep K H x d∧Rep K H y (.list ds)∧kqdOk 8 d=true∧(∀ e∈ds,kqdOk 8 e=true)∧(d∈ds→Q (.bl (!neg)) H)∧(d∉ds→Q (.bl neg) H)
section
variable {X:Cx}
open Classical in
theorem zmB {pins:List (Addr×Obj)}{σ :St}{H:Hp}{s:Shared}{x y:V}{v u:Value}{d:Dat}{ds:List Dat}(I:Inv X pins σ H s)(hu:X.A.units+64 < cLine)(rx:RelV x v)(ry:RelV y u)
  (hx:Rep X.K H x d) (hy:Rep X.K H y (.list ds)) (kd:kqdOk 8 d=true) (ks:∀ e∈ds,kqdOk 8 e=true):
  ∃ (p:Addr) (its:List Value) (e:Value→Bool),u= .ref p∧s.heap.IsList p its.toArray∧(∀ z,z∈its.toArray→SeqAt.EqAt X.A.in1 s z v (e z))∧(its.toArray.any e=true↔d∈ds):=by
 cases hy with
 | lst hq rq=>
  cases (show _=_ from ry)
  obtain ⟨its,r,pl,hz⟩:=I.list hq
  obtain ⟨as,ra⟩:=Rep.reads I 8 hx rx kd
  have room:∀ di,kqdOk 8 di=true→X.A.in1.units+min (kqdP di).depth (kqdP d).depth < cLine:=fun di k=>by
   have l:=(PySem.W.kqd_lay 8 di k).2
   rw [Around.in1_units]
   omega
  have back:∀ {xs:List V} {us:List Value} {i:Nat} {u:Value},Vals xs us→us[i]? =some u→∃ x,xs[i]? =some x∧RelV x u:=fun {xs us i u} r e=>by
   have hi:i < xs.length:=by rw [r.length];exact (List.getElem?_eq_some_iff.mp e).1
   obtain ⟨u',h1,h2⟩:=r.get (List.getElem?_eq_getElem hi)
   rw [e] at h1
   cases h1
   exact ⟨_,List.getElem?_eq_getElem hi,h2⟩
  have each:∀ z∈its,∃ di,di∈ds∧∃ bs,Reads s.heap z (kqdP di) bs:=by
   intro z hz
   obtain ⟨i,hi⟩:=List.getElem?_of_mem hz
   obtain ⟨w,hw,rw'⟩:=back r hi
   obtain ⟨di,hdi,rdi⟩:=rq.get hw
   exact ⟨di,List.mem_of_getElem? hdi,Rep.reads I 8 rdi rw' (ks di (List.mem_of_getElem? hdi))⟩
  have same:∀ di,di∈ds→kqdP di=kqdP d→di=d:=fun di hd e=>by
   have z:=(PySem.W.kqd_eqv 8 d d 8 kd kd).mpr rfl
   exact (PySem.W.kqd_eqv 8 di d 8 (ks di hd) kd).mp (by rw [e];exact z)
  refine ⟨_,its,fun z=>decide (∃ bs,Reads s.heap z (kqdP d) bs),rfl,pl.isList,fun z hz=>?_,?_⟩
  ·obtain ⟨di,hd,bs,rb⟩:=each z (by simpa using hz)
   have q:=SeqAt.eqAt_reads _ _ X.A.in1 s z v bs as rb ra (SeqAt.canLay_of_shaped (zcz (ks di hd))) (SeqAt.canLay_of_shaped (zcz kd)) (room di (ks di hd))
   have e:PyData.eqv (kqdP di) (kqdP d)=decide (∃ bs,Reads s.heap z (kqdP d) bs):=by
    by_cases h:di=d
    ·subst h
     rw [(PySem.W.kqd_eqv 8 di di 8 kd kd).mpr rfl]
     exact (decide_eq_true ⟨bs,rb⟩).symm
    ·have e1:PyData.eqv (kqdP di) (kqdP d)=false:=by
      cases c:PyData.eqv (kqdP di) (kqdP d) with
      | true=>exact absurd ((PySem.W.kqd_eqv 8 di d 8 (ks di hd) kd).mp c) h
      | false=>rfl
     rw [e1]
     refine (decide_eq_false ?_).symm
     rintro ⟨cs,rc⟩
     exact h (same di hd (SeqAt.Reads.unique _ _ z bs cs (SeqAt.canLay_of_shaped (zcz (ks di hd))) rb rc))
   show SeqAt.EqAt X.A.in1 s z v (decide (∃ bs,Reads s.heap z (kqdP d) bs))
   rw [← e]
   exact q
  ·rw [Array.any_eq_true']
   constructor
   ·rintro ⟨z,hz,c⟩
    obtain ⟨cs,rc⟩:=of_decide_eq_true c
    obtain ⟨di,hd,bs,rb⟩:=each z (by simpa using hz)
    have:=same di hd (SeqAt.Reads.unique _ _ z bs cs (SeqAt.canLay_of_shaped (zcz (ks di hd))) rb rc)
    exact this ▸ hd
   ·intro hd
    obtain ⟨i,hi⟩:=List.getElem?_of_mem hd
    obtain ⟨w,hw,rw'⟩:=rq.getD hi
    obtain ⟨z,hz,rz⟩:=r.get hw
    exact ⟨z,by simpa using List.mem_of_getElem? hz,decide_eq_true (Rep.reads I 8 rw' rz kd)⟩
theorem op_inD (hu:X.A.units+64 < cLine):OpR X (compareOp .In) (rInD X.K false):=by
 intro pins s σ H x y v u Q I rx ry ⟨d,ds,hx,hy,kd,ks,q1,q2⟩
 obtain ⟨p,its,e,rfl,hl,he,hm⟩:=zmB I hu rx ry hx hy kd ks
 refine SeqAt.in_listAt e hl he ?_
 by_cases h:d∈ds
 ·rw [hm.mpr h]
  exact ⟨.bl true,H,I,rfl,q1 h⟩
 ·have z:its.toArray.any e=false:=by
   cases c:its.toArray.any e with
   | true=>exact absurd (hm.mp c) h
   | false=>rfl
  rw [z]
  exact ⟨.bl false,H,I,rfl,q2 h⟩
end
section
variable {X:Cx} {K:PySem.W.Frag}
theorem zml (hu:X.A.units+64 < cLine)(h:X.K=K:=by rfl):OpR X (compareOp .In) (rInD K false):=by subst h;exact op_inD hu
end
section
variable {g:TG} {tt:TT} {te:TE} {n0:Nat} {cap:List Nat} {σ :St} {Q:VK} {D:Addr} {H1:Hp} {K:PySem.W.Frag}
theorem ze7 {a:Addr}{xs:List V}(Pv:Nat→Hp→Prop)(h0:Pv 0 (upd H1 D (.lst [])))(hl:∀ i H,i≤xs.length→Pv i H→SqL K H a xs)
  (hs:∀ i x H T,xs[i]? =some x→Pv i H→H T=none→g (.ref T) (zb1 n0 cap σ) (upd H T (.tup [.int i,x])) fun σ2 H2=>tt σ2 H2 fun b H3=>if b=true then te σ2 H3 fun y H4=>∃ xs,H4 D=some (.lst xs)∧xs.length < sizeLine∧Pv (i+1) (upd H4 D (.lst (xs++ [y]))) else Pv (i+1) H3)
  (hd:∀ H,Pv xs.length H→Q (.ref D) H):
  zdo (Ite K a) D n0 cap σ g tt te Q H1:=by
 refine ⟨fun i m H=>m=xs.length - i∧i≤xs.length∧Pv i H,⟨xs.length,by simp,Nat.zero_le _,h0⟩,?_⟩
 rintro i m H ⟨rfl,hi,p⟩
 have q:=hl i H hi p
 by_cases hlt:i < xs.length
 ·refine .inr ⟨⟨xs,xs[i],q,by simp [hlt]⟩,Pv (i+1),fun H' p'=>⟨xs.length - (i+1),by omega,rfl,hlt,p'⟩,fun x H' y=>?_⟩
  obtain ⟨T,z,hT,e1,e2,y⟩:=y
  subst e1 e2
  exact hs i z H T (y xs q) p hT
 ·have e:i=xs.length:=by omega
  subst e
  exact .inl ⟨⟨xs,q,Nat.le_refl _⟩,hd H p⟩
end
end L2
namespace L2
open PySem PySem.Spec PyProof.Rows
open PySem.W (Dat kqdP kqdPs kqdOk)
structure Off (M:List Addr) (G H:Hp):Prop where
 same:Same G H
 out:∀ m∈M,G m=none
 there:∀ m∈M,∃ o,H m=some o
section
variable {M:List Addr} {G G1 G2 H H':Hp} {T m:Addr} {o u:HO}
theorem Off.ne (f:Off M G H)(h:H T=none):T∉M:=fun z=>by
 obtain ⟨o,e⟩:=f.there T z
 rw [h] at e
 cases e
theorem Off.new (f:Off M G H)(h:H T=none)(o:HO):Off M G (upd H T o):=⟨f.same.upd h o,f.out,fun m hm=>by
 obtain ⟨u,e⟩:=f.there m hm
 exact ⟨u,zaf h o _ _ e⟩⟩
theorem Off.grow (f:Off M G H)(s:Same H H'):Off M G H':=⟨f.same.trans s,f.out,fun m hm=>by
 obtain ⟨u,e⟩:=f.there m hm
 exact ⟨u,s _ _ e⟩⟩
theorem Off.write (f:Off M G H)(hm:m∈M)(o:HO):Off M G (upd H m o):=⟨f.same.write (f.out m hm) o,f.out,fun k hk=>by
 by_cases e:k=m
 ·subst e
  exact ⟨o,zab⟩
 ·obtain ⟨u,e'⟩:=f.there k hk
  exact ⟨u,by rw [zai e];exact e'⟩⟩
theorem Off.close (f:Off (m::M) G H)(e:H m=some o)(hn:m∉M):Off M (upd G m o) H:=⟨fun b v q=>by
  by_cases eb:b=m
  ·subst eb
   rw [zab] at q
   rw [e]
   exact q
  ·rw [zai eb] at q
   exact f.same b v q,
 fun k hk=>by
  have:k≠m:=fun z=>hn (z ▸ hk)
  rw [zai this]
  exact f.out k (.tail _ hk),fun k hk=>f.there k (.tail _ hk)⟩
theorem Off.cadd (f:Off (m::M) G H)(o:HO):Same G (upd G m o):=zaf (f.out m (.head _)) o
theorem Off.take {a:Addr}(f:Off M G H)(e:H a=some o)(hn:a∉M):Off M (upd G a o) H∧Same G (upd G a o):=by
 refine ⟨⟨fun b v q=>?_,fun k hk=>?_,f.there⟩,fun b v q=>?_⟩
 ·by_cases eb:b=a
  ·subst eb
   rw [zab] at q
   rw [e]
   exact q
  ·rw [zai eb] at q
   exact f.same b v q
 ·have:k≠a:=fun z=>hn (z ▸ hk)
  rw [zai this]
  exact f.out k hk
 ·by_cases eb:b=a
  ·subst eb
   have:=f.same _ _ q
   rw [e] at this
   rw [zab]
   exact this
  ·rw [zai eb]
   exact q
theorem Off.start {p:Addr}(h:H p=none)(o:HO):Off [p] H (upd H p o):=⟨zaf h o,fun m hm=>by rw [List.mem_singleton.mp hm];exact h,fun m hm=>by rw [List.mem_singleton.mp hm];exact ⟨o,zab⟩⟩
end
end L2
namespace L2
open PySem PySem.Spec PyProof.Rows
noncomputable def zeK (kvs more:List (List Key×V)):List (List Key×V):=more.foldl (fun acc kv=>putK acc kv.1 kv.2) kvs
noncomputable def storeAll (acc xs:List (List Key×Addr×Value)):List (List Key×Addr×Value):=xs.foldl (fun acc x=>storedH acc x.1 x.2.1 x.2.2) acc
noncomputable abbrev zeF (H:Hp):List V→List (List Key×V)→Prop:=Paired fun x kv=>∃ p kt,x=V.ref p∧H p=some (.tup [.ref kt,kv.2])∧RdT H kt (kv.1.map kV)
theorem zkf:typeLookup (.type "list") "keys" =pure none:=am_miss_of_fast (by kernel_rfl)
theorem zdT:entryFor table "dict.update.loop" =some Builtin.«dict.update.loop» :=entryFor_of_fast (by kernel_rfl)
theorem zcy:plainId "dict.update.loop" =true:=by decide+kernel
theorem zgn (xs:List (List Key×Addr×Value)){i:Nat}{x:List Key×Addr×Value}(h:xs[i]? =some x):storeAll [] (xs.take (i+1))=storedH (storeAll [] (xs.take i)) x.1 x.2.1 x.2.2:=by
 unfold storeAll
 rw [List.take_add_one,h,List.foldl_append]
 rfl
theorem ziN (xs:List (List Key×Addr×Value))(k:List Key)(b:Addr)(v:Value):(storedH xs k b v).length≤xs.length+1:=by
 unfold storedH
 split
 ·rw [List.length_map];omega
 ·rw [List.length_append,List.length_singleton];omega
theorem zfk:∀ (xs acc:List (List Key×Addr×Value)),(storeAll acc xs).length≤acc.length+xs.length
 | [],acc=>by show acc.length≤acc.length+0;omega
 | x::r,acc=>by
  have h1:=zfk r (storedH acc x.1 x.2.1 x.2.2)
  have h2:=ziN acc x.1 x.2.1 x.2.2
  show (storeAll (storedH acc x.1 x.2.1 x.2.2) r).length≤_
  rw [List.length_cons];omega
section
variable {prog:Program} {w:World} {A:Around} {E:Value→Shared→Prop} {s:Shared}
theorem zee {a:Addr}{o:Obj}{xs:Array Value}{k:Nat}{Q:Option Value→Shared→Prop}
  (hx:s.heap.get? a=some o) (hc:o.cls= .type "list") (hdat:o.data= .seq xs k) (hd:o.dict=none) (hA:A.handled=none)
  (h:∀ h' tk,(∀ b ob,s.heap.get? b=some ob→h'.get? b=some ob)→Q none {s with heap:=h',toks:=tk}):
  wpAny (model prog w) A (getAttr? (.ref a) "keys") Q E s:=by
 obtain ⟨c,dct,dat,sl⟩:=o
 simp only at hc hdat hd
 subst hc hdat hd
 obtain ⟨hp,g,d,tk,os⟩:=s
 have hT:∀ tk',(⟨hp,g,d,tk',os⟩:Shared).TypeIs (.ref a) "list" :=fun _=>⟨_,hx,rfl⟩
 have f1:=sub_AttributeError
 have f3:=F.slot_list_getattribute.lookup
 have f4:=F.slot_list_getattribute.bind (.ref a)
 have f5:=am_list_getattr_none
 unfold getAttr? getAttrBy? getAttrBy
 repeat (any_goals (first | assumption | exact hT _ | ((with_reducible show wpAny _ _ (call (Value.builtin "list.__getattribute__") _ _) _ _ _);refine call_meets F.slot_list_getattribute (hT _) am_entry_list_getattribute (F.args_list_getattribute_2 _ _) (meets_getattribute_miss_list a xs k sl "keys" _ zkf (by decide+kernel) (by decide+kernel)) ⟨hx,hA,fun h' tk' e hx'=>?_⟩) | wp_step))
 obtain ⟨t',u',he⟩:=hx'.there
 show wpAny _ _ (getattributeRaised _ _ _ _ _ _ _) _ _ _
 unfold getattributeRaised
 repeat (any_goals (first | assumption | wp_step))
 exact h _ _ hx'.keeps
end
section
variable {prog:Program} {w:World} {A:Around} {R:Result→Shared→Prop}
theorem zhP {h h':Heap}{k:List Key}{a:Addr}(hk:(tupleKind (zaG prog w)).is h k a)(keep:∀ o,h.get? a=some o→h'.get? a=some o):(tupleKind (zaG prog w)).is h' k a:=by
 obtain ⟨o,it,n,e,r⟩:=hk
 exact ⟨o,it,n,keep _ e,r⟩
theorem zh0 {h:Heap}{I L:Addr}{i:Nat}(hit:h.IsListIter I L i):∃ oi,h.get? I=some oi∧oi.cls= .type "list_iterator" :=by
 obtain ⟨o,e,c,_⟩:=hit
 exact ⟨o,e,c⟩
theorem zfW {h h':Heap}{I d:Addr}{acc:List (List Key×Addr×Value)}(hm:h.DictOfH (tupleKind (zaG prog w)) d acc)(hI:∃ oi,h.get? I=some oi∧oi.cls= .type "list_iterator")
  (hk:∀ b o,b≠I→h.get? b=some o→h'.get? b=some o):h'.DictOfH (tupleKind (zaG prog w)) d acc:=by
 obtain ⟨o,es,ep,h1,h2,h3,h4,his,h5⟩:=hm
 obtain ⟨oi,e1,e2⟩:=hI
 refine ⟨o,es,ep,hk _ _ ?_ h1,h2,h3,h4,fun x hx=>?_,h5⟩
 ·intro z
  subst z
  rw [h1] at e1
  cases e1
  rw [h2.1] at e2
  exact absurd (Value.type.inj e2) (by decide)
 ·have q:=his x hx
  refine zhP q fun ob ho=>hk _ _ ?_ ho
  intro z
  obtain ⟨o',it,n,e,c,_⟩:=q
  rw [z,e1] at e
  cases e
  rw [e2] at c
  exact absurd (Value.type.inj c) (by decide)
theorem zeN {d I L:Addr}{items:Array Value}{h0:Heap}{xs:List (List Key×Addr×Value)}
  (hA:A.in1.handled=none) (hu:(tupleKind (zaG prog w)).room A.in1) (hLI:L≠I) (hdI:d≠I) (hdL:d≠L)
  (hd0:h0.get? d=none) (hI0:h0.get? I=none)
  (good:∀ (i:Nat) (x:List Key×Addr×Value),xs[i]? =some x→∃ (p:Addr) (o:Obj) (n:Nat),items[i]? =some (Value.ref p)∧h0.get? p=some o∧o.cls= .type "tuple"∧o.data= .seq #[.ref x.2.1,x.2.2] n∧(tupleKind (zaG prog w)).is h0 x.1 x.2.1)
  (hn:items.size=xs.length) (hz:xs.length < sizeLine):
  ∀ (k i:Nat) (s:Shared) (t:Tok),xs.length - i=k→i≤xs.length→s.heap.IsListIter I L i→s.heap.IsList L items→s.heap.DictOfH (tupleKind (zaG prog w)) d (storeAll [] (xs.take i))→
   (∀ b o,h0.get? b=some o→s.heap.get? b=some o)→
   (∀ h' tk,h'.DictOfH (tupleKind (zaG prog w)) d (storeAll [] xs)→(∀ b o,h0.get? b=some o→h'.get? b=some o)→R (.ok (.ret .none)) {s with heap:=h',toks:=tk})→
   codeAny (model prog w) A (.builtin "dict.update.loop" ⟨[.ref d,.ref I,.int i t,.none],[]⟩) R s:=by
 have W:=Walks.list (prog:=prog) (w:=w) hA I L hLI items
 intro k
 induction k with
 | zero=>
  intro i s t hk hi hit hl hm hkeep hR
  have hin:i=items.size:=by omega
  refine codeAny_builtin zdT ?_
  rw [Around.under_plainId zcy _]
  show wpAny _ A.in1 (pyNext (.ref I) >>=_) _ _ s
  refine wpAny_bind (W.done s _ _ (by rw [← hin];exact ⟨hit,hl⟩) fun h' tk hk'=>?_)
  have hk2:∀ b o,b≠I→s.heap.get? b=some o→h'.get? b=some o:=fun b o hb e=>hk' b o (by simpa using hb) e
  have et:xs.take i=xs:=List.take_of_length_le (by omega)
  rw [et] at hm
  show wpAny _ _ (Builtin.Dict.addKeywords d [] >>=_) _ _ _
  exact wpAny_bind (wpAny_pure (wpAny_pure (hR h' tk (zfW hm (zh0 hit) hk2) fun b o e=>hk2 b o (fun z=>by rw [z,hI0] at e;cases e) (hkeep b o e))))
 | succ k ih=>
  intro i s t hk hi hit hl hm hkeep hR
  have hlt:i < xs.length:=by omega
  obtain ⟨p,o,n,hp,ho,hc,hdat,hkey⟩:=good i xs[i] (List.getElem?_eq_getElem hlt)
  refine codeAny_builtin zdT ?_
  rw [Around.under_plainId zcy _]
  show wpAny _ A.in1 (pyNext (.ref I) >>=_) _ _ s
  refine wpAny_bind (W.item i s _ _ (by omega) ⟨hit,hl⟩ fun v h' tk hP hst' hk'=>?_)
  rw [hp] at hP
  cases hP
  have hk2:∀ b o,b≠I→s.heap.get? b=some o→h'.get? b=some o:=fun b o hb e=>hk' b o (by simpa using hb) e
  have hkeep':∀ b o,h0.get? b=some o→h'.get? b=some o:=fun b o e=>hk2 b o (fun z=>by rw [z,hI0] at e;cases e) (hkeep b o e)
  have hm':h'.DictOfH (tupleKind (zaG prog w)) d (storeAll [] (xs.take i)):=zfW hm (zh0 hit) hk2
  refine wpAny_bind (wpAny_holding (wpAny_bind (wpAny_tryCatch ?_)))
  unfold Builtin.Dict.pairItems
  refine wpAny_bind (wpAny_typeOf (T:="tuple") ⟨o,hkeep' _ _ ho,hc⟩ ?_)
  rw [if_pos (by decide)]
  refine wpAny_bind (wpAny_seqItems (hkeep' _ _ ho) hdat (wpAny_pure ?_))
  show wpAny _ _ (holding [_,_] (dictSet d _ _)) _ _ _
  have l1:=zfk (xs.take i) []
  rw [List.length_nil,List.length_take] at l1
  refine wpAny_holding (wpAny_dictSet_heap (hsz:=by omega) hu (zhP hkey fun o e=>hkeep' _ _ e) hm' fun h2 hd2 hs2=>?_)
  have hk3:∀ b o,b≠d→h'.get? b=some o→h2.get? b=some o:=fun b o hb e=>(hs2.2 b hb).trans e
  refine wpAny_pure ⟨plainId_quiet zcy _,ih (i+1) _ _ (by omega) (by omega) (hst'.1.at fun o e=>hk3 _ _ (Ne.symm hdI) e) (hst'.2.at fun o e=>hk3 _ _ (Ne.symm hdL) e) ?_ (fun b o e=>hk3 b o (fun z=>by rw [z,hd0] at e;cases e) (hkeep' b o e)) fun h3 tk3 hd3 hk4=>hR h3 tk3 hd3 hk4⟩
  rw [zgn xs (List.getElem?_eq_getElem hlt)]
  exact hd2
end
section
variable {prog:Program} {w:World} {A:Around} {E:Value→Shared→Prop} {s:Shared}
theorem zfn {L:Addr}{o:Obj}{items:Array Value}{m:Nat}{xs:List (List Key×Addr×Value)}{Q:Value→Shared→Prop}(hA:A.handled=none)(hu:A.units+64 < cLine)
  (ho:s.heap.get? L=some o) (hc:o.cls= .type "list") (hd:o.dict=none) (hdat:o.data= .seq items m)
  (good:∀ (i:Nat) (x:List Key×Addr×Value),xs[i]? =some x→∃ (p:Addr) (o:Obj) (n:Nat),items[i]? =some (Value.ref p)∧s.heap.get? p=some o∧o.cls= .type "tuple"∧o.data= .seq #[.ref x.2.1,x.2.2] n∧(tupleKind (zaG prog w)).is s.heap x.1 x.2.1)
  (hn:items.size=xs.length) (hz:xs.length < sizeLine)
  (h:∀ h' tk,h'.DictOfH (tupleKind (zaG prog w)) s.heap.objs.size (storeAll [] xs)→(∀ b o,s.heap.get? b=some o→h'.get? b=some o)→Q (.ref s.heap.objs.size) {s with heap:=h',toks:=tk}):
  wpAny (model prog w) A (call (.type "dict") [.ref L]) Q E s:=by
 refine callType_codes (Q₁ :=fun obj s₁ =>obj= .ref s.heap.objs.size∧s₁ = {s with heap:=s.heap.push {cls:=.type "dict",data:=.dict #[]}}) PySem.F.kt_called_dict (PySem.F.kt_typeCall_dict_1 _) PySem.F.entry_dict_init (kt_code_dict_new _ ⟨rfl,rfl⟩) ?_
 rintro obj s₁ ⟨rfl,rfl⟩
 have hd1:(s.heap.push {cls:=.type "dict",data:=.dict #[]}).get? s.heap.objs.size=some {cls:=.type "dict",data:=.dict #[]}:=Heap.get?_push_size _ rfl
 have hL1:(s.heap.push {cls:=.type "dict",data:=.dict #[]}).get? L=some o:=Heap.get?_push_of_some _ ho
 have hlt:L < s.heap.objs.size:=Heap.lt_size ho
 refine ⟨⟨_,hd1,rfl⟩,PySem.F.args_dict_init_2 _ _,?_⟩
 unfold Builtin.«dict.__init__»
 refine wpAny_bind ?_
 unfold Builtin.Dict.selfAndRest
 refine wpAny_bind (wpAny_notOrdered_dict ⟨_,hd1,rfl⟩ ?_)
 show wpAny _ _ (pure (s.heap.objs.size,[Value.ref L])) _ _ _
 refine wpAny_pure ?_
 show wpAny _ _ (Builtin.Dict.updateFrom "dict.__init__" s.heap.objs.size (.ref L) [] .none) _ _ _
 unfold Builtin.Dict.updateFrom
 refine wpAny_bind (wpAny_typeOf (T:="list") ⟨_,hL1,hc⟩ ?_)
 rw [if_pos (by decide)]
 refine wpAny_bind (zee hL1 hc hdat hd hA fun h2 tk2 hk2=>?_)
 rw [if_pos (show (none:Option Value).isNone=true from rfl)]
 refine wpAny_bind (wpAny_rule ?_)
 have hl2:h2.IsList L items:=⟨o,hk2 _ _ hL1,hc,m,hdat⟩
 refine wpAny_bind (wpAny_pyIter_list hl2 ?_)
 have hz2:s.heap.objs.size < h2.objs.size:=Heap.lt_size (hk2 _ _ hd1)
 have keep:∀ b ob,s.heap.get? b=some ob→(h2.push {cls:=.type "list_iterator",data:=.fields #[.ref L,.int 0 0]}).get? b=some ob:=fun b ob e=>Heap.get?_push_of_some _ (hk2 _ _ (Heap.get?_push_of_some _ e))
 refine wpAny_pure ⟨plainId_quiet zcy _,zeN (A:=A.in1) (h0:=s.heap) (L:=L) hA (show A.units+1+1 < cLine by omega) (Nat.ne_of_lt (Nat.lt_trans hlt hz2)) (Nat.ne_of_lt hz2) (Ne.symm (Nat.ne_of_lt hlt)) (Heap.get?_none_of_le (Nat.le_refl _)) (Heap.get?_none_of_le (Nat.le_of_lt hz2)) good hn hz
  xs.length 0 _ _ (by omega) (Nat.zero_le _) ⟨_,Heap.get?_push_size _ rfl,rfl,rfl⟩ (hl2.at fun o e=>Heap.get?_push_of_some _ e) ?_ keep fun h' tk hd' hk'=>⟨rfl,h h' tk hd' hk'⟩⟩
 exact ⟨_,#[],0,Heap.get?_push_of_some _ (hk2 _ _ hd1),⟨rfl,rfl,rfl⟩,rfl,rfl,(fun x hx=>nomatch hx),List.nodup_nil⟩
end
theorem zek:∀ (more kvs:List (List Key×V)),(zeK kvs more).length≤kvs.length+more.length
 | [],kvs=>by show kvs.length≤kvs.length+0;omega
 | p::r,kvs=>by
  have h1:=zek r (putK kvs p.1 p.2)
  have h2:=zdl kvs p.1 p.2
  show (zeK (putK kvs p.1 p.2) r).length≤_
  rw [List.length_cons];omega
theorem KT.merge {H:Hp}:∀ {more:List (List Key×V)} {xs:List (List Key×Addr×Value)} {kvs:List (List Key×V)} {ys:List (List Key×Addr×Value)},KT H more xs→KT H kvs ys→KT H (zeK kvs more) (storeAll ys xs)
 | _,_,_,_,.nil,q=>q
 | _,_,kvs,ys,.cons (a:=p) (b:=x) h t,q=>by
  have e:KT H (putK kvs p.1 p.2) (storedH ys x.1 x.2.1 x.2.2):=by
   have:=q.put p.1 h.2.1 h.2.2
   rw [← h.1];exact this
  have z:=KT.merge (kvs:=putK kvs p.1 p.2) (ys:=storedH ys x.1 x.2.1 x.2.2) t e
  exact z
section
variable {X:Cx}
theorem zir (hc:X.calm=true)(hu:X.A.units+64 < cLine):zc8 X (.type "dict") (fun xs H Q=>∃ (L:Addr) (vs:List V) (kvs:List (List Key×V)),xs= [.ref L]∧H L=some (.lst vs)∧zeF H vs kvs∧kvs.length < sizeLine∧∀ d,H d=none→Q (.ref d) (upd H d (.dT (zeK [] kvs)))):=by
 intro pins s σ H xs us Q I r ⟨L,vs,kvs,e,hL,hp,hz,q⟩
 subst e
 obtain ⟨u,rfl,rx⟩:=zgm r
 cases rx
 obtain ⟨z,its,n,rv,hl,eL⟩:=I.lstM hL
 obtain ⟨ws,kt,gd⟩:∃ ws:List (List Key×Addr×Value),KT H kvs ws∧∀ (i:Nat) (x:List Key×Addr×Value),ws[i]? =some x→∃ p o n,its[i]? =some (.ref p)∧s.heap.get? p=some o∧o.cls= .type "tuple"∧o.data= .seq #[.ref x.2.1,x.2.2] n∧(tupleKind (zaG X.prog X.w)).is s.heap x.1 x.2.1:=by
  clear q hz hL z eL hl
  induction hp generalizing its with
  | nil=>cases rv;exact ⟨[],.nil,fun i x hx=>by simp at hx⟩
  | @cons x kv vs kvs h t ih=>
   cases rv with
   | @cons _ u _ us ru rus=>
    obtain ⟨ws,k1,g1⟩:=ih us rus
    obtain ⟨p,ktt,rfl,h1,h2⟩:=h
    cases ru
    obtain ⟨_,ts,rt,ot,e1,c1,n1,d1⟩:=(show zbm X.prog X.w H s.heap p (.tup [.ref ktt,kv.2]) from I.hok p _ h1)
    cases rt with
    | @cons _ t1 _ _ r1 r2=>
     cases r2 with
     | @cons _ t2 _ _ r2 r3=>
      cases r3
      cases r1
      refine ⟨(kv.1,ktt,t2)::ws,.cons ⟨rfl,h2,r2⟩ k1,fun i x hx=>?_⟩
      cases i with
      | zero=>
       simp at hx
       subst hx
       exact ⟨p,ot,n1,rfl,e1,c1,d1,zfA I.hok h2⟩
      | succ i=>
       obtain ⟨p',o',n',a1,a2⟩:=g1 i x (by simpa using hx)
       exact ⟨p',o',n',by simpa using a1,a2⟩
 have lw:kvs.length=ws.length:=Paired.length kt
 have lv:vs.length=kvs.length:=Paired.length hp
 refine zfn (xs:=ws) (I.ok.hd hc) hu eL rfl rfl rfl (fun i x hx=>?_) (by rw [List.size_toArray];omega) (by omega) fun h' tk hd hk=>?_
 ·obtain ⟨p,o,n,a1,a2⟩:=gd i x hx
  exact ⟨p,o,n,by simpa using a1,a2⟩
 ·have hf:=I.fresh
  obtain ⟨o,es,ep,h1,h2,h3,h4,his,h5⟩:=hd
  have lm:=zek kvs []
  rw [List.length_nil] at lm
  have hb:=I.big
  refine ⟨.ref s.heap.objs.size,_,I.laid (a:=s.heap.objs.size) (o:=.dT (zeK [] kvs)) (t':=tk) hk (Nat.le_refl _) ⟨by omega,beq_eq_false_iff_ne.mpr (Ne.symm (Nat.ne_of_lt hb)),storeAll [] ws,(kt.merge .nil).keeps fun b ys eb=>eb.upd hf,o,es,ep,h1,h2,h3,h4,h5⟩,rfl,q _ hf⟩
end
end L2
namespace L2
open PySem PySem.Spec PyProof.Rows
section
variable {X:Cx} {e k:Expr} {te tk:TE} {pos p2:Pos}
end
end L2
namespace L2
open PySem PySem.Spec PyProof.Rows
section
variable {prog:Program} {w:World} {A:Around} {E:Value→Shared→Prop} {s:Shared}
end
section
variable {X:Cx} {pos:Pos}
end
end L2
namespace L2
open PySem PySem.Spec PyProof.Rows
section
variable {X:Cx}
end
end L2
namespace L2
open PySem PySem.Spec PyProof.Rows
section
variable {prog:Program} {w:World} {A:Around} {E:Value→Shared→Prop} {s:Shared}
end
section
variable {X:Cx}
end
end L2
namespace My
open PySem L2
open PySem.W (Dat kqdP kqdPs kqdOk)
structure zat where
 ins:Int
 gates:List (Str×List Int)
 outs:List Int
noncomputable def zcD (kind:Str) (n:Nat):Prop:=((kind="and"∨kind="or"∨kind="odd")∧2≤n∧n≤4)∨(kind="not"∧n=1)∨(kind="choose"∧n=3)∨((kind="zero"∨kind="one")∧n=0)
structure WF (most:Nat) (w:zat):Prop where
 i1: 1≤w.ins
 i6:w.ins≤6
 few:w.gates.length≤most
 legs:∀ (k:Nat) g,w.gates[k]? =some g→zcD g.1 g.2.length∧∀ l∈g.2,0≤l∧l < w.ins+k
 o1: 1≤w.outs.length
 o3:w.outs.length≤most+20
 outs:∀ o∈w.outs,0≤o∧o < w.ins+w.gates.length
noncomputable def zfH (g:Str×List Int):Dat:=.tuple [.str g.1,.tuple (g.2.map .int)]
noncomputable def zb4 (w:zat):Dat:=.tuple [.int w.ins,.list (w.gates.map zfH),.list (w.outs.map .int)]
theorem zcD.le {k:Str}{n:Nat}(h:zcD k n):n≤4:=by
 unfold zcD at h
 omega
noncomputable def zlj (i b:Int):Dat:=.tuple [.str "wire",.int i,.int b]
noncomputable def legF (k i b:Int):Dat:=.tuple [.str "leg",.int k,.int i,.int b]
noncomputable def zh8:Nat→List Dat
 | 0=>[]
 | n+1=>zh8 n++ [zlj n 0,zlj n 1]
noncomputable def zkK (k:Int):Nat→List Dat
 | 0=>[]
 | n+1=>zkK k n++ [legF k n 0,legF k n 1]
noncomputable def zib (gs:List (Str×List Int)):Nat→List Dat
 | 0=>[]
 | n+1=>zib gs n++zkK n ((gs[n]?.map fun g=>g.2.length).getD 0)
noncomputable def zew (w:zat):List Dat:=zh8 (w.ins.toNat+w.gates.length)++zib w.gates w.gates.length
noncomputable def zjP (i:Int):List Dat:=[.str "wire",.int i]
noncomputable def legP (k i:Int):List Dat:=[.str "leg",.int k,.int i]
noncomputable def zc3:Nat→List (List Dat)
 | 0=>[]
 | n+1=>zc3 n++ [zjP n]
noncomputable def zeG (k:Int):Nat→List (List Dat)
 | 0=>[]
 | n+1=>zeG k n++ [legP k n]
noncomputable def zc4 (gs:List (Str×List Int)):Nat→List (List Dat)
 | 0=>[]
 | n+1=>zc4 gs n++zeG n ((gs[n]?.map fun g=>g.2.length).getD 0)
noncomputable def zdO (ps:List (List Dat)):List Dat:=ps.flatMap fun p=>[.tuple (p++ [.int 0]),.tuple (p++ [.int 1])]
theorem zch (a b:List (List Dat)):zdO (a++b)=zdO a++zdO b:=by unfold zdO;rw [List.flatMap_append]
theorem zeb (p:List Dat):zdO [p]= [.tuple (p++ [.int 0]),.tuple (p++ [.int 1])]:=by unfold zdO;simp
theorem zfw:∀ n,zdO (zc3 n)=zh8 n
 | 0=>rfl
 | n+1=>by rw [zc3,zch,zfw n,zeb,zh8];rfl
theorem zfQ (k:Int):∀ n,zdO (zeG k n)=zkK k n
 | 0=>rfl
 | n+1=>by rw [zeG,zch,zfQ k n,zeb,zkK];rfl
theorem zfB (gs:List (Str×List Int)):∀ n,zdO (zc4 gs n)=zib gs n
 | 0=>rfl
 | n+1=>by rw [zc4,zch,zfB gs n,zfQ,zib]
noncomputable def za5 (w:zat):List (List Dat):=zc3 (w.ins.toNat+w.gates.length)++zc4 w.gates w.gates.length
theorem zc5 (w:zat):zdO (za5 w)=zew w:=by unfold za5 zew;rw [zch,zfw,zfB]
theorem zcM:∀ n,(zc3 n).length=n
 | 0=>rfl
 | n+1=>by rw [zc3,List.length_append,zcM n];simp
theorem zet (k:Int):∀ n,(zeG k n).length=n
 | 0=>rfl
 | n+1=>by rw [zeG,List.length_append,zet k n];simp
theorem zk0 {m:Nat}{w:zat}(h:WF m w)(n:Nat):(w.gates[n]?.map fun g=>g.2.length).getD 0≤4:=by
 cases e:w.gates[n]? with
 | none=>simp
 | some g=>simpa using (h.legs n g e).1.le
theorem zdb {m:Nat}{w:zat}(h:WF m w):∀ n,(zc4 w.gates n).length≤4 * n
 | 0=>Nat.zero_le _
 | n+1=>by
  have:=zdb h n
  have:=zk0 h n
  rw [zc4,List.length_append,zet]
  omega
theorem ze1:∀ ps:List (List Dat),(zdO ps).length=2 * ps.length
 | []=>rfl
 | p::r=>by
  show (zdO ([p]++r)).length=_
  rw [zch,zeb,List.length_append,ze1 r]
  simp
  omega
theorem zf8:∀ n p,p∈zc3 n→∃ i,p=zjP i
 | 0,p,h=>nomatch h
 | n+1,p,h=>by
  rw [zc3] at h
  rcases List.mem_append.mp h with h | h
  ·exact zf8 n p h
  ·exact ⟨_,List.mem_singleton.mp h⟩
theorem zg8 (k:Int):∀ n p,p∈zeG k n→∃ i,p=legP k i
 | 0,p,h=>nomatch h
 | n+1,p,h=>by
  rw [zeG] at h
  rcases List.mem_append.mp h with h | h
  ·exact zg8 k n p h
  ·exact ⟨_,List.mem_singleton.mp h⟩
theorem zfZ (gs:List (Str×List Int)):∀ n p,p∈zc4 gs n→∃ k i,p=legP k i
 | 0,p,h=>nomatch h
 | n+1,p,h=>by
  rw [zc4] at h
  rcases List.mem_append.mp h with h | h
  ·exact zfZ gs n p h
  ·obtain ⟨i,e⟩:=zg8 _ _ p h
   exact ⟨_,i,e⟩
theorem zez {w:zat}{p:List Dat}(h:p∈za5 w):(∃ i,p=zjP i)∨∃ k i,p=legP k i:=by
 unfold za5 at h
 rcases List.mem_append.mp h with h | h
 ·exact .inl (zf8 _ p h)
 ·exact .inr (zfZ _ _ p h)
theorem zkv {w:zat}{i:Nat}(h:(za5 w)[i]? =some []):False:=by
 rcases zez (List.mem_of_getElem? h) with ⟨_,e⟩ | ⟨_,_,e⟩ <;> cases e
theorem zkw {w:zat}{i:Nat}{p:List Dat}(h:(za5 w)[i]? =some p):p.length≤3:=by
 rcases zez (List.mem_of_getElem? h) with ⟨_,e⟩ | ⟨_,_,e⟩ <;> (rw [e];simp [zjP,legP])
theorem zix {w:zat}{d:Dat}(h:d∈zew w):(∃ i b,d=zlj i b)∨∃ k i b,d=legF k i b:=by
 rw [← zc5] at h
 unfold zdO at h
 obtain ⟨p,hp,hd⟩:=List.mem_flatMap.mp h
 rcases zez hp with ⟨i,e⟩ | ⟨k,i,e⟩
 ·left
  rw [e] at hd
  rcases List.mem_cons.mp hd with e1 | hd
  ·exact ⟨i,0,e1⟩
  ·exact ⟨i,1,List.mem_singleton.mp hd⟩
 ·right
  rw [e] at hd
  rcases List.mem_cons.mp hd with e1 | hd
  ·exact ⟨k,i,0,e1⟩
  ·exact ⟨k,i,1,List.mem_singleton.mp hd⟩
theorem zkG {w:zat}{d:Dat}(n:Nat)(h:d∈zew w):kqdOk (n+1) d=true:=by
 rcases zix h with ⟨i,b,e⟩ | ⟨k,i,b,e⟩
 ·rw [e]
  have:PyData.strOk "wire" =true:=by decide+kernel
  cases n <;> simp [zlj,kqdOk,this]
 ·rw [e]
  have:PyData.strOk "leg" =true:=by decide+kernel
  cases n <;> simp [legF,kqdOk,this]
theorem zhH (n:Nat)(ns:List Int):(ns.map Dat.int).all (kqdOk n)=true:=by
 refine List.all_eq_true.mpr fun d h=>?_
 obtain ⟨i,_,rfl⟩:=List.mem_map.mp h
 cases n <;> rfl
theorem zmi {x:Str}{n:Nat}(h:zcD x n):PyData.strOk x=true:=by
 rcases h with ⟨h | h | h,_⟩ | ⟨h,_⟩ | ⟨h,_⟩ | ⟨h | h,_⟩ <;> (rw [h];decide+kernel)
theorem zmr {g:Str×List Int}{n:Nat}(h:zcD g.1 n):kqdOk 6 (zfH g)=true:=by
 show (PyData.strOk g.1 && ((g.2.map Dat.int).all (kqdOk 4) && true))=true
 rw [zmi h,zhH]
 rfl
theorem zh5 {m:Nat}{w:zat}(h:WF m w):kqdOk 8 (zb4 w)=true:=by
 show (true && ((w.gates.map zfH).all (kqdOk 6) && ((w.outs.map Dat.int).all (kqdOk 6) && true)))=true
 have e:(w.gates.map zfH).all (kqdOk 6)=true:=List.all_eq_true.mpr fun d hd=>by
  obtain ⟨g,hg,rfl⟩:=List.mem_map.mp hd
  obtain ⟨i,hi⟩:=List.getElem?_of_mem hg
  exact zmr (h.legs i g hi).1
 rw [e,zhH]
 rfl
theorem zcl {K:PySem.W.Frag}{H:Hp}{w:zat}{x:V}(h:Rep K H x (zb4 w)):
  ∃ a ga oa gs os,x= .ref a∧SqT K H a [.int w.ins,.ref ga,.ref oa]∧SqL K H ga gs∧SqL K H oa os∧Reps K H gs (w.gates.map zfH)∧Reps K H os (w.outs.map .int):=by
 unfold zb4 at h
 cases h with
 | tup ha r=>
  cases r with
  | cons r1 r=>
   cases r with
   | cons r2 r=>
    cases r with
    | cons r3 r=>
     cases r
     cases r1
     cases r2 with
     | lst hg rg=>
      cases r3 with
      | lst ho ro=>exact ⟨_,_,_,_,_,rfl,ha,hg,ho,rg,ro⟩
theorem zga {K:PySem.W.Frag}{H:Hp}{g:Str×List Int}{x:V}(h:Rep K H x (zfH g)):
  ∃ a la,x= .ref a∧SqT K H a [.str g.1,.ref la]∧SqT K H la (g.2.map V.int):=by
 unfold zfH at h
 cases h with
 | tup ha r=>
  cases r with
  | cons r1 r=>
   cases r with
   | cons r2 r=>
    cases r
    cases r1
    cases r2 with
    | tup hl rl=>
     have e:∀ (xs:List V) (ns:List Int),Reps K H xs (ns.map Dat.int)→xs=ns.map V.int:=by
      intro xs ns
      induction ns generalizing xs with
      | nil=>intro z;cases z;rfl
      | cons m r ih=>
       intro z
       cases z with
       | cons z1 z2=>
        cases z1
        rw [ih _ z2]
        rfl
     rw [e _ _ rl] at hl
     exact ⟨_,_,rfl,ha,hl⟩
end My
namespace My
open PySem L2
noncomputable def Bits (ns:List Int):Prop:=∀ n∈ns,n=0∨n=1
noncomputable def zcH (x:Str) (ns:List Int):Int:=
 if x="and" then (if ns.all (· ==1)=true then 1 else 0)
 else if x="or" then (if ns.any (· ==1)=true then 1 else 0)
 else if x="odd" then ns.sum % 2
 else if x="not" then 1 - ns.getD 0 0
 else if x="choose" then (if ns.getD 0 0=1 then ns.getD 1 0 else ns.getD 2 0)
 else if x="one" then 1 else 0
theorem n_oa:("or" :Str)≠"and" :=by decide+kernel
theorem n_da:("odd" :Str)≠"and" :=by decide+kernel
theorem n_do:("odd" :Str)≠"or" :=by decide+kernel
theorem n_na:("not" :Str)≠"and" :=by decide+kernel
theorem n_no:("not" :Str)≠"or" :=by decide+kernel
theorem n_nd:("not" :Str)≠"odd" :=by decide+kernel
theorem n_ca:("choose" :Str)≠"and" :=by decide+kernel
theorem n_co:("choose" :Str)≠"or" :=by decide+kernel
theorem n_cd:("choose" :Str)≠"odd" :=by decide+kernel
theorem n_cn:("choose" :Str)≠"not" :=by decide+kernel
theorem n_za:("zero" :Str)≠"and" :=by decide+kernel
theorem n_zo:("zero" :Str)≠"or" :=by decide+kernel
theorem n_zd:("zero" :Str)≠"odd" :=by decide+kernel
theorem n_zn:("zero" :Str)≠"not" :=by decide+kernel
theorem n_zc:("zero" :Str)≠"choose" :=by decide+kernel
theorem n_z1:("zero" :Str)≠"one" :=by decide+kernel
theorem n_1a:("one" :Str)≠"and" :=by decide+kernel
theorem n_1o:("one" :Str)≠"or" :=by decide+kernel
theorem n_1d:("one" :Str)≠"odd" :=by decide+kernel
theorem n_1n:("one" :Str)≠"not" :=by decide+kernel
theorem n_1c:("one" :Str)≠"choose" :=by decide+kernel
theorem zj0 (ns:List Int):zcH "and" ns=if ns.all (· ==1)=true then 1 else 0:=by unfold zcH;rw [if_pos rfl]
theorem zl0 (ns:List Int):zcH "or" ns=if ns.any (· ==1)=true then 1 else 0:=by unfold zcH;rw [if_neg n_oa,if_pos rfl]
theorem zjX (ns:List Int):zcH "odd" ns=ns.sum % 2:=by unfold zcH;rw [if_neg n_da,if_neg n_do,if_pos rfl]
theorem zji (ns:List Int):zcH "not" ns=1 - ns.getD 0 0:=by unfold zcH;rw [if_neg n_na,if_neg n_no,if_neg n_nd,if_pos rfl]
theorem zfg (ns:List Int):zcH "choose" ns=if ns.getD 0 0=1 then ns.getD 1 0 else ns.getD 2 0:=by unfold zcH;rw [if_neg n_ca,if_neg n_co,if_neg n_cd,if_neg n_cn,if_pos rfl]
theorem zhD (ns:List Int):zcH "zero" ns=0:=by unfold zcH;rw [if_neg n_za,if_neg n_zo,if_neg n_zd,if_neg n_zn,if_neg n_zc,if_neg n_z1]
theorem zjW (ns:List Int):zcH "one" ns=1:=by unfold zcH;rw [if_neg n_1a,if_neg n_1o,if_neg n_1d,if_neg n_1n,if_neg n_1c,if_pos rfl]
theorem zb6 {ns:List Int}(b:Bits ns){i:Nat}(h:i < ns.length):ns.getD i 0=0∨ns.getD i 0=1:=by
 rw [List.getD_eq_getElem?_getD,List.getElem?_eq_getElem h]
 exact b _ (List.getElem_mem h)
theorem zkR {x:Str}{ns:List Int}(b:Bits ns)(h:zcD x ns.length):zcH x ns=0∨zcH x ns=1:=by
 rcases h with ⟨h | h | h,l1,l2⟩ | ⟨h,l1⟩ | ⟨h,l1⟩ | ⟨h | h,l1⟩
 ·rw [h,zj0];split <;> simp
 ·rw [h,zl0];split <;> simp
 ·rw [h,zjX];omega
 ·rw [h,zji]
  have:=zb6 b (i:=0) (by omega)
  omega
 ·rw [h,zfg]
  split
  ·exact zb6 b (i:=1) (by omega)
  ·exact zb6 b (i:=2) (by omega)
 ·rw [h,zhD];simp
 ·rw [h,zjW];simp
noncomputable def zjv (gs:List (Str×List Int)) (row:List Int):Nat→List Int
 | 0=>row
 | n+1=>zjv gs row n++ [match gs[n]? with
   | some g=>zcH g.1 (g.2.map fun l=>(zjv gs row n).getD l.toNat 0)
   | none=>0]
theorem ifY {x y:Str}{A B:Prop}(h:x=y)(a:A):if (decide (V.str x=V.str y))=true then A else B:=by rw [if_pos (decide_eq_true (by rw [h]))];exact a
theorem ifN {x y:Str}{A B:Prop}(h:x≠y)(b:B):if (decide (V.str x=V.str y))=true then A else B:=by rw [if_neg (by rw [decide_eq_true_eq];intro z;exact h (V.str.inj z))];exact b
theorem zbT {ns:List Int}{i:Int}(h0: 0≤i)(h1:i < ns.length):atI (ns.map V.int) i=some (.int (ns.getD i.toNat 0)):=by
 have e:i=((i.toNat:Nat):Int):=by omega
 have hk:i.toNat < ns.length:=by omega
 have q:atI (ns.map V.int) ((i.toNat:Nat):Int)=some (.int ns[i.toNat]):=zc9 (by rw [List.getElem?_map,List.getElem?_eq_getElem hk] <;> rfl)
 rw [← e] at q
 rw [q,List.getD_eq_getElem?_getD,List.getElem?_eq_getElem hk]
 rfl
noncomputable def upto (gs:List (Str×List Int)) (row:List Int) (i:Nat):List Int:=(zjv gs row (i - row.length)).take i
end My
namespace My
open PySem L2
open PySem.W (Dat kqdP kqdPs kqdOk)
noncomputable def zaX:Nat→List (List Int)
 | 0=>[[]]
 | n+1=>(zaX n).map (0:: ·)++(zaX n).map (1:: ·)
theorem zaZ:∀ n,(zaX n).length=2 ^ n
 | 0=>rfl
 | n+1=>by rw [zaX,List.length_append,List.length_map,List.length_map,zaZ n,Nat.pow_succ];omega
theorem zcB:∀ n r,r∈zaX n→r.length=n∧Bits r
 | 0,r,h=>by
  rw [List.mem_singleton.mp h]
  exact ⟨rfl,fun _ z=>nomatch z⟩
 | n+1,r,h=>by
  rcases List.mem_append.mp h with h | h
  ·obtain ⟨u,hu,rfl⟩:=List.mem_map.mp h
   obtain ⟨a,b⟩:=zcB n u hu
   exact ⟨by rw [List.length_cons,a],fun z hz=>by
    rcases List.mem_cons.mp hz with e | e
    ·exact .inl e
    ·exact b z e⟩
  ·obtain ⟨u,hu,rfl⟩:=List.mem_map.mp h
   obtain ⟨a,b⟩:=zcB n u hu
   exact ⟨by rw [List.length_cons,a],fun z hz=>by
    rcases List.mem_cons.mp hz with e | e
    ·exact .inr e
    ·exact b z e⟩
theorem zh9 {n:Nat}(h:n≤6):(zaX n).length≤64:=by
 rw [zaZ]
 exact Nat.pow_le_pow_right (n:=2) (by decide) h
noncomputable def rowD (r:List Int):Dat:=.list (r.map .int)
inductive At (H:Hp):List Addr→List (List Int)→Prop
 | nil:At H [] []
 | cons {q:Addr} {r:List Int} {qs:List Addr} {rs:List (List Int)}:H q=some (.lst (r.map V.int))→At H qs rs→At H (q::qs) (r::rs)
section
variable {K:PySem.W.Frag} {H H':Hp} {qs qs':List Addr} {rs rs':List (List Int)}
theorem At.mono (s:Same H H')(h:At H qs rs):At H' qs rs:=by
 induction h with
 | nil=>exact .nil
 | cons e _ ih=>exact .cons (s _ _ e) ih
theorem At.append (h:At H qs rs)(h':At H qs' rs'):At H (qs++qs') (rs++rs'):=by
 induction h with
 | nil=>exact h'
 | cons e _ ih=>exact .cons e ih
theorem At.len (h:At H qs rs):qs.length=rs.length:=by
 induction h with
 | nil=>rfl
 | cons e _ ih=>rw [List.length_cons,List.length_cons,ih]
theorem At.get (h:At H qs rs):∀ {i:Nat} {q:Addr},qs[i]? =some q→∃ r,rs[i]? =some r∧H q=some (.lst (r.map V.int)):=by
 induction h with
 | nil=>intro i q e;cases e
 | cons e _ ih=>
  intro i q z
  cases i with
  | zero=>cases z;exact ⟨_,rfl,e⟩
  | succ i=>exact ih z
theorem At.here (h:At H qs rs){q:Addr}(m:q∈qs):∃ r∈rs,H q=some (.lst (r.map V.int)):=by
 obtain ⟨i,hi⟩:=List.getElem?_of_mem m
 obtain ⟨r,a,b⟩:=h.get hi
 exact ⟨r,List.mem_of_getElem? a,b⟩
theorem At.write {p:Addr}{o:HO}(n:p∉qs)(h:At H qs rs):At (upd H p o) qs rs:=by
 induction h with
 | nil=>exact .nil
 | cons e _ ih=>
  refine .cons ?_ (ih fun z=>n (.tail _ z))
  rename_i q0 _ _ _ _
  have hne:q0≠p:=fun z=>n (by rw [z];exact .head _)
  rw [zai hne]
  exact e
end
structure Rows (H0:Hp) (R:Addr) (qs:List Addr) (rs:List (List Int)) (H:Hp):Prop where
 same:Same H0 H
 out:H0 R=none
 at_:H R=some (.lst (qs.map V.ref))
 rows:At H qs rs
 nd:qs.Nodup
 new:∀ q∈qs,H0 q=none∧q≠R
section
variable {K:PySem.W.Frag} {H0 H H1 H2:Hp} {R D D1 D2 T q:Addr} {qs qs1 qs2:List Addr} {rs rs1 rs2:List (List Int)}
theorem Rows.start (s:Same H0 H)(h:H D=none):Rows H0 D [] [] (upd H D (.lst [])):=⟨s.upd h _,s.free h,zab,.nil,.nil,fun _ z=>nomatch z⟩
theorem Rows.sq (b:Rows H0 R qs rs H):SqL K H R (qs.map V.ref):=.of b.at_
theorem Rows.push {o:HO}{r:List Int}{vs:List V}(b:Rows H0 D qs rs H)(hT:H T=none)(hq:upd H T o q=none)(e:vs=r.map V.int):
  Rows H0 D (qs++ [q]) (rs++ [r]) (upd (upd (upd H T o) q (.lst vs)) D (.lst (qs.map V.ref++ [.ref q]))):=by
 subst e
 have s1:Same H (upd (upd H T o) q (.lst (r.map V.int))):=(zaf hT _).upd hq _
 have q0:H q=none:=(zaf hT o).free hq
 have qD:q≠D:=Ne.symm (zal b.at_ q0)
 have nq:q∉qs:=fun z=>by
  obtain ⟨r,_,e⟩:=b.rows.here z
  rw [q0] at e
  cases e
 refine ⟨(b.same.trans s1).write b.out _,b.out,by rw [zab,List.map_append];rfl,?_,?_,fun z hz=>?_⟩
 ·refine At.write (fun z=>?_) (At.append (b.rows.mono s1) (.cons zab .nil))
  rcases List.mem_append.mp z with z | z
  ·exact (b.new D z).2 rfl
  ·exact qD (List.mem_singleton.mp z).symm
 ·refine List.nodup_append.mpr ⟨b.nd,List.nodup_cons.mpr ⟨(fun z=>nomatch z),List.nodup_nil⟩,fun x hx y hy e=>?_⟩
  rw [List.mem_singleton.mp hy] at e
  exact nq (e ▸ hx)
 ·rcases List.mem_append.mp hz with hz | hz
  ·exact b.new z hz
  ·rw [List.mem_singleton.mp hz]
   exact ⟨b.same.free q0,qD⟩
theorem Rows.cat (a:Rows H0 D1 qs1 rs1 H1)(b:Rows H1 D2 qs2 rs2 H2)(h:H2 R=none):Rows H0 R (qs1++qs2) (rs1++rs2) (upd H2 R (.lst (qs1.map V.ref++qs2.map V.ref))):=by
 have s:=a.same.trans b.same
 have t:At H2 (qs1++qs2) (rs1++rs2):=(a.rows.mono b.same).append b.rows
 refine ⟨s.upd h _,s.free h,by rw [zab,List.map_append],t.mono (zaf h _),?_,fun q hq=>?_⟩
 ·refine List.nodup_append.mpr ⟨a.nd,b.nd,fun x hx y hy e=>?_⟩
  subst e
  obtain ⟨r,_,e⟩:=a.rows.here hx
  rw [(b.new x hy).1] at e
  cases e
 ·refine ⟨?_,fun e=>?_⟩
  ·rcases List.mem_append.mp hq with hq | hq
   ·exact (a.new q hq).1
   ·exact a.same.free (b.new q hq).1
  ·obtain ⟨r,_,z⟩:=t.here hq
   rw [e,h] at z
   cases z
end
theorem zd5 {K:PySem.W.Frag}{H:Hp}:∀ {xs:List V} {ns:List Int},Reps K H xs (ns.map Dat.int)→xs=ns.map V.int
 | _,[],h=>by cases h;rfl
 | _,n::ns,h=>by
  cases h with
  | cons h1 h2=>
   cases h1
   rw [zd5 h2]
   rfl
noncomputable def zdX (w:zat) (ws:List Int):List Int:=w.outs.map fun o=>ws.getD o.toNat 0
theorem zgz {r:List Int}{rs:List (List Int)}{j:Nat}(f:List Int→List Int)(h:rs[j]? =some r):(rs.take (j+1)).map f=(rs.take j).map f++ [f r]:=by
 rw [List.take_add_one,h,List.map_append]
 rfl
end My
namespace My
open PySem L2
open PySem.W (Dat kqdP kqdPs kqdOk)
theorem za9 (ns:List Int):kqdOk 8 (.list (ns.map Dat.int))=true:=zhH 7 ns
end My
namespace My
open PySem L2
open PySem.W (Dat kqdP kqdPs kqdOk)
structure Flt where
 place:List Key
 worth:Int
noncomputable def kD:Key→Dat
 | .inl n=>.int n
 | .inr s=>.str s
noncomputable def fltD (f:Flt):Dat:=.tuple (f.place.map kD++ [.int f.worth])
noncomputable def zb2 (i:Int):List Key:=[Sum.inr "wire",Sum.inl i]
noncomputable def legK (k i:Int):List Key:=[Sum.inr "leg",Sum.inl k,Sum.inl i]
noncomputable def zc2:Nat→List (List Key)
 | 0=>[]
 | n+1=>zc2 n++ [zb2 n]
noncomputable def zgr (k:Int):Nat→List (List Key)
 | 0=>[]
 | n+1=>zgr k n++ [legK k n]
noncomputable def zdR (gs:List (Str×List Int)):Nat→List (List Key)
 | 0=>[]
 | n+1=>zdR gs n++zgr n ((gs[n]?.map fun g=>g.2.length).getD 0)
noncomputable def zco (w:zat):List (List Key):=zc2 (w.ins.toNat+w.gates.length)++zdR w.gates w.gates.length
theorem zgA:∀ n,(zc2 n).map (·.map kD)=zc3 n
 | 0=>rfl
 | n+1=>by rw [zc2,List.map_append,zgA n,zc3];rfl
theorem zhC (k:Int):∀ n,(zgr k n).map (·.map kD)=zeG k n
 | 0=>rfl
 | n+1=>by rw [zgr,List.map_append,zhC k n,zeG];rfl
theorem zgD (gs:List (Str×List Int)):∀ n,(zdR gs n).map (·.map kD)=zc4 gs n
 | 0=>rfl
 | n+1=>by rw [zdR,List.map_append,zgD gs n,zc4,zhC]
theorem zeq (w:zat):(zco w).map (·.map kD)=za5 w:=by unfold zco za5;rw [List.map_append,zgA,zgD]
theorem zdH:∀ {n:Nat} {p:List Key},p∈zc2 n→∃ i:Nat,i < n∧p=zb2 i
 | n+1,p,h=>by
  rcases List.mem_append.mp h with h | h
  ·obtain ⟨i,a,b⟩:=zdH h
   exact ⟨i,by omega,b⟩
  ·exact ⟨n,by omega,List.mem_singleton.mp h⟩
theorem zg1:∀ {n i:Nat},i < n→zb2 i∈zc2 n
 | n+1,i,h=>by
  by_cases e:i=n
  ·subst e
   exact List.mem_append.mpr (.inr (List.mem_singleton.mpr rfl))
  ·exact List.mem_append.mpr (.inl (zg1 (by omega)))
theorem zep {k:Int}:∀ {n:Nat} {p:List Key},p∈zgr k n→∃ i:Nat,i < n∧p=legK k i
 | n+1,p,h=>by
  rcases List.mem_append.mp h with h | h
  ·obtain ⟨i,a,b⟩:=zep h
   exact ⟨i,by omega,b⟩
  ·exact ⟨n,by omega,List.mem_singleton.mp h⟩
theorem zdN {gs:List (Str×List Int)}:∀ {n:Nat} {p:List Key},p∈zdR gs n→∃ k i:Nat,k < n∧i < ((gs[k]?.map fun g=>g.2.length).getD 0)∧p=legK k i
 | n+1,p,h=>by
  rcases List.mem_append.mp h with h | h
  ·obtain ⟨k,i,a,b,c⟩:=zdN h
   exact ⟨k,i,by omega,b,c⟩
  ·obtain ⟨i,a,b⟩:=zep h
   exact ⟨n,i,by omega,a,b⟩
theorem zkt {i j:Int}(h:zb2 i=zb2 j):i=j:=by
 unfold zb2 at h
 injection h with _ h
 injection h with h
 exact Sum.inl.inj h
theorem zgE {k l i j:Int}(h:legK k i=legK l j):k=l∧i=j:=by
 unfold legK at h
 injection h with _ h
 injection h with h1 h
 injection h with h
 exact ⟨Sum.inl.inj h1,Sum.inl.inj h⟩
theorem zhZ {i k j:Int}(h:zb2 i=legK k j):False:=by
 have:=congrArg List.length h
 exact absurd this (by show ¬(2:Nat)=3;decide)
theorem zf5 {α :Type}{xs:List α}{x: α}(h:xs.Nodup)(n:x∉xs):(xs++ [x]).Nodup:=
 List.nodup_append.mpr ⟨h,List.nodup_cons.mpr ⟨(fun z=>nomatch z),List.nodup_nil⟩,fun a ha b hb e=>n (by rw [← List.mem_singleton.mp hb,← e];exact ha)⟩
theorem zhc:∀ n,(zc2 n).Nodup
 | 0=>List.nodup_nil
 | n+1=>zf5 (zhc n) fun h=>by
  obtain ⟨i,a,b⟩:=zdH h
  have:=zkt b
  omega
theorem zih (k:Int):∀ n,(zgr k n).Nodup
 | 0=>List.nodup_nil
 | n+1=>zf5 (zih k n) fun h=>by
  obtain ⟨i,a,b⟩:=zep h
  have:=(zgE b).2
  omega
theorem zhf (gs:List (Str×List Int)):∀ n,(zdR gs n).Nodup
 | 0=>List.nodup_nil
 | n+1=>List.nodup_append.mpr ⟨zhf gs n,zih _ _,fun a ha b hb e=>by
  obtain ⟨k,i,h1,_,h2⟩:=zdN ha
  obtain ⟨j,_,h3⟩:=zep hb
  have:=(zgE (h2.symm.trans (e.trans h3))).1
  omega⟩
theorem ziq (w:zat):(zco w).Nodup:=List.nodup_append.mpr ⟨zhc _,zhf _ _,fun a ha b hb e=>by
 obtain ⟨i,_,h1⟩:=zdH ha
 obtain ⟨k,j,_,_,h2⟩:=zdN hb
 exact zhZ (h1.symm.trans (e.trans h2))⟩
noncomputable def zed (w:zat) (f:Flt):Prop:=f.place∈zco w∧(f.worth=0∨f.worth=1)
theorem zlg {w:zat}{f:Flt}(h:zed w f):fltD f∈zew w:=by
 rw [← zc5,← zeq]
 unfold zdO
 refine List.mem_flatMap.mpr ⟨f.place.map kD,List.mem_map.mpr ⟨_,h.1,rfl⟩,?_⟩
 unfold fltD
 rcases h.2 with e | e
 ·rw [e];exact .head _
 ·rw [e];exact .tail _ (.head _)
theorem zkl {w:zat}{i:Nat}{b:Int}(hi:i < w.ins.toNat+w.gates.length)(hb:b=0∨b=1):zed w ⟨zb2 i,b⟩:=⟨List.mem_append.mpr (.inl (zg1 hi)),hb⟩
noncomputable def zgF (fs:List Flt):Prop:=(fs.map (·.place)).Nodup
noncomputable def tabV (fs:List Flt):List (List Key×V):=fs.map fun f=>(f.place,V.int f.worth)
noncomputable def look (fs:List Flt) (p:List Key):Option Int:=(fs.find? fun f=>decide (f.place=p)).map (·.worth)
noncomputable def pick (fs:List Flt) (p:List Key) (v:Int):Int:=(look fs p).getD v
theorem zhK (p:List Key):∀ fs:List Flt,valV (tabV fs) p=(look fs p).map V.int
 | []=>rfl
 | f::fs=>by
  show valV ((f.place,V.int f.worth)::tabV fs) p=_
  unfold look
  by_cases e:f.place=p
  ·rw [zdL e,List.find?_cons_of_pos (by simpa using e)]
   rfl
  ·rw [zcX e,List.find?_cons_of_neg (by simpa using e),zhK p fs]
   rfl
theorem zgh (fs:List Flt)(p:List Key)(v:Int):(valV (tabV fs) p).getD (.int v)= .int (pick fs p v):=by
 rw [zhK]
 unfold pick
 cases look fs p <;> rfl
theorem zjA {fs:List Flt}{p:List Key}(h:p∉fs.map (·.place)):look fs p=none:=by
 unfold look
 rw [List.find?_eq_none.mpr]
 ·rfl
 ·intro f hf z
  exact h (List.mem_map.mpr ⟨f,hf,of_decide_eq_true z⟩)
theorem zkM {fs:List Flt}{p:List Key}{b:Int}(h:look fs p=some b):⟨p,b⟩∈fs:=by
 unfold look at h
 obtain ⟨f,hf,rfl⟩:=Option.map_eq_some_iff.mp h
 have e0:=List.find?_some hf
 have e:f.place=p:=by simpa using e0
 rw [← e]
 exact List.mem_of_find?_eq_some hf
theorem zgL {fs:List Flt}{p:List Key}{v:Int}(hb:∀ f∈fs,f.worth=0∨f.worth=1)(hv:v=0∨v=1):pick fs p v=0∨pick fs p v=1:=by
 unfold pick
 cases e:look fs p with
 | none=>exact hv
 | some b=>exact hb _ (zkM e)
noncomputable def zcK (fs:List Flt) (k:Int) (ns:List Int):List Int:=ns.mapIdx fun i v=>pick fs (legK k i) v
noncomputable def rowS (fs:List Flt) (ns:List Int):List Int:=ns.mapIdx fun i v=>pick fs (zb2 i) v
noncomputable def zbs (fs:List Flt) (gs:List (Str×List Int)) (row:List Int):Nat→List Int
 | 0=>rowS fs row
 | n+1=>zbs fs gs row n++ [pick fs (zb2 ((row.length+n:Nat):Int)) (match gs[n]? with
   | some g=>zcH g.1 (zcK fs n (g.2.map fun l=>(zbs fs gs row n).getD l.toNat 0))
   | none=>0)]
theorem zgI (fs:List Flt)(ns:List Int):(rowS fs ns).length=ns.length:=by unfold rowS;rw [List.length_mapIdx]
theorem zdB (fs:List Flt)(k:Int)(ns:List Int):(zcK fs k ns).length=ns.length:=by unfold zcK;rw [List.length_mapIdx]
theorem zj2 (fs:List Flt)(ns:List Int)(v:Int):rowS fs (ns++ [v])=rowS fs ns++ [pick fs (zb2 ns.length) v]:=by unfold rowS;rw [List.mapIdx_concat]
theorem ziG (fs:List Flt)(k:Int)(ns:List Int)(v:Int):zcK fs k (ns++ [v])=zcK fs k ns++ [pick fs (legK k ns.length) v]:=by unfold zcK;rw [List.mapIdx_concat]
theorem zci (fs:List Flt)(gs:List (Str×List Int))(row:List Int):∀ n,(zbs fs gs row n).length=row.length+n
 | 0=>zgI fs row
 | n+1=>by rw [zbs,List.length_append,zci fs gs row n];simp;omega
theorem zjD {fs:List Flt}(hb:∀ f∈fs,f.worth=0∨f.worth=1){ns:List Int}(b:Bits ns):Bits (rowS fs ns):=by
 intro z hz
 unfold rowS at hz
 obtain ⟨i,h,e⟩:=List.mem_mapIdx.mp hz
 rw [← e]
 exact zgL hb (b _ (List.getElem_mem h))
theorem zey {fs:List Flt}(hb:∀ f∈fs,f.worth=0∨f.worth=1){k:Int}{ns:List Int}(b:Bits ns):Bits (zcK fs k ns):=by
 intro z hz
 unfold zcK at hz
 obtain ⟨i,h,e⟩:=List.mem_mapIdx.mp hz
 rw [← e]
 exact zgL hb (b _ (List.getElem_mem h))
theorem zdh {fs:List Flt}(hb:∀ f∈fs,f.worth=0∨f.worth=1){m:Nat}{w:zat}{row:List Int}(wf:WF m w)(hl:(row.length:Int)=w.ins)(b:Bits row):∀ n,n≤w.gates.length→Bits (zbs fs w.gates row n)
 | 0,_=>zjD hb b
 | n+1,h=>by
  have ih:=zdh hb wf hl b n (by omega)
  obtain ⟨g,hg⟩:∃ g,w.gates[n]? =some g:=⟨_,List.getElem?_eq_getElem (by omega)⟩
  rw [zbs,hg]
  intro z hz
  rcases List.mem_append.mp hz with hz | hz
  ·exact ih z hz
  ·rw [List.mem_singleton.mp hz]
   obtain ⟨l1,l2⟩:=wf.legs n g hg
   refine zgL hb (zkR (zey hb fun y hy=>?_) (by rw [zdB,List.length_map];exact l1))
   obtain ⟨l,hl',rfl⟩:=List.mem_map.mp hy
   have:=l2 l hl'
   exact zb6 ih (by rw [zci];omega)
theorem zlp (p:List Key)(v:Int):pick [] p v=v:=rfl
theorem zjy (k:Int)(ns:List Int):zcK [] k ns=ns:=by
 unfold zcK
 refine List.ext_getElem? fun i=>?_
 rw [List.getElem?_mapIdx]
 cases ns[i]? <;> rfl
theorem zef {K:PySem.W.Frag}{H:Hp}{b:Int}:∀ {ks:List Key} {vs:List V},Reps K H vs (ks.map kD++ [.int b])→vs=ks.map kV++ [.int b]
 | [],_,h=>by
  cases h with
  | cons h1 h2=>cases h1;cases h2;rfl
 | .inl n::ks,_,h=>by
  cases h with
  | cons h1 h2=>cases h1;rw [zef h2];rfl
 | .inr n::ks,_,h=>by
  cases h with
  | cons h1 h2=>cases h1;rw [zef h2];rfl
theorem zfo {K:PySem.W.Frag}{H:Hp}{b:Int}:∀ (ks:List Key),Reps K H (ks.map kV++ [.int b]) (ks.map kD++ [.int b])
 | []=>.cons (.int _) .nil
 | .inl n::ks=>.cons (.int _) (zfo ks)
 | .inr n::ks=>.cons (.str _) (zfo ks)
theorem zmV {K:PySem.W.Frag}{H:Hp}{f:Flt}{a:Addr}(h:SqT K H a (f.place.map kV++ [.int f.worth])):Rep K H (.ref a) (fltD f):=.tup h (zfo _)
theorem zkU (xs:List V)(v:V):cutV (xs++ [v]) none (some (-1))=xs:=by
 have e1:HT.sIx (xs++ [v]).length 0 none=0:=rfl
 have e2:HT.sIx (xs++ [v]).length (xs++ [v]).length (some (-1))=xs.length:=by
  simp only [HT.sIx,List.length_append,List.length_singleton]
  rw [if_pos (by decide)]
  omega
 unfold cutV
 rw [e1,e2]
 simp
theorem zkL (xs:List V)(v:V):¬(HT.sIx (xs++ [v]).length 0 none=0∧HT.sIx (xs++ [v]).length (xs++ [v]).length (some (-1))=(xs++ [v]).length):=by
 rintro ⟨_,z⟩
 simp only [HT.sIx,List.length_append,List.length_singleton] at z
 rw [if_pos (by decide)] at z
 omega
theorem zmz (xs:List V)(v:V):atI (xs++ [v]) (-1)=some v:=by
 unfold atI ixN
 have e:((-1:Int)+((xs++ [v]).length:Nat)).toNat=xs.length:=by rw [List.length_append,List.length_singleton];omega
 rw [if_neg (by decide),if_pos (by rw [List.length_append,List.length_singleton];omega),e]
 simp
end My
namespace My
open PySem L2
open PySem.W (Dat kqdP kqdPs kqdOk)
theorem ziC (n:Nat):(zc2 n).length=n:=by
 have:=congrArg List.length (zgA n)
 rw [List.length_map,zcM] at this
 exact this
theorem zkE {w:zat}{f:Flt}(n:Nat)(h:zed w f):kqdOk (n+1) (fltD f)=true:=zkG n (zlg h)
theorem zkQ {w:zat}{fs:List Flt}(h:∀ f∈fs,zed w f)(n:Nat):kqdOk (n+2) (.list (fs.map fltD))=true:=by
 show (fs.map fltD).all (kqdOk (n+1))=true
 refine List.all_eq_true.mpr fun d hd=>?_
 obtain ⟨f,hf,rfl⟩:=List.mem_map.mp hd
 exact zkE n (h f hf)
theorem k_bb (K:PySem.W.Frag):PySem.W.kitOne K (.type "bool") (.type "bool")=some true:=by kernel_rfl
theorem zi2 {H H':Hp}(s:Same H H'){xs:List V}{kvs:List (List Key×V)}(h:zeF H xs kvs):zeF H' xs kvs:=Paired.mapP h fun _ _ ⟨p,kt,e,h1,h2⟩=>⟨p,kt,e,s _ _ h1,h2.same s⟩
theorem zhF {H:Hp}{D:Addr}{l:List V}{o:HO}(hD:H D=some (.lst l)){xs:List V}{kvs:List (List Key×V)}(h:zeF H xs kvs):zeF (upd H D o) xs kvs:=Paired.mapP h fun _ _ ⟨p,kt,e,h1,h2⟩=>
 ⟨p,kt,e,by rw [zai (zi3 h1 hD (fun z=>nomatch z))];exact h1,h2.write hD⟩
theorem zg7:∀ (fs gs:List Flt),zgF (gs++fs)→zeK (tabV gs) (tabV fs)=tabV (gs++fs)
 | [],gs,_=>by rw [List.append_nil];rfl
 | f::fs,gs,h=>by
  have nl:look gs f.place=none:=zjA fun z=>by
   unfold zgF at h
   rw [List.map_append] at h
   exact (List.nodup_append.mp h).2.2 _ z _ (List.mem_map.mpr ⟨f,.head _,rfl⟩) rfl
  have nv:valV (tabV gs) f.place=none:=by rw [zhK,nl];rfl
  show zeK (putK (tabV gs) f.place (V.int f.worth)) (tabV fs)=_
  rw [zeR _ nv]
  have e:tabV gs++ [(f.place,V.int f.worth)]=tabV (gs++ [f]):=by unfold tabV;rw [List.map_append];rfl
  rw [e,zg7 fs (gs++ [f]) (by rw [List.append_assoc];exact h),List.append_assoc]
  rfl
end My
namespace L2
end L2
namespace My
open PySem L2
open PySem.W (Dat kqdP kqdPs kqdOk)
theorem zd2 (fs:List Flt)(ws:List (Str×List Int))(row:List Int){i n:Nat}(h:i < row.length+n):∀ m,n≤m→(zbs fs ws row m)[i]? =(zbs fs ws row n)[i]?
 | 0,hm=>by
  have:n=0:=by omega
  subst this
  rfl
 | m+1,hm=>by
  by_cases e:n=m+1
  ·subst e
   rfl
  ·rw [zbs,List.getElem?_append_left (by rw [zci];omega),zd2 fs ws row h m (by omega)]
end My
namespace My
open PySem L2
open PySem.W (Dat kqdP kqdPs kqdOk)
end My
namespace My
open PySem L2
open PySem.W (Dat kqdP kqdPs kqdOk)
noncomputable abbrev Gts:=List (Str×List Int)
section
variable {ins:Int} {gl:Gts} {row:List Int} {w:Int} {x:Str} {ls:List Int}
end
section
variable {ins n0:Int} {gl:Gts} {ss:List Int} {one other b l r:Int}
end
section
variable {K:PySem.W.Frag} {M:List Addr} {m D T:Addr} {ins:Int} {gl:Gts} {G H:Hp} {o:HO}
end
end My
namespace My
open PySem L2
end My
namespace My
open PySem L2
open PySem.W (Dat kqdP kqdPs kqdOk)
theorem look1 (p q:List Key)(b:Int):look [⟨p,b⟩] q=if p=q then some b else none:=by
 unfold look
 by_cases e:p=q
 ·rw [if_pos e,List.find?_cons_of_pos (by simpa using e)]
  rfl
 ·rw [if_neg e,List.find?_cons_of_neg (by simpa using e)]
  rfl
theorem zl5 {p q:List Key}(b x:Int)(h:p≠q):pick [⟨p,b⟩] q x=x:=by
 unfold pick
 rw [look1,if_neg h]
 rfl
theorem zjl {p:List Key}{b:Int}{k:Int}(h:∀ i:Int,p≠legK k i)(ns:List Int):zcK [⟨p,b⟩] k ns=ns:=by
 unfold zcK
 refine List.ext_getElem? fun i=>?_
 rw [List.getElem?_mapIdx]
 cases ns[i]? with
 | none=>rfl
 | some x=>
  show some (pick _ _ _)=some x
  rw [zl5 b x (h i)]
noncomputable def sh (W l:Int):Int:=l+(if W≤l then 1 else 0)
noncomputable def turned (W:Int) (g p n:Nat) (ls:List Int):List Int:=if n=g then (ls.map (sh W)).set p W else ls.map (sh W)
noncomputable def allF (w:zat):List Flt:=(zco w).flatMap fun p=>[⟨p,0⟩,⟨p,1⟩]
theorem allF_D (w:zat):(allF w).map fltD=zew w:=by
 rw [← zc5,← zeq]
 unfold allF zdO
 rw [List.map_flatMap,List.flatMap_map]
 rfl
theorem zbM {w:zat}{f:Flt}(h:f∈allF w):zed w f:=by
 unfold allF at h
 obtain ⟨p,hp,hf⟩:=List.mem_flatMap.mp h
 rcases List.mem_cons.mp hf with rfl | hf
 ·exact ⟨hp,.inl rfl⟩
 ·rw [List.mem_singleton.mp hf]
  exact ⟨hp,.inr rfl⟩
theorem ziR {w:zat}{f:Flt}(h:zed w f):(∃ i:Nat,i < w.ins.toNat+w.gates.length∧f.place=zb2 i)∨∃ g p:Nat,∃ gt,w.gates[g]? =some gt∧p < gt.2.length∧f.place=legK g p:=by
 rcases List.mem_append.mp h.1 with h | h
 ·obtain ⟨i,hi,e⟩:=zdH h
  exact .inl ⟨i,hi,e⟩
 ·obtain ⟨k,i,hk,hi,e⟩:=zdN h
  rw [List.getElem?_eq_getElem hk] at hi
  exact .inr ⟨k,i,_,List.getElem?_eq_getElem hk,hi,e⟩
end My
namespace L2
end L2
namespace L2
open PySem PySem.Spec PyProof.Rows
theorem zcW (h:Heap):∀ fs:List Addr,∃ B:Heap,∀ b,(b∈fs→B.get? b=none)∧(b∉fs→B.get? b=h.get? b)
 | []=>⟨h,fun b=>⟨(fun z=>(nomatch z)),fun _=>rfl⟩⟩
 | a::r=>by
  obtain ⟨B,hB⟩:=zcW h r
  refine ⟨B.update a fun o=>{o with data:=.freed},fun b=>⟨fun z=>?_,fun z=>?_⟩⟩
  ·by_cases e:b=a
   ·subst e
    obtain ⟨objs,l⟩:=B
    unfold Heap.update Heap.get?
    rw [Array.getElem?_modify,if_pos rfl]
    cases objs[b]? <;> rfl
   ·rw [Heap.get?_update_other _ _ (Ne.symm e)]
    exact (hB b).1 ((List.mem_cons.mp z).resolve_left e)
  ·have e:b≠a:=fun q=>z (q ▸ .head _)
   rw [Heap.get?_update_other _ _ (Ne.symm e)]
   exact (hB b).2 fun q=>z (.tail _ q)
theorem zc6 {h h' base base':Heap}:∀ {l:List Env},h.FunFrames base l→(∀ b∈frs l,∀ o,h.get? b=some o→∃ sl,h'.get? b=some {o with slots:=sl})→(∀ b∈frs l,base'.get? b=none)→h'.FunFrames base' l
 | [],_,_,_=>trivial
 | env::r,hl,k,kb=>by
  obtain ⟨hk,⟨L,o,hf,hn,ho,hd⟩,hr⟩:=hl
  have hm:∀ b,b∈frs r→b∈frs (env::r):=fun b z=>by
   unfold frs at z ⊢
   rw [List.filterMap_cons,hf]
   exact .tail _ z
  have hL:L∈frs (env::r):=by
   unfold frs
   rw [List.filterMap_cons,hf]
   exact .head _
  obtain ⟨sl,hs⟩:=k L hL o ho
  exact ⟨hk,⟨L,_,hf,kb L hL,hs,hd⟩,zc6 hr (fun b z=>k b (hm b z)) fun b z=>kb b (hm b z)⟩
structure Air (C:Value) (h0:Heap) (x:Addr) (H':Hp) (h:Heap):Prop where
 newx:h0.get? x=none
 hx:H' x=none
 tr:∃ T a0 oe vs oT ts,h.get? x=some oe∧(oe.cls=C∧vs[0]? =some a0)∧oe.data= .fields vs∧vs[1]? =some (.ref T)∧h0.get? T=none∧H' T=none∧T≠x∧h.get? T=some oT∧oT.data= .fields ts∧ts[3]? =some .none
noncomputable def CXC (P:Program) (w:World) (C:Value):CXT:=fun outer H s E e s'=>∃ x H',e= .ref x∧s'.os=s.os∧AllBare s'.gens∧Un (frs outer) [] H H' s.heap s'.heap∧HOk P w H' s'.heap∧Air C s.heap x H' s'.heap∧E e (some x) H'
theorem zbm.there {P:Program}{w:World}{H:Hp}{h:Heap}{a:Addr}{o:HO}(x:zbm P w H h a o):∃ ob,h.get? a=some ob:=by
 cases o with
 | lst xs=>obtain ⟨_,_,_,_,e⟩:=x;exact ⟨_,e⟩
 | tup xs=>obtain ⟨_,_,_,ob,e,_⟩:=x;exact ⟨_,e⟩
 | dK kvs=>obtain ⟨_,_,_,_,o,_,_,e,_⟩:=x;exact ⟨_,e⟩
 | dT kvs=>obtain ⟨_,_,_,_,o,_,_,e,_⟩:=x;exact ⟨_,e⟩
 | set S n=>obtain ⟨o,_,_,_,e,_⟩:=x;exact ⟨_,e⟩
 | ins C dx fs=>obtain ⟨_,_,_,e,_⟩:=x;exact ⟨_,e⟩
 | own y=>obtain ⟨_,e⟩:=x;exact ⟨_,e⟩
 | xd fs=>obtain ⟨_,⟨_,_,_,e,_⟩,_⟩:=x;exact ⟨_,e⟩
 | rng lo hi=>obtain ⟨_,_,_,e⟩:=x;exact ⟨_,e⟩
 | frz ob u=>obtain ⟨e,_⟩:=x;exact ⟨_,e⟩
 | tbl ps=>exact ⟨_,x⟩
 | met f y=>exact ⟨_,x⟩
 | ext φ =>obtain ⟨_,⟨_,e⟩,_⟩:=x;exact ⟨_,e⟩
theorem Un.left {fs:List Addr}{H H':Hp}{h h' h'':Heap}{x T:Addr}(u:Un fs [] H H' h h')(nx:h.get? x=none)(nT:h.get? T=none)(k:∀ b o,b∉fs→b≠x→b≠T→h'.get? b=some o→h''.get? b=some o)
  (ks:∀ b o,b∈fs→h'.get? b=some o→∃ sl,h''.get? b=some {o with slots:=sl}):Un fs [] H H' h h'':=by
 have nn:∀ {b o},h.get? b=some o→b≠x∧b≠T:=fun {b o} e=>⟨(fun z=>by rw [z,nx] at e;cases e),(fun z=>by rw [z,nT] at e;cases e)⟩
 refine ⟨fun b o e n hb hx=>k b o hb (nn e).1 (nn e).2 (u.keep b o e n hb hx),fun b o e n hb hx=>?_,u.free,fun b o e hx=>?_,u.tups,u.frzs,u.tbls⟩
 ·obtain ⟨sl,q⟩:=u.slot b o e n hb hx
  obtain ⟨sl',q'⟩:=ks b _ hb q
  exact ⟨sl',q'⟩
 ·obtain ⟨o',q⟩:=u.there b o e hx
  by_cases hb:b∈fs
  ·obtain ⟨sl,q'⟩:=ks b o' hb q
   exact ⟨_,q'⟩
  ·exact ⟨o',k b o' hb (nn e).1 (nn e).2 q⟩
theorem HOk.left {P:Program}{w:World}{fs:List Addr}{H':Hp}{h' h'':Heap}{x T:Addr}(ok:HOk P w H' h')(nf:∀ b∈fs,H' b=none)(nx:H' x=none)(nT:H' T=none)(k:∀ b o,b∉fs→b≠x→b≠T→h'.get? b=some o→h''.get? b=some o):HOk P w H' h'':=fun a o e=>by
 have key:∀ b u,H' b=some u→∀ q,h'.get? b=some q→h''.get? b=some q:=fun b u e q eq=>k b q (fun z=>by rw [nf b z] at e;cases e) (fun z=>by rw [z,nx] at e;cases e) (fun z=>by rw [z,nT] at e;cases e) eq
 refine (ok a o e).stay (fun b u hb q=>?_) (fun _ q=>q) fun _ _ q=>q
 rcases hb with rfl | hb
 ·exact key _ _ e u q
 ·exact key _ _ hb u q
section
variable {P:Program} {w:World} {C:Value} {M:Model} {A:Around} {env:Env} {outer:List Env} {L:Addr} {H:Hp} {s s':Shared} {E:XK} {e:Value} {base:Heap} {E1:Value→Shared→Prop}
theorem ziM (hfr:A.frames=some (env::outer))(hf:env.frame=some L)(fun0:s.heap.FunFrames base (env::outer))(frf:∀ b∈frs (env::outer),H b=none)(cx:CXC P w C (env::outer) H s E e s'):
  wpAny M A (leaving env e) (fun _ s''=>CXC P w C (env::outer) H s E e s'') E1 s':=by
 obtain ⟨x,H',rfl,hos,hb,un,ok,⟨newx,hx,T,a0,oe,vs,oT,ts,ex,ec,ed,e1,nT,hT,Tx,eT,edT,e3⟩,q⟩:=cx
 obtain ⟨B,hB⟩:=zcW s'.heap (x::T::frs (env::outer))
 have fr0:∀ b∈frs (env::outer),∃ o,s.heap.get? b=some o∧∀ vs,o.data≠.fields vs:=fun b z=>(fun0.mem z).2
 have frs':∀ b∈frs (env::outer),H' b=none:=fun b z=>by
  obtain ⟨o,ho,_⟩:=fr0 b z
  exact un.free b o ho (frf b z) (by simp)
 have fl:s'.heap.FunFrames B (env::outer):=zc6 fun0 (fun b z o ho=>un.slot b o ho (frf b z) z (by simp)) fun b z=>(hB b).1 (.tail _ (.tail _ z))
 have st:B.StaysIn s'.heap:=fun b o hb=>by
  by_cases z:b∈x::T::frs (env::outer)
  ·rw [(hB b).1 z] at hb;cases hb
  ·rw [(hB b).2 z] at hb;exact hb
 refine wpAny_leaving_nextW (base:=B) (cls:=C) (a0:=a0) hfr fl hf ⟨oe,vs,T,oT,ts,ex,ec,ed,e1,(hB T).1 (.tail _ (.head _)),Tx,eT,edT,e3⟩ st ((hB x).1 (.head _)) fun h'' hL=>?_
 obtain ⟨k1,k2,⟨oe',vs',T',oT',ts',ex',ec',ed',e1',nT',Tx',eT',edT',e3'⟩,k4⟩:=hL
 have k:∀ b o,b∉frs (env::outer)→b≠x→b≠T→s'.heap.get? b=some o→h''.get? b=some o:=fun b o n1 n2 n3 eb=>k1 b o (by
  rw [(hB b).2 fun z=>by
   rcases List.mem_cons.mp z with z | z
   ·exact n2 z
   ·rcases List.mem_cons.mp z with z | z
    ·exact n3 z
    ·exact n1 z]
  exact eb)
 have ks:∀ b o,b∈frs (env::outer)→s'.heap.get? b=some o→∃ sl,h''.get? b=some {o with slots:=sl}:=fun b o z eb=>k4 b o eb (by
  obtain ⟨_,o2,h2,h3⟩:=fl.mem z
  rw [eb] at h2
  cases h2
  exact h3)
 have Tf:T'∉frs (env::outer):=fun z=>by
  obtain ⟨_,o2,h2,h3⟩:=k2.mem z
  rw [eT'] at h2
  cases h2
  exact h3 _ edT'
 have gT:s'.heap.get? T'=none∨T'=T:=by
  by_cases z:T'=T
  ·exact .inr z
  ·refine .inl ?_
   rw [← (hB T').2 fun y=>?_]
   ·exact nT'
   ·rcases List.mem_cons.mp y with y | y
    ·exact Tx' y
    ·rcases List.mem_cons.mp y with y | y
     ·exact z y
     ·exact Tf y
 have n0:s.heap.get? T'=none:=by
  rcases gT with g | rfl
  ·cases z:s.heap.get? T' with
   | none=>rfl
   | some o=>
    obtain ⟨o',y⟩:=un.there T' o z (by simp)
    rw [g] at y
    cases y
  ·exact nT
 have n1:H' T'=none:=by
  rcases gT with g | rfl
  ·cases z:H' T' with
   | none=>rfl
   | some o=>
    obtain ⟨ob,y⟩:=(ok T' o z).there
    rw [g] at y
    cases y
  ·exact hT
 exact ⟨x,H',rfl,hos,hb,un.left newx nT k ks,ok.left frs' hx hT k,⟨newx,hx,T',a0,oe',vs',oT',ts',ex',ec',ed',e1',n0,n1,Tx',eT',edT',e3'⟩,q⟩
end
theorem CXC.up {X:Cx}{pins:List (Addr×Obj)}{σ :St}{H:Hp}{s s':Shared}{C:Value}{E:XK}{e:Value}(I:Inv X pins σ H s)(hx:X.ex= [])(cx:CXC X.prog X.w C X.stack H s E e s'):CXC X.prog X.w C X.outer X.H₀ X.s₀ E e s':=by
 obtain ⟨x,H',rfl,hos,hb,un,ok,⟨newx,hx',T,a0,oe,vs,oT,ts,ex,ec,ed,e1,nT,hT,Tx,eT,edT,e3⟩,q⟩:=cx
 have J:=I.call' hos un ok hb (fun b z=>absurd z (by simp))
 have nn:∀ {b:Addr},s.heap.get? b=none→X.s₀.heap.get? b=none:=fun {b} z=>by
  cases y:X.s₀.heap.get? b with
  | none=>rfl
  | some o=>
   obtain ⟨o',y'⟩:=I.base.there b o y (by rw [hx];simp)
   rw [z] at y'
   cases y'
 have jb:=J.base
 rw [hx] at jb
 exact ⟨x,H',rfl,J.os,J.bare,jb,J.hok,⟨nn newx,hx',T,a0,oe,vs,oT,ts,ex,ec,ed,e1,nn nT,hT,Tx,eT,edT,e3⟩,q⟩
theorem zdk {P:Program}{w:World}{H:Hp}{h:Heap}(ok:HOk P w H h){a:Addr}(e:h.get? a=none):H a=none:=by
 cases z:H a with
 | none=>rfl
 | some o=>
  obtain ⟨ob,y⟩:=(ok a o z).there
  rw [e] at y
  cases y
section
variable {P:Program} {w:World} {M:Model} {A:Around} {env:Env} {outer:List Env} {L C x:Addr} {H:Hp} {s:Shared} {E:XK} {base h':Heap} {E1:Value→Shared→Prop} {us:List Value}
theorem zhG (hfr:A.frames=some (env::outer))(hf:env.frame=some L)(fun0:s.heap.FunFrames base (env::outer))(frf:∀ b∈frs (env::outer),H b=none)(ok:HOk P w H s.heap)(hg:AllBare s.gens)(mx:Heap.MadeExcOf s.heap h' x (.ref C) us)(q:E (.ref x) (some x) H):
  wpAny M A (leaving env (.ref x)) (fun _ s''=>CXC P w (.ref C) (env::outer) H s E (.ref x) s'') E1 {s with heap:=h'}:=by
 obtain ⟨keeps,newx,t,ex,nt,et⟩:=mx
 have hx:H x=none:=zdk ok newx
 obtain ⟨B,hB⟩:=zcW h' (x::frs (env::outer))
 have fl:h'.FunFrames B (env::outer):=zc6 fun0 (fun b z o ho=>⟨o.slots,keeps b o ho⟩) fun b z=>(hB b).1 (.tail _ z)
 have st:B.StaysIn h':=fun b o hb=>by
  by_cases z:b∈x::frs (env::outer)
  ·rw [(hB b).1 z] at hb;cases hb
  ·rw [(hB b).2 z] at hb;exact hb
 refine wpAny_leaving_firstW (base:=B) (s:={s with heap:=h'}) (a0:=.ref t) hfr fl hf ex st ((hB x).1 (.head _)) rfl rfl rfl fun h'' hL=>?_
 obtain ⟨k1,k2,⟨oe',vs',T',oT',ts',ex',ec',ed',e1',nT',Tx',eT',edT',e3'⟩,k4⟩:=hL
 have k:∀ b o,b∉frs (env::outer)→b≠x→b≠x→h'.get? b=some o→h''.get? b=some o:=fun b o n1 n2 _ eb=>k1 b o (by
  rw [(hB b).2 fun z=>by
   rcases List.mem_cons.mp z with z | z
   ·exact n2 z
   ·exact n1 z]
  exact eb)
 have ks:∀ b o,b∈frs (env::outer)→h'.get? b=some o→∃ sl,h''.get? b=some {o with slots:=sl}:=fun b o z eb=>k4 b o eb (by
  obtain ⟨_,o2,h2,h3⟩:=fl.mem z
  rw [eb] at h2
  cases h2
  exact h3)
 have Tf:T'∉frs (env::outer):=fun z=>by
  obtain ⟨_,o2,h2,h3⟩:=k2.mem z
  rw [eT'] at h2
  cases h2
  exact h3 _ edT'
 have g0:h'.get? T'=none:=by
  rw [← (hB T').2 fun y=>?_]
  ·exact nT'
  ·rcases List.mem_cons.mp y with y | y
   ·exact Tx' y
   ·exact Tf y
 have n0:s.heap.get? T'=none:=by
  cases z:s.heap.get? T' with
  | none=>rfl
  | some o=>
   have y:=keeps _ _ z
   rw [g0] at y
   cases y
 exact ⟨x,H,rfl,rfl,hg,(Un.kept keeps).left newx newx k ks,(ok.kept keeps).left (fun b z=>frf b z) hx hx k,⟨newx,hx,T',.ref t,oe',vs',oT',ts',ex',ec',ed',e1',n0,zdk ok n0,Tx',eT',edT',e3'⟩,q⟩
end
theorem zli {K:PySem.W.Frag}{h:Heap}{C:Addr}{bB:List Value}{nid:String}(X:K.In h)(q:PySem.W.excIn K C bB nid=true):
  ∃ tl N nm qn bs hd sn sub ab col dd a0 a1 a2 a3 a5 mN,h.get? C=some (excClassObj nm qn C N bs tl hd sn sub ab col dd a0 a1 a2 a3 a5 nid)∧h.Ns N mN∧mN "__init__" =none∧OwnTail h bB tl:=by
 unfold PySem.W.excIn at q
 split at q
 case h_2=>cases q
 case h_1 dd cd sl ho=>
  split at q
  case h_2=>cases q
  case h_1 C2 tl a0 a1 a2 a3 nn a5 hm hs=>
   simp only [Bool.and_eq_true,beq_iff_eq,Bool.not_eq_true'] at q
   obtain ⟨⟨⟨⟨⟨w1,w2⟩,w3⟩,w4⟩,w5⟩,w6⟩:=q
   subst w1 w2
   cases cd with
   | mk nm bs mro ns qn hd sn sub ab col del=>
    dsimp only at hm w3 w5 w6
    subst hm w3
    have e:sl= #[a0,a1,a2,a3,some (.builtin nn),a5]:=by
     cases sl with
     | mk l=>exact congrArg Array.mk hs
    subst e
    exact ⟨tl,ns,nm,qn,bs,hd,sn,sub,ab,col,dd,a0,a1,a2,a3,a5,_,X _ _ ho,Heap.Ns.of_isNs (PySem.W.isNs_of_in X w5),PySem.W.nsMap_none_of_in X w5 w6,PySem.W.tail_of_in X w4⟩
noncomputable def zgy (C:Addr) (X:Cx) (E:XK):Prop:=∀ (pins:List (Addr×Obj)) (σ :St) (H:Hp) (s:Shared) (h':Heap) (x:Addr) (us:List Value),Inv X pins σ H s→Heap.MadeExcOf s.heap h' x (.ref C) us→E (.ref x) (some x) H→X.xe (.ref x) {s with heap:=h'}
noncomputable def zlJ (E:XK) (t:TA):TS:=fun _ σ H=>t σ H fun vs H1=>vs.length≤sizeLine∧∀ x,H1 x=none→E (.ref x) (some x) H1
section
variable {X:Cx} {C:Addr} {E:XK} {B nid iid:String} {bB:List Value} {x:Str} {np cpos pos:Pos} {e:Expr} {es:List Expr} {t:TA}
theorem zlA (F:ExcBaseFacts B nid iid bB)(hc:PySem.W.excIn X.K C bB nid=true)(hcalm:X.calm=true)(hg:Gl X x)(hm:X.mg x=some (.ref C))(hx:zgy C X E)(ha:PA X (e::es) t)(hdb:(x==("__debug__" :Str))=false:=by decide)
  (he:starEach (e::es) X.env=(false,eval e X.env)::starEach es X.env:=by rfl) (hpl:(backTo cpos (starEach es X.env)).any (·.1)=false:=by rfl):PS X (.Raise (some (.Call (.Name x np) (e::es) [] cpos)) none pos) (zlJ E t):=by
 intro pins s σ H D I h
 obtain ⟨tl,N,nm,qn,bs,hd,sn,sub,ab,col,dd,a0,a1,a2,a3,a5,mN,oC,oN,oi,oT⟩:=zli I.ok.mod.kin hc
 have hplain:(backTo cpos (starEach (e::es) X.env)).any (·.1)=false:=by
  rw [he]
  show (false || (backTo cpos (starEach es X.env)).any (·.1))=false
  rw [hpl]
  rfl
 refine wpAny_Raise_call_subT (C:=C) (nm:=nm) (q:=qn) (N:=N) (bs:=bs) (bm:=tl) (hdct:=hd) (sn:=sn) (sub:=sub) (ab:=ab) (col:=col) (dd:=dd) (k0:=a0) (k1:=a1) (k2:=a2) (k3:=a3) (k5:=a5) F (mN:=mN) (oT.hasType F.hasBase) (I.ok.hd hcalm) hplain oi (zft I hg hm ⟨rfl,?_⟩ hdb)
 have z:=ha cpos pins s σ H _ I h
 rw [he] at z ⊢
 refine Calls.evalArgs_plain (thn z fun us s1 ⟨vs,H1,I1,r,q1,q2⟩=>⟨rfl,by rw [← r.length];exact q1,I1.bk _ _ oC,oN.keeps I1.bk,oT.keeps I1.bk,fun h2 x2 mx=>?_⟩)
 exact hx pins σ H1 s1 h2 x2 us I1 mx (q2 x2 (zdk I1.hok mx.new))
end
section
variable {P:Program} {w:World} {K:PySem.W.Frag} {mg:Str→Option Value} {base:Heap} {N:List Str} {qual:Str} {scope:Scope} {f C:Addr} {cd:Value} {A:Around} {outer:List Env} {s:Shared} {H:Hp} {E:XK}
theorem zmm:zgO (CXC P w (.ref C)) (cxOf (CXC P w (.ref C)) P w K mg base N qual scope f cd A outer s H E) E:=fun pins σ H1 s1 e s' I cx=>by
 refine wpAny_mono (ziM I.ok.frames rfl I.env0.funs I.stkFree cx) (fun _ s2 cx2=>?_) fun _ _ z=>z
 exact CXC.up (X:=cxOf (CXC P w (.ref C)) P w K mg base N qual scope f cd A outer s H E) I rfl cx2
theorem raiseC:zgy C (cxOf (CXC P w (.ref C)) P w K mg base N qual scope f cd A outer s H E) E:=fun pins σ H1 s1 h' x us I mx q=>by
 refine wpAny_mono (zhG I.ok.frames rfl I.env0.funs I.stkFree I.hok I.bare mx q) (fun _ s2 cx2=>?_) fun _ _ z=>z
 exact CXC.up (X:=cxOf (CXC P w (.ref C)) P w K mg base N qual scope f cd A outer s H E) I rfl cx2
end
section
variable {X:Cx}
theorem zkr {C:Addr}{E:XK}{B nid iid:String}{bB:List Value}{x:Str}{np cpos pos:Pos}{e:Expr}{es:List Expr}{t:TA}(F:ExcBaseFacts B nid iid bB)(hc:PySem.W.excIn X.K C bB nid=true)(hcalm:X.calm=true)(hg:Gl X x)(hm:X.mg x=some (.ref C))(hx:zgy C X E)(ha:Bx (PA X (e::es) t))(hdb:(x==("__debug__" :Str))=false:=by decide)
  (he:starEach (e::es) X.env=(false,eval e X.env)::starEach es X.env:=by rfl) (hpl:(backTo cpos (starEach es X.env)).any (·.1)=false:=by rfl):Bx (PS X (.Raise (some (.Call (.Name x np) (e::es) [] cpos)) none pos) (zlJ E t)):=⟨zlA F hc hcalm hg hm hx ha.1 hdb he hpl⟩
end
section
variable {P:Program} {w:World} {K:PySem.W.Frag} {mg:Str→Option Value} {base:Heap}
theorem Fun.okC {x qual:Str}{st:Stmt}{f C:Addr}{fd:FuncData}{N ps:List Str}{k:Nat}{sp:Sp}(F:Fun K x qual st f fd)(S:zax N ps (zag st))(len:∀ vs H Q E,sp vs H Q E→vs.length=ps.length)
  (hbody:∀ (cdv:Value) (A:Around) (outer:List Env) (s:Shared) (H:Hp) (vs:List V) (Q:VK) (E:XK),Room k (A.deeper (envOfC qual (zag st) s.heap.objs.size f cdv))→sp vs H Q E→
   ∃ t,Bx (PSs (cxOf (CXC P w (.ref C)) P w K mg base N qual (zag st) f cdv A outer s H E) (zap st) t)∧t {nx:=fun _ H2=>Q .non H2,rt:=Q} (start N vs) H):FnOk P w K mg base (CXC P w (.ref C)) (k+1) f fd ps sp:=by
 obtain ⟨oc,od,kV,doc,pm,an,cdv,ct,osl,rfl,lk,hcd⟩:=F.ex
 refine zmJ lk hcd S len fun A outer s H vs Q E hr hsp=>?_
 obtain ⟨t,h,q⟩:=hbody cdv A outer s H vs Q E hr hsp
 exact ⟨t,h.1,q⟩
variable {N:List Str} {qual:Str} {scope:Scope} {f C:Addr} {cd:Value} {A:Around} {outer:List Env} {s:Shared} {H:Hp} {E:XK}
end
end L2
namespace L2
open PySem PySem.Spec PyProof.Rows
noncomputable def zhI (K:PySem.W.Frag) (C:Addr):List Value:=match K.lookup C with
 | some ⟨_,_,.cls cd,_⟩=>cd.mro
 | _=>[]
theorem zdw {K:PySem.W.Frag}{h:Heap}{C:Addr}{bB:List Value}{nid:String}(X:K.In h)(q:PySem.W.excIn K C bB nid=true):
  ∃ tl N nm qn bs hd sn sub ab col dd a0 a1 a2 a3 a5,h.get? C=some (excClassObj nm qn C N bs tl hd sn sub ab col dd a0 a1 a2 a3 a5 nid)∧zhI K C= .ref C::tl∧OwnTail h bB tl:=by
 unfold PySem.W.excIn at q
 split at q
 case h_2=>cases q
 case h_1 dd cd sl ho=>
  split at q
  case h_2=>cases q
  case h_1 C2 tl a0 a1 a2 a3 nn a5 hm hs=>
   simp only [Bool.and_eq_true,beq_iff_eq,Bool.not_eq_true'] at q
   obtain ⟨⟨⟨⟨⟨w1,w2⟩,w3⟩,w4⟩,w5⟩,w6⟩:=q
   subst w1 w2
   have em:zhI K C2= .ref C2::tl:=by
    unfold zhI
    rw [ho]
    exact hm
   cases cd with
   | mk nm bs mro ns qn hd sn sub ab col del=>
    dsimp only at hm w3 w5 w6
    subst hm w3
    have e:sl= #[a0,a1,a2,a3,some (.builtin nn),a5]:=by
     cases sl with
     | mk l=>exact congrArg Array.mk hs
    subst e
    exact ⟨tl,ns,nm,qn,bs,hd,sn,sub,ab,col,dd,a0,a1,a2,a3,a5,X _ _ ho,em,PySem.W.tail_of_in X w4⟩
section
variable {M:Model} {A:Around} {E:Value→Shared→Prop}
variable {nm q nm2 q2:Str} {C N S N2:Addr} {bs bm bs2 bm2:List Value} {hdct hd2:Bool} {sn sn2:List Str} {sub sub2:List Value} {ab ab2:Bool} {col col2:Option Bool} {dd dd2:Option Addr} {k0 k1 k2 k3 k5 l0 l1 l2 l3 l5:Option Value} {newId newId2:String}
end
end L2
namespace L2
open PySem PySem.Spec PyProof.Rows
noncomputable def excO (x C:Addr):HO:=.ext fun h=>∃ ob,h.get? x=some ob∧ob.cls= .ref C
theorem Un.track {P:Program}{w:World}{fs:List Addr}{H H':Hp}{h h':Heap}{x:Addr}{o:HO}(u:Un fs [] H H' h h')(nx:h.get? x=none)(ok:HOk P w H h):Un fs [] H (upd H' x o) h h':=by
 have ne:∀ {b ob},h.get? b=some ob→b≠x:=fun {b ob} e z=>by rw [z,nx] at e;cases e
 have ne2:∀ {b ob},H b=some ob→b≠x:=fun {b ob} e=>by
  obtain ⟨q,hq⟩:=(ok b ob e).there
  exact ne hq
 exact ⟨u.keep,u.slot,fun b ob e n hx=>by rw [zai (ne e)];exact u.free b ob e n hx,u.there,fun b xs e=>by rw [zai (ne2 e)];exact u.tups b xs e,fun b ob v e=>by rw [zai (ne2 e)];exact u.frzs b ob v e,fun b ps e=>by
  obtain ⟨more,z⟩:=u.tbls b ps e
  exact ⟨more,by rw [zai (ne2 e)];exact z⟩⟩
theorem HOk.track {P:Program}{w:World}{H':Hp}{h:Heap}{x:Addr}{o:HO}(ok:HOk P w H' h)(nx:H' x=none)(new:zbm P w (upd H' x o) h x o):HOk P w (upd H' x o) h:=fun a ob e=>by
 have ne:∀ {b u},H' b=some u→b≠x:=fun {b u} q z=>by rw [z,nx] at q;cases q
 by_cases z:a=x
 ·subst z
  rw [zab] at e
  cases e
  exact new
 ·rw [zai z] at e
  exact (ok a ob e).stay (fun _ _ _ q=>q) (fun b q=>by rw [zai (ne q)];exact q) fun b xs q=>q.keep fun u eu _=>by rw [zai (ne eu)];exact eu
section
variable {X:Cx} {pins:List (Addr×Obj)} {σ :St} {H:Hp} {s:Shared}
theorem zgM {M:Model}{A:Around}{E:Value→Shared→Prop}{j:Nat}{n:Str}{pos:Pos}{Q:Unit→Shared→Prop}(I:Inv X pins σ H s)(hN:X.N.Nodup)(hj:X.N[j]? =some n)(hk:X.env.scope.names.lookup n=some .local)
  (h:∀ s',Inv X pins (σ.set j none) H s'→Q () s'):wpAny M A (do bindName X.env n .none;unbindBehindTheSuite X.env n pos) Q E s:=by
 obtain ⟨m,hn,hl⟩:=id I.loc
 have hc:(X.env.scope.kind== .class || (X.env.scope.kind== .module && X.env.locals !=X.env.globals))=false:=by rw [I.ok.kind];rfl
 refine wpAny_nameGoes_keeps hk hn hc fun h' v hn' hs=>h _ ?_
 obtain ⟨oL,_,_,hoL,_⟩:=id hn
 have low:∀ {b o},X.s₀.heap.get? b=some o→b≠X.env.locals:=fun {b o} e=>Nat.ne_of_lt (Nat.lt_of_lt_of_le (Heap.lt_size e) I.ok.above)
 refine ⟨I.ok,I.os,I.bare,⟨fun b o e n1 hb hx=>(hs.2 b (low e)).trans (I.base.keep b o e n1 hb hx),fun b o e n1 hb hx=>?_,I.base.free,fun b o e hx=>?_,I.base.tups,I.base.frzs,I.base.tbls⟩,⟨_,hn',fun i y v' e1 e2 e3=>?_⟩,fun y c e=>?_,I.free,I.freeC,fun p hp=>?_,fun b ob e=>?_,by simpa using I.len⟩
 ·obtain ⟨sl,q⟩:=I.base.slot b o e n1 hb hx
  exact ⟨sl,(hs.2 b (low e)).trans q⟩
 ·obtain ⟨o',q⟩:=I.base.there b o e hx
  exact ⟨o',(hs.2 b (low e)).trans q⟩
 ·by_cases z:i=j
  ·subst z
   have li:i < σ.length:=by rw [I.len];exact (List.getElem?_eq_some_iff.mp hj).1
   rw [List.getElem?_set_self li] at e2
   cases e2
  ·rw [List.getElem?_set_ne (Ne.symm z)] at e2
   obtain ⟨u,r,q⟩:=hl i y v' e1 e2 e3
   have yn:y≠n:=fun q=>z (zgs hN e1 (q ▸ hj))
   refine ⟨u,r,?_⟩
   rcases q with ⟨q1,q2⟩ | ⟨q1,c,q2,q3⟩
   ·exact .inl ⟨q1,(if_neg yn).trans q2⟩
   ·exact .inr ⟨q1,c,q2,q3.sameBut hs (I.cne y c q2)⟩
 ·obtain ⟨v2,q⟩:=I.cell y c e
  exact ⟨v2,q.sameBut hs (I.cne y c e)⟩
 ·obtain ⟨q1,q2,q3,q4,q5⟩:=I.pin p hp
  exact ⟨(hs.2 p.1 q3).trans q1,q2,q3,q4,q5⟩
 ·refine (I.hok b ob e).stay (fun c u hc2 q=>(hs.2 c fun z=>?_).trans q) (fun _ q=>q) fun _ _ q=>q
  have fr:=I.free
  rcases hc2 with y | y
  ·rw [← y,z,fr] at e;cases e
  ·rw [z,fr] at y;cases y
noncomputable def Cx.marked (X:Cx) (x:Addr):Cx:={X with A:=X.A.mark (some (.ref x)),calm:=false,xe:=fun _ _=>False}
theorem Inv.marked (I:Inv X pins σ H s)(x:Addr):Inv (X.marked x) pins σ H s:=
 ⟨⟨I.ok.mod,I.ok.kind,I.ok.glob,I.ok.blt,I.ok.above,I.ok.inj,I.ok.has,I.ok.cab,(fun z=>nomatch z),I.ok.frames,I.ok.stk,I.ok.exf,I.ok.bs,I.ok.bsz,I.ok.noex,I.ok.exfs,I.ok.funs,I.ok.frf⟩,I.os,I.bare,I.base,I.loc,I.cell,I.free,I.freeC,I.pin,I.hok,I.len⟩
theorem Inv.unmarked {x:Addr}(hd:X.calm=true→X.A.handled=none)(I:Inv (X.marked x) pins σ H s):Inv X pins σ H s:=
 ⟨⟨I.ok.mod,I.ok.kind,I.ok.glob,I.ok.blt,I.ok.above,I.ok.inj,I.ok.has,I.ok.cab,hd,I.ok.frames,I.ok.stk,I.ok.exf,I.ok.bs,I.ok.bsz,I.ok.noex,I.ok.exfs,I.ok.funs,I.ok.frf⟩,I.os,I.bare,I.base,I.loc,I.cell,I.free,I.freeC,I.pin,I.hok,I.len⟩
end
section
variable {X:Cx} {pins:List (Addr×Obj)} {σ :St} {H1:Hp} {s1 s':Shared} {C S:Addr} {nid nid2:String} {bB bB2:List Value} {sx n:Str} {np hpos:Pos} {b₀ :Stmt} {suite:List Stmt} {j:Nat} {ts:TS} {D:Ends} {E':XK} {e:Value}
noncomputable def D1 (D:Ends) (j:Nat):Ends:={nx:=fun σ' H'=>D.nx (σ'.set j none) H',rt:=fun _ _=>False}
end
section
variable {X:Cx} {C S f:Addr} {k:Nat} {fd:FuncData} {ps:List Str} {sp:Sp} {dvs:List V} {ds:List Value} {nid nid2:String} {bB bB2:List Value} {fx sx n:Str} {p np hpos cpos epos pos:Pos} {b₀ :Stmt} {suite:List Stmt} {j:Nat} {t:TA} {ts:TS} {e:Expr} {es:List Expr}
end
end L2
namespace L2
open PySem PySem.Spec PyProof.Rows
section
variable {prog:Program} {w:World} {A:Around} {E:Value→Shared→Prop} {h:Heap} {g:Array GenState} {d:Drawn} {t:Nat} {os:OsState} {a:Addr} {o:Obj} {K:PySem.W.Frag}
 {nm q:Str} {C N:Addr} {bs bm bmB:List Value} {hdct:Bool} {sn:List Str} {sub:List Value} {ab:Bool} {col:Option Bool} {dd:Option Addr} {k0 k1 k2 k3 k5:Option Value} {B newId:String}
theorem xc_get {R:Result→Shared→Prop}(hC:h.get? C=some (excClassObj nm q C N bs bm hdct sn sub ab col dd k0 k1 k2 k3 k5 newId))(ho:bm.contains (.type "object")=true)
  (hx:h.get? a=some o) (hc:o.cls= .ref C) (hq:R (.ok (.ret (.ref C))) ⟨h,g,d,t,os⟩):
  codeAny (model prog w) A (.call (.builtin "getset_descriptor.__get__") ⟨[.builtin "object.__class__",.ref a,.ref C],[]⟩) R ⟨h,g,d,t,os⟩:=by
 have hT5:(⟨h,g,d,t,os⟩:Shared).TypeIs (.builtin "object.__class__") "getset_descriptor" :=F.typeOf_object_class
 have hcB:(Value.ref C::bm).contains (.type (".".intercalate ("object.__class__".cutAt '.').dropLast))=true:=by
  rw [F.owner_object_class,List.contains_cons,ho];rfl
 refine codeAny_call_builtin F.slot_gs_get.plain F.entry_gs_get (F.slot_gs_get.check _ _ _ _ _ _ _ _ hT5 (F.args_gs_get _ _ _) ?_)
 repeat (any_goals (first | assumption | (with_reducible refine wpAny_loadPart_at hx ?_;rw [hc]) | (with_reducible refine wpAny_isSubtype_exc hC ?_;rw [hcB]) | wp_step))
 refine ⟨Code.quiet_builtin _ (by decide+kernel),codeAny_builtin F.entry_object_class ?_⟩
 repeat (any_goals (first | assumption | (with_reducible refine wpAny_loadPart_at hx ?_;rw [hc]) | wp_step))
theorem zlm {tk:Tok}{Q:Fin→Shared→Prop}(X:K.In h)(hca:PySem.W.findIn K (.ref C) "__class__" =some (some (.builtin "object.__class__")))(hC:h.get? C=some (excClassObj nm q C N bs bm hdct sn sub ab col dd k0 k1 k2 k3 k5 newId))(ho:bm.contains (.type "object")=true)
  (hx:h.get? a=some o) (hc:o.cls= .ref C) (hq:Q (.done (.ret (.ref C))) ⟨h,g,d,t,os⟩):
  wpAny (model prog w) A (Builtin.«object.__getattribute__» ⟨[.ref a,.str "__class__" tk],[]⟩) Q E ⟨h,g,d,t,os⟩:=by
 have hT5:(⟨h,g,d,t,os⟩:Shared).TypeIs (.builtin "object.__class__") "getset_descriptor" :=F.typeOf_object_class
 have f5:=F.typeOf_object_class
 have f6:=F.slot_gs_get.lookup
 have f7:=F.slot_gs_set.lookup
 have L:=PySem.W.looks_findIn (M:=model prog w) X hca
 repeat (any_goals (first | assumption | (with_reducible refine wpAny_loadPart_at hx ?_;rw [hc]) | with_reducible refine L.at ?_ | wp_step))
 refine xc_get hC ho hx hc ?_
 repeat (any_goals (first | assumption | wp_step))
theorem zlv {M:Model}{nameV:Value}{Q:Unit→Shared→Prop}(hC:h.get? C=some (excClassObj nm q C N bs bm hdct sn sub ab col dd k0 k1 k2 k3 k5 newId))(hb:bm.contains (.type "BaseException")=true)
  (hx:h.get? a=some o) (hc:o.cls= .ref C) (hq:Q () ⟨h,g,d,t,os⟩):wpAny M A (checkBuiltinCall "BaseException.__getattribute__" ⟨[.ref a,nameV],[]⟩) Q E ⟨h,g,d,t,os⟩:=by
 have hk:builtinKind "BaseException.__getattribute__" =some .slot:=by decide+kernel
 have hsp:splitId "BaseException.__getattribute__" =some ("BaseException","__getattribute__"):=by decide+kernel
 have hcB:(Value.ref C::bm).contains (.type "BaseException")=true:=by rw [List.contains_cons,hb];rfl
 have ha:=F.args_bexc_ga (.ref a) nameV
 simp only [checkBuiltinCall,hk,hsp]
 refine wpAny_bind ?_
 unfold isInstance
 repeat (first | (with_reducible refine wpAny_loadPart_at hx ?_;rw [hc]) | (with_reducible refine wpAny_isSubtype_exc hC ?_;rw [hcB]) | wp_step)
 exact hq
theorem xc_by {tk:Tok}{Q:Value→Shared→Prop}(FB:ExcAttrFacts B)(X:K.In h)(hga:PySem.W.findIn K (.ref C) "__getattribute__" =some (some (.builtin "BaseException.__getattribute__")))(hgn:PySem.W.findIn K (.ref C) "__getattr__" =some none)
  (hca:PySem.W.findIn K (.ref C) "__class__" =some (some (.builtin "object.__class__"))) (hC:h.get? C=some (excClassObj nm q C N bs bm hdct sn sub ab col dd k0 k1 k2 k3 k5 newId)) (ho:bm.contains (.type "object")=true) (hb:bm.contains (.type "BaseException")=true)
  (hx:h.get? a=some o) (hc:o.cls= .ref C) (hq:Q (.ref C) ⟨h,g,d,t,os⟩):wpAny (model prog w) A (getAttrBy (.ref a) (.str "__class__" tk) false) Q E ⟨h,g,d,t,os⟩:=by
 have f3:=FB.ga.bind (.ref a)
 have hx2:(Value.builtin "BaseException.__getattribute__" ==Value.builtin "object.__getattribute__")=false:=by decide+kernel
 have hx1:(onTheHeap (Value.ref C) && Value.builtin "BaseException.__getattribute__" ==Value.builtin "object.__getattribute__")=false:=by rw [hx2];rfl
 have L1:=PySem.W.looks_findIn (M:=model prog w) X hga
 have L2:=PySem.W.looks_findIn (M:=model prog w) X hgn
 repeat (any_goals (first | assumption | (with_reducible refine wpAny_loadPart_at hx ?_;rw [hc]) | with_reducible refine L1.at ?_ | with_reducible refine L2.at ?_ | wp_step))
 refine codeAny_call_builtin FB.ga.plain F.entry_bexc_ga (zlv hC hb hx hc (zlm X hca hC ho hx hc ?_))
 repeat (any_goals (first | assumption | wp_step))
theorem zmu {Q:Option Value→Shared→Prop}(FB:ExcAttrFacts B)(X:K.In h)(hga:PySem.W.findIn K (.ref C) "__getattribute__" =some (some (.builtin "BaseException.__getattribute__")))(hgn:PySem.W.findIn K (.ref C) "__getattr__" =some none)
  (hca:PySem.W.findIn K (.ref C) "__class__" =some (some (.builtin "object.__class__"))) (hC:h.get? C=some (excClassObj nm q C N bs bm hdct sn sub ab col dd k0 k1 k2 k3 k5 newId)) (ho:bm.contains (.type "object")=true) (hb:bm.contains (.type "BaseException")=true)
  (hx:h.get? a=some o) (hc:o.cls= .ref C) (hq:Q (some (.ref C)) ⟨h,g,d,t+1,os⟩):wpAny (model prog w) A (getAttr? (.ref a) "__class__") Q E ⟨h,g,d,t,os⟩:=by
 unfold getAttr? getAttrBy?
 repeat (any_goals (first | assumption | with_reducible apply xc_by FB X hga hgn hca hC ho hb hx hc | wp_step))
end
structure XcOk (K:PySem.W.Frag) (C:Addr) (B nid:String) (bB:List Value):Prop where
 ex:PySem.W.excIn K C bB nid=true
 attr:ExcAttrFacts B
 ga:PySem.W.findIn K (.ref C) "__getattribute__" =some (some (.builtin "BaseException.__getattribute__"))
 gn:PySem.W.findIn K (.ref C) "__getattr__" =some none
 ca:PySem.W.findIn K (.ref C) "__class__" =some (some (.builtin "object.__class__"))
 ho:bB.contains (.type "object")=true
 hb:bB.contains (.type "BaseException")=true
theorem zgv {K:PySem.W.Frag}{C x:Addr}{B nid:String}{bB:List Value}(Z:XcOk K C B nid bB):PySem.W.KitX K (.ref x) (.ref C) (fun h=>∃ ob,h.get? x=some ob∧ob.cls= .ref C) where
 ty:=fun M h _ ⟨ob,e,c⟩=>c ▸ (PySem.W.Looks.ld e).andThen .now
 it:=fun M h X _=>by
  obtain ⟨tl,N,nm,qn,bs,hd,sn,sub,ab,col,dd,a0,a1,a2,a3,a5,oC,_,_⟩:=zdw X Z.ex
  intro A2 Q2 E2 s2 k2 q2
  unfold isType loadHead
  exact wpAny_bind (wpAny_loadPart (k2 _ _ oC) (wpAny_pure q2))
 ne:=fun h tp dd its n sl X htp=>by
  obtain ⟨tl,N,nm,qn,bs,hd,sn,sub,ab,col,dd2,a0,a1,a2,a3,a5,oC,_,_⟩:=zdw X Z.ex
  refine Bool.eq_false_iff.mpr fun z=>?_
  have e:C=tp:=Value.ref.inj (beq_iff_eq.mp z)
  subst e
  have y:=congrArg (fun o=>o.data) (Option.some.inj (oC.symm.trans htp))
  exact absurd y (fun w=>nomatch w)
 ca:=fun {prog w A E Q s} X ⟨ob,e,c⟩ k2=>by
  obtain ⟨tl,N,nm,qn,bs,hd,sn,sub,ab,col,dd2,a0,a1,a2,a3,a5,oC,_,oT⟩:=zdw X Z.ex
  obtain ⟨hh,g,d,t,os⟩:=s
  exact zmu Z.attr X Z.ga Z.gn Z.ca oC (oT.hasType Z.ho) (oT.hasType Z.hb) e c k2
noncomputable def rIsX (K:PySem.W.Frag) (C:Addr):List V→Hp→VK→Prop:=fun xs H Q=>∃ x S b,xs= [.ref x,.ref S]∧H x=some (excO x C)∧PySem.W.kitOne K (.ref C) (.ref S)=some b∧Q (.bl b) H
noncomputable def rIsXT (K:PySem.W.Frag) (C:Addr):List V→Hp→VK→Prop:=fun xs H Q=>∃ x T b,xs= [.ref x,.ty T]∧H x=some (excO x C)∧PySem.W.kitOne K (.ref C) (.type T)=some b∧Q (.bl b) H
noncomputable def rIsXs (K:PySem.W.Frag) (C:Addr):List V→Hp→VK→Prop:=fun xs H Q=>∃ (x tp:Addr) (cs:List Addr) (b:Bool),xs= [.ref x,.ref tp]∧H x=some (excO x C)∧SqT K H tp (cs.map V.ref)∧PySem.W.kitAny K (.ref C) (cs.map Value.ref)=some b∧Q (.bl b) H
theorem zgZ:∀ {cs:List Addr} {us:List Value},Vals (cs.map V.ref) us→us=cs.map Value.ref
 | [],_,r=>by cases r;rfl
 | c::cs,_,r=>by
  cases r with
  | cons h t=>
   cases (show _=_ from h)
   rw [zgZ t]
   rfl
section
variable {X:Cx} {C:Addr} {B nid:String} {bB:List Value}
theorem zkS (Z:XcOk X.K C B nid bB):zc8 X (.builtin "isinstance") (rIsX X.K C):=by
 intro pins s σ H xs us Q I r ⟨x,S,b,e,hx,ek,q⟩
 subst e
 obtain ⟨u,w',rfl,rx,rt⟩:=zkg r
 cases (show w'=Value.ref S from rt)
 cases (show u=Value.ref x from rx)
 obtain ⟨p,_⟩:=I.hok x _ hx
 exact PySem.W.kia_one (zgv Z) I.kIn p ek (fun z=>nomatch z) fun tk=>⟨.bl b,H,I.tok tk,rfl,q⟩
theorem zjR (Z:XcOk X.K C B nid bB):zc8 X (.builtin "isinstance") (rIsXT X.K C):=by
 intro pins s σ H xs us Q I r ⟨x,T,b,e,hx,ek,q⟩
 subst e
 obtain ⟨u,w',rfl,rx,rt⟩:=zkg r
 cases (show w'=Value.type T from rt)
 cases (show u=Value.ref x from rx)
 obtain ⟨p,_⟩:=I.hok x _ hx
 exact PySem.W.kia_one (zgv Z) I.kIn p ek (fun z=>nomatch z) fun tk=>⟨.bl b,H,I.tok tk,rfl,q⟩
theorem zj3 (Z:XcOk X.K C B nid bB):zc8 X (.builtin "isinstance") (rIsXs X.K C):=by
 intro pins s σ H xs us Q I r ⟨x,tp,cs,b,e,hx,ht,ek,q⟩
 subst e
 obtain ⟨u,w',rfl,rx,rt⟩:=zkg r
 cases (show w'=Value.ref tp from rt)
 cases (show u=Value.ref x from rx)
 obtain ⟨p,_⟩:=I.hok x _ hx
 obtain ⟨its,rv,⟨o,e1,e2,n,e3⟩,_⟩:=I.tuple ht
 have ei:=zgZ rv
 subst ei
 obtain ⟨oc,od,odt,osl⟩:=o
 cases (show oc=_ from e2)
 cases (show odt=_ from e3)
 exact PySem.W.kia_tup (zgv Z) I.kIn p e1 ek (fun z=>nomatch z) fun tk=>⟨.bl b,H,I.tok tk,rfl,q⟩
end
theorem zjF {X:Cx}{st:List Stmt}:Bx (PSs X st (fun _ _ _=>False)):=⟨fun _ _ _ _ _ _ h=>h.elim⟩
end L2
namespace L2
open PySem PySem.Spec PyProof.Rows
noncomputable def CDivB:Int→Int→Prop:=fun _ j=>0 < j∧j < 1000000000000000000000
section
variable {X:Cx}
theorem zh4:OpR X (binaryOp .FloorDiv) (rI CDivB fun i j=>.int (i / j)):=opI fun i j _ _ _ _ _ hc q=>by
 have h1:(0:Int) < j:=hc.1
 have h2:j < 1000000000000000000000:=hc.2
 refine floordiv_int (by omega) (by rw [Int.fdiv_eq_ediv_of_nonneg i (by omega)];exact q) (.inl (PyProof.noPylong_of_log2 ?_))
 refine Nat.lt_of_lt_of_le ((Nat.log2_lt (by omega)).mpr (?_:j.natAbs < 2 ^ 70)) (by decide)
 have:(2:Nat) ^ 70=1180591620717411303424:=by decide+kernel
 omega
end
end L2
namespace My
open PySem L2
open PySem.W (Dat kqdP kqdPs kqdOk)
end My
namespace My
open PySem L2
open PySem.W (Dat kqdP kqdPs kqdOk)
theorem zeh (q:List Key)(p:List Key)(v:Int):look [⟨p,v⟩] q=if p=q then some v else none:=by
 unfold look
 by_cases e:p=q
 ·rw [if_pos e,List.find?_cons_of_pos (by simpa using e)]
  rfl
 ·rw [if_neg e,List.find?_cons_of_neg (by simpa using e)]
  rfl
theorem zlf {g p:Nat}{v:Int}(ns:List Int)(hp:p < ns.length):zcK [⟨legK g p,v⟩] g ns=ns.set p v:=by
 unfold zcK
 refine List.ext_getElem? fun i=>?_
 rw [List.getElem?_mapIdx]
 by_cases e:p=i
 ·subst e
  rw [List.getElem?_set_self hp,List.getElem?_eq_getElem hp]
  simp only [Option.map_some]
  unfold pick
  rw [zeh,if_pos rfl]
  rfl
 ·rw [List.getElem?_set_ne e]
  cases ns[i]? with
  | none=>rfl
  | some x=>
   simp only [Option.map_some]
   unfold pick
   rw [zeh,if_neg fun z=>e (by have:=(zgE z).2;omega)]
   rfl
theorem zjU (g p:Nat)(v:Int)(i:Int)(x:Int):pick [⟨legK g p,v⟩] (zb2 i) x=x:=by
 unfold pick
 rw [zeh,if_neg fun z=>zhZ z.symm]
 rfl
theorem ze6 (i:Int)(v x:Int):pick [⟨zb2 i,v⟩] (zb2 i) x=v:=by
 unfold pick
 rw [zeh,if_pos rfl]
 rfl
end My
namespace L2
open PySem PySem.Spec PyProof.Rows
section
open PySem.SeqAt
open PySem.AutoSeq1 (wpAny_loadPart')
open PySem.MeetsSeq PySem.MeetsSeq2 PySem.MeetsSeq3
end
section
variable {X:Cx}
end
end L2
namespace My
open PySem L2
open PySem.W (Dat kqdP kqdPs kqdOk)
end My
namespace L2
open PySem PySem.Spec PyProof.Rows
section
open PySem.Sem (wp)
end
section
variable {X:Cx}
end
end L2
namespace L2
open PySem PySem.Spec PyProof.Rows
structure FunD (K:PySem.W.Frag) (x qual:Str) (st:Stmt) (f:Addr) (fd:FuncData) (T:Addr):Prop where
 ex:∃ (oc:Value) (od:Option Addr) (kV doc pm:Value) (an:Option Addr) (cdv ct:Value) (osl:Array (Option Value)),
  fd=PySem.W.fnOf x qual (zaq st) (zap st) (zag st) (.ref T) kV doc pm an cdv ct∧K.lookup f=some ⟨oc,od,.func fd,osl⟩∧PySem.W.codeIn K cdv qual=true
 kp:PySem.W.keepIn K (.ref f)=true
section
variable {P:Program} {w:World} {K:PySem.W.Frag} {mg:Str→Option Value} {base:Heap}
theorem FunD.okB {x qual:Str}{st:Stmt}{f T:Addr}{fd:FuncData}{N ps:List Str}{k:Nat}{sp:Sp}(F:FunD K x qual st f fd T)(S:zax N ps (zag st))(len:∀ vs H Q E,sp vs H Q E→vs.length=ps.length)
  (hbody:∀ (cdv:Value) (A:Around) (outer:List Env) (s:Shared) (H:Hp) (vs:List V) (Q:VK) (E:XK),Room k (A.deeper (envOfC qual (zag st) s.heap.objs.size f cdv))→sp vs H Q E→
   ∃ t,Bx (PSs (cxOf CX0 P w K mg base N qual (zag st) f cdv A outer s H E).nox (zap st) t)∧t {nx:=fun _ H2=>Q .non H2,rt:=Q} (start N vs) H):FnOk P w K mg base CX0 (k+1) f fd ps sp:=by
 obtain ⟨oc,od,kV,doc,pm,an,cdv,ct,osl,rfl,lk,hcd⟩:=F.ex
 refine zmJ lk hcd S len fun A outer s H vs Q E hr hsp=>?_
 obtain ⟨t,h,q⟩:=hbody cdv A outer s H vs Q E hr hsp
 exact ⟨t,h.1.nox,q⟩
theorem FunD.binds {x qual:Str}{st:Stmt}{f T:Addr}{fd:FuncData}{ps:List Str}{ds:List Value}(F:FunD K x qual st f fd T)
  (h:∀ (kV doc pm:Value) (an:Option Addr) (cdv ct:Value) (s:Shared) (us:List Value),K.In s.heap→(us++ds).length=ps.length→
   BindsTo s (PySem.W.fnOf x qual (zaq st) (zap st) (zag st) (.ref T) kV doc pm an cdv ct) ⟨us,[]⟩ (ps.zip (us++ds))):zff K fd ps ds:=by
 obtain ⟨oc,od,kV,doc,pm,an,cdv,ct,osl,rfl,lk,hcd⟩:=F.ex
 exact h kV doc pm an cdv ct
theorem zhq {x qual:Str}{st:Stmt}{f T:Addr}{oc:Value}{od an:Option Addr}{osl:Array (Option Value)}{kV doc pm cdv ct:Value}(l:K.lookup f=some ⟨oc,od,.func (PySem.W.fnOf x qual (zaq st) (zap st) (zag st) (.ref T) kV doc pm an cdv ct),osl⟩)
  (c:PySem.W.codeIn K cdv qual=true) (k:PySem.W.keepIn K (.ref f)=true):FunD K x qual st f (PySem.W.fnOf x qual (zaq st) (zap st) (zag st) (.ref T) kV doc pm an cdv ct) T:=⟨⟨oc,od,kV,doc,pm,an,cdv,ct,osl,rfl,l,c⟩,k⟩
end
end L2
namespace My
open PySem L2
noncomputable def zei (o:Int) (x:Str) (ns:List Int):Int:=
 if x="not" then Builtin.bitXor o (ns.getD 0 0)
 else if x="choose" then Builtin.bitOr (Builtin.bitAnd (ns.getD 0 0) (ns.getD 1 0)) (Builtin.bitAnd (Builtin.bitXor o (ns.getD 0 0)) (ns.getD 2 0))
 else ns.foldl (fun a b=>if x="and" then Builtin.bitAnd a b else if x="or" then Builtin.bitOr a b else Builtin.bitXor a b) (if x="and"∨x="one" then o else 0)
theorem zlo {a b:Int}(ha:a=0∨a=1)(hb:b=0∨b=1):Builtin.bitAnd a b=if a=1∧b=1 then 1 else 0:=by
 rcases ha with rfl | rfl <;> rcases hb with rfl | rfl <;> decide
theorem zmc {a b:Int}(ha:a=0∨a=1)(hb:b=0∨b=1):Builtin.bitOr a b=if a=1∨b=1 then 1 else 0:=by
 rcases ha with rfl | rfl <;> rcases hb with rfl | rfl <;> decide
theorem zld {a b:Int}(ha:a=0∨a=1)(hb:b=0∨b=1):Builtin.bitXor a b=(a+b) % 2:=by
 rcases ha with rfl | rfl <;> rcases hb with rfl | rfl <;> decide
theorem zhR:∀ (ns:List Int) {a:Int},(a=0∨a=1)→Bits ns→ns.foldl Builtin.bitAnd a=if a=1∧ns.all (· ==1)=true then 1 else 0
 | [],a,ha,_=>by rcases ha with rfl | rfl <;> decide
 | n::ns,a,ha,b=>by
  have hn:=b n (.head _)
  have e:=zlo ha hn
  rw [List.foldl_cons,zhR ns (by rw [e];split <;> simp) fun z hz=>b z (.tail _ hz),e]
  rcases ha with rfl | rfl <;> rcases hn with rfl | rfl <;> simp
theorem zkp:∀ (ns:List Int) {a:Int},(a=0∨a=1)→Bits ns→ns.foldl Builtin.bitOr a=if a=1∨ns.any (· ==1)=true then 1 else 0
 | [],a,ha,_=>by rcases ha with rfl | rfl <;> decide
 | n::ns,a,ha,b=>by
  have hn:=b n (.head _)
  have e:=zmc ha hn
  rw [List.foldl_cons,zkp ns (by rw [e];split <;> simp) fun z hz=>b z (.tail _ hz),e]
  rcases ha with rfl | rfl <;> rcases hn with rfl | rfl <;> simp
theorem zh1:∀ (ns:List Int) {a:Int},(a=0∨a=1)→Bits ns→ns.foldl Builtin.bitXor a=(a+ns.sum) % 2
 | [],a,ha,_=>by rcases ha with rfl | rfl <;> decide
 | n::ns,a,ha,b=>by
  have hn:=b n (.head _)
  have e:=zld ha hn
  rw [List.foldl_cons,zh1 ns (by rw [e];omega) fun z hz=>b z (.tail _ hz),e,List.sum_cons]
  omega
theorem n_an:("and" :Str)≠"not" :=by decide+kernel
theorem n_ac:("and" :Str)≠"choose" :=by decide+kernel
theorem n_on:("or" :Str)≠"not" :=by decide+kernel
theorem n_oc:("or" :Str)≠"choose" :=by decide+kernel
theorem n_o1:("or" :Str)≠"one" :=by decide+kernel
theorem n_dn:("odd" :Str)≠"not" :=by decide+kernel
theorem n_dc:("odd" :Str)≠"choose" :=by decide+kernel
theorem n_d1:("odd" :Str)≠"one" :=by decide+kernel
theorem zkm {x:Str}{ns:List Int}(b:Bits ns)(h:zcD x ns.length):zei 1 x ns=zcH x ns:=by
 rcases h with ⟨h | h | h,l1,l2⟩ | ⟨h,l1⟩ | ⟨h,l1⟩ | ⟨h | h,l1⟩ <;> subst h <;> unfold zei
 ·rw [zj0,if_neg n_an,if_neg n_ac,if_pos (.inl rfl)]
  simp only [if_pos]
  rw [zhR ns (.inr rfl) b]
  simp
 ·rw [zl0,if_neg n_on,if_neg n_oc,if_neg (fun z=>z.elim n_oa n_o1)]
  simp only [if_neg n_oa,if_pos]
  rw [zkp ns (.inl rfl) b]
  simp
 ·rw [zjX,if_neg n_dn,if_neg n_dc,if_neg (fun z=>z.elim n_da n_d1)]
  simp only [if_neg n_da,if_neg n_do]
  rw [zh1 ns (.inl rfl) b,Int.zero_add]
 ·rw [zji,if_pos rfl]
  rcases zb6 b (i:=0) (by omega) with e | e <;> rw [e] <;> decide
 ·rw [zfg,if_neg n_cn,if_pos rfl]
  rcases zb6 b (i:=0) (by omega) with e | e <;> rcases zb6 b (i:=1) (by omega) with f | f <;> rcases zb6 b (i:=2) (by omega) with g | g <;> rw [e,f,g] <;> decide
 ·obtain rfl:ns= []:=List.length_eq_zero_iff.mp l1
  rw [zhD,if_neg n_zn,if_neg n_zc,if_neg (fun z=>z.elim n_za n_z1)]
  rfl
 ·obtain rfl:ns= []:=List.length_eq_zero_iff.mp l1
  rw [zjW,if_neg n_1n,if_neg n_1c,if_pos (.inr rfl)]
  rfl
theorem gi_not (o:Int)(ns:List Int):zei o "not" ns=Builtin.bitXor o (ns.getD 0 0):=by unfold zei;rw [if_pos rfl]
theorem zkk (o:Int)(ns:List Int):zei o "choose" ns=Builtin.bitOr (Builtin.bitAnd (ns.getD 0 0) (ns.getD 1 0)) (Builtin.bitAnd (Builtin.bitXor o (ns.getD 0 0)) (ns.getD 2 0)):=by unfold zei;rw [if_neg n_cn,if_pos rfl]
theorem zmo {x:Str}(hn:x≠"not")(hc:x≠"choose")(o:Int)(ns:List Int):zei o x ns=ns.foldl (fun a b=>if x="and" then Builtin.bitAnd a b else if x="or" then Builtin.bitOr a b else Builtin.bitXor a b) (if x="and"∨x="one" then o else 0):=by unfold zei;rw [if_neg hn,if_neg hc]
theorem zls {n:Nat}(h:zcD "not" n):n=1:=by
 rcases h with ⟨h | h | h,l1,l2⟩ | ⟨h,l1⟩ | ⟨h,l1⟩ | ⟨h | h,l1⟩ <;> first | exact l1 | exact absurd h (by decide+kernel)
theorem zhB {n:Nat}(h:zcD "choose" n):n=3:=by
 rcases h with ⟨h | h | h,l1,l2⟩ | ⟨h,l1⟩ | ⟨h,l1⟩ | ⟨h | h,l1⟩ <;> first | exact l1 | exact absurd h (by decide+kernel)
theorem in_two (x a b:Str):inV (.str x) [.str a,.str b]=decide (x=a∨x=b):=by
 show ((eqV (.str a) (.str x)) || ((eqV (.str b) (.str x)) || false))=_
 have e:∀ y z:Str,eqV (.str y) (.str z)=decide (z=y):=fun y z=>by
  show (y==z)=_
  rw [Bool.eq_iff_iff,beq_iff_eq,decide_eq_true_eq]
  exact eq_comm
 rw [e,e,Bool.or_false]
 by_cases q:x=a <;> by_cases q2:x=b <;> simp [q,q2]
noncomputable def zcA (o:Int) (fs:List Flt) (gs:List (Str×List Int)) (row:List Int):Nat→List Int
 | 0=>rowS fs row
 | n+1=>zcA o fs gs row n++ [pick fs (zb2 ((row.length+n:Nat):Int)) (match gs[n]? with
   | some g=>zei o g.1 (zcK fs n (g.2.map fun l=>(zcA o fs gs row n).getD l.toNat 0))
   | none=>0)]
theorem zeH (o:Int)(fs:List Flt)(gs:List (Str×List Int))(row:List Int):∀ n,(zcA o fs gs row n).length=row.length+n
 | 0=>zgI fs row
 | n+1=>by rw [zcA,List.length_append,zeH o fs gs row n];simp;omega
end My
namespace L2
open PySem PySem.Spec PyProof.Rows
noncomputable def zia:List Str→List Value→Bool
 | [],[]=>true
 | x::xs,.str y _::vs=>x==y && zia xs vs
 | _,_=>false
noncomputable def TupK (K:PySem.W.Frag) (a:Addr) (xs:List Str):Prop:=(match K.lookup a with
 | some o=>(o.cls== .type "tuple" && o.dict.isNone) && (match o.data with
  | .seq vs _=>zia xs vs.toList
  | _=>false)
 | none=>false)=true
end L2
namespace L2
open PySem PySem.Spec PyProof.Rows
section
variable {X:Cx} {o e:Expr} {apos cpos:Pos} {td ty:TE}
end
section
variable {X:Cx} {e:Expr} {te:TE} {p p' pos pos':Pos}
end
end L2
namespace L2
open PySem PySem.Spec PyProof.Rows
open PySem.W (Dat kqdP kqdPs kqdOk)
section
variable {X:Cx}
open Classical in
end
section
variable {X:Cx} {K:PySem.W.Frag}
end
end L2
namespace My
open PySem L2
theorem zhJ (a b:Nat):Builtin.bitAnd (a:Int) (b:Int)=((a &&& b:Nat):Int):=by
 unfold Builtin.bitAnd
 rw [decide_eq_true (Int.natCast_nonneg a),decide_eq_true (Int.natCast_nonneg b)]
 rfl
theorem zlE (a b:Nat):Builtin.bitOr (a:Int) (b:Int)=((a ||| b:Nat):Int):=by
 have h:∀ n:Nat,decide (0≤Builtin.bitNot (n:Int))=false:=fun n=>decide_eq_false (by unfold Builtin.bitNot;omega)
 have t:∀ n:Nat,(Builtin.bitNot (Builtin.bitNot (n:Int))).toNat=n:=fun n=>by unfold Builtin.bitNot;omega
 have e:Builtin.bitAnd (Builtin.bitNot (a:Int)) (Builtin.bitNot (b:Int))=Builtin.bitNot ((a ||| b:Nat):Int):=by
  unfold Builtin.bitAnd
  rw [h a,h b]
  show Builtin.bitNot (((Builtin.bitNot (Builtin.bitNot (a:Int))).toNat ||| (Builtin.bitNot (Builtin.bitNot (b:Int))).toNat:Nat):Int)=_
  rw [t a,t b]
 unfold Builtin.bitOr
 rw [e]
 unfold Builtin.bitNot
 omega
theorem zi5:∀ a b:Nat,a ||| b=(a ^^^ b)+(a &&& b):=by
 intro a
 induction a using Nat.strongRecOn with
 | ind a ih=>
  intro b
  by_cases ha:a=0
  ·subst ha
   simp
  ·have h:=ih (a / 2) (by omega) (b / 2)
   have e1:=Nat.or_div_two (a:=a) (b:=b)
   have e2:=Nat.xor_div_two (a:=a) (b:=b)
   have e3:=Nat.and_div_two (a:=a) (b:=b)
   have m1:(a ||| b) % 2=(a ^^^ b) % 2+(a &&& b) % 2:=by
    have t:∀ n:Nat,n % 2=if n.testBit 0 then 1 else 0:=fun n=>by
     rw [Nat.testBit_zero]
     by_cases hn:n % 2=1
     ·simp [hn]
     ·have:n % 2=0:=by omega
      simp [this]
    rw [t (a ||| b),t (a ^^^ b),t (a &&& b),Nat.testBit_or,Nat.testBit_xor,Nat.testBit_and]
    cases a.testBit 0 <;> cases b.testBit 0 <;> rfl
   omega
theorem zmE (a b:Nat):Builtin.bitXor (a:Int) (b:Int)=((a ^^^ b:Nat):Int):=by
 unfold Builtin.bitXor
 rw [zlE,zhJ]
 have:=zi5 a b
 omega
noncomputable def bitI (j:Nat) (x:Int):Int:=if x.toNat.testBit j then 1 else 0
noncomputable def za0 (R:Nat) (x:Int):Prop:=0≤x∧x.toNat < 2 ^ R
theorem zeW (j:Nat)(x:Int):bitI j x=0∨bitI j x=1:=by unfold bitI;split <;> simp
theorem zbF {R:Nat}{x:Int}(h:za0 R x):∃ n:Nat,x=(n:Int)∧n < 2 ^ R:=⟨x.toNat,by have:=h.1;omega,h.2⟩
theorem zdp {R n:Nat}(h:n < 2 ^ R):za0 R (n:Int):=⟨by omega,by rw [Int.toNat_natCast];exact h⟩
theorem za8 (j n:Nat):bitI j (n:Int)=if n.testBit j then 1 else 0:=by unfold bitI;rw [Int.toNat_natCast]
theorem zfr {R:Nat}{x y:Int}(hx:za0 R x)(hy:za0 R y):za0 R (Builtin.bitAnd x y)∧∀ j,bitI j (Builtin.bitAnd x y)=Builtin.bitAnd (bitI j x) (bitI j y):=by
 obtain ⟨a,rfl,ha⟩:=zbF hx
 obtain ⟨b,rfl,hb⟩:=zbF hy
 rw [zhJ]
 refine ⟨zdp (Nat.and_lt_two_pow _ hb),fun j=>?_⟩
 rw [za8,za8,za8,Nat.testBit_and]
 cases a.testBit j <;> cases b.testBit j <;> decide
theorem zgk {R:Nat}{x y:Int}(hx:za0 R x)(hy:za0 R y):za0 R (Builtin.bitOr x y)∧∀ j,bitI j (Builtin.bitOr x y)=Builtin.bitOr (bitI j x) (bitI j y):=by
 obtain ⟨a,rfl,ha⟩:=zbF hx
 obtain ⟨b,rfl,hb⟩:=zbF hy
 rw [zlE]
 refine ⟨zdp (Nat.or_lt_two_pow ha hb),fun j=>?_⟩
 rw [za8,za8,za8,Nat.testBit_or]
 cases a.testBit j <;> cases b.testBit j <;> decide
theorem zeo {R:Nat}{x y:Int}(hx:za0 R x)(hy:za0 R y):za0 R (Builtin.bitXor x y)∧∀ j,bitI j (Builtin.bitXor x y)=Builtin.bitXor (bitI j x) (bitI j y):=by
 obtain ⟨a,rfl,ha⟩:=zbF hx
 obtain ⟨b,rfl,hb⟩:=zbF hy
 rw [zmE]
 refine ⟨zdp (Nat.xor_lt_two_pow ha hb),fun j=>?_⟩
 rw [za8,za8,za8,Nat.testBit_xor]
 cases a.testBit j <;> cases b.testBit j <;> decide
noncomputable def zaP (R:Nat):Int:=((2 ^ R - 1:Nat):Int)
theorem zcN (R:Nat):za0 R (zaP R):=zdp (by have:=Nat.two_pow_pos R;omega)
theorem zeS {R j:Nat}(h:j < R):bitI j (zaP R)=1:=by
 unfold zaP
 rw [za8,Nat.testBit_two_pow_sub_one]
 simp [h]
theorem zeX (j:Nat):bitI j 0=0:=by
 show bitI j ((0:Nat):Int)=0
 rw [za8,Nat.zero_testBit]
 rfl
theorem zdc (R:Nat):za0 R 0:=zdp (n:=0) (Nat.two_pow_pos R)
theorem zeB {R:Nat}{ns:List Int}(h:∀ n∈ns,za0 R n)(i:Nat):za0 R (ns.getD i 0):=by
 rw [List.getD_eq_getElem?_getD]
 cases e:ns[i]? with
 | none=>exact zdc R
 | some n=>exact h n (List.mem_of_getElem? e)
theorem zdf (j:Nat)(ns:List Int)(i:Nat):bitI j (ns.getD i 0)=(ns.map (bitI j)).getD i 0:=by
 rw [List.getD_eq_getElem?_getD,List.getD_eq_getElem?_getD,List.getElem?_map]
 cases ns[i]? with
 | none=>exact zeX j
 | some n=>rfl
theorem zf7 {R:Nat}{f:Int→Int→Int}(hf:∀ x y,za0 R x→za0 R y→za0 R (f x y)∧∀ j,bitI j (f x y)=f (bitI j x) (bitI j y)):∀ (ns:List Int) {a:Int},za0 R a→(∀ n∈ns,za0 R n)→za0 R (ns.foldl f a)∧∀ j,bitI j (ns.foldl f a)=(ns.map (bitI j)).foldl f (bitI j a)
 | [],a,ha,_=>⟨ha,fun _=>rfl⟩
 | n::ns,a,ha,h=>by
  obtain ⟨h1,h2⟩:=hf a n ha (h n (.head _))
  obtain ⟨h3,h4⟩:=zf7 hf ns h1 fun z hz=>h z (.tail _ hz)
  refine ⟨h3,fun j=>?_⟩
  rw [List.foldl_cons,h4 j,List.map_cons,List.foldl_cons,h2 j]
theorem zio {R:Nat}(x:Str){ns:List Int}(h:∀ n∈ns,za0 R n):za0 R (zei (zaP R) x ns)∧∀ j,j < R→bitI j (zei (zaP R) x ns)=zei 1 x (ns.map (bitI j)):=by
 have hg:=zeB h
 unfold zei
 by_cases hn:x="not"
 ·rw [if_pos hn]
  obtain ⟨h1,h2⟩:=zeo (zcN R) (hg 0)
  refine ⟨h1,fun j hj=>?_⟩
  rw [if_pos hn,h2 j,zeS hj,zdf]
 rw [if_neg hn]
 by_cases hc:x="choose"
 ·rw [if_pos hc]
  obtain ⟨a1,a2⟩:=zfr (hg 0) (hg 1)
  obtain ⟨b1,b2⟩:=zeo (zcN R) (hg 0)
  obtain ⟨c1,c2⟩:=zfr b1 (hg 2)
  obtain ⟨d1,d2⟩:=zgk a1 c1
  refine ⟨d1,fun j hj=>?_⟩
  rw [if_neg hn,if_pos hc,d2 j,a2 j,c2 j,b2 j,zeS hj,zdf,zdf,zdf]
 rw [if_neg hc]
 have ha:za0 R (if x="and"∨x="one" then zaP R else 0):=by
  split
  ·exact zcN R
  ·exact zdc R
 have hf:∀ a b,za0 R a→za0 R b→za0 R ((fun a b=>if x="and" then Builtin.bitAnd a b else if x="or" then Builtin.bitOr a b else Builtin.bitXor a b) a b)∧∀ j,bitI j ((fun a b=>if x="and" then Builtin.bitAnd a b else if x="or" then Builtin.bitOr a b else Builtin.bitXor a b) a b)=(fun a b=>if x="and" then Builtin.bitAnd a b else if x="or" then Builtin.bitOr a b else Builtin.bitXor a b) (bitI j a) (bitI j b):=by
  intro a b h1 h2
  by_cases e1:x="and"
  ·simp only [if_pos e1]
   exact zfr h1 h2
  ·by_cases e2:x="or"
   ·simp only [if_neg e1,if_pos e2]
    exact zgk h1 h2
   ·simp only [if_neg e1,if_neg e2]
    exact zeo h1 h2
 obtain ⟨h1,h2⟩:=zf7 hf ns ha h
 refine ⟨h1,fun j hj=>?_⟩
 rw [if_neg hn,if_neg hc,h2 j]
 congr 1
 split
 ·exact zeS hj
 ·exact zeX j
noncomputable def zcG (R:Nat) (fs:List Flt):List Flt:=fs.map fun f=>⟨f.place,f.worth * zaP R⟩
theorem zky (R:Nat)(fs:List Flt)(p:List Key):look (zcG R fs) p=(look fs p).map (· * zaP R):=by
 unfold look zcG
 induction fs with
 | nil=>rfl
 | cons f fs ih=>
  rw [List.map_cons,List.find?_cons,List.find?_cons]
  by_cases h:f.place=p
  ·simp [h]
  ·simpa [h] using ih
theorem zkX {R:Nat}{v:Int}(h:v=0∨v=1):za0 R (v * zaP R)∧∀ j,j < R→bitI j (v * zaP R)=v:=by
 rcases h with rfl | rfl
 ·rw [Int.zero_mul]
  exact ⟨zdc R,fun j _=>zeX j⟩
 ·rw [Int.one_mul]
  exact ⟨zcN R,fun j hj=>zeS hj⟩
theorem zfe {R:Nat}{fs:List Flt}(fb:∀ f∈fs,f.worth=0∨f.worth=1)(p:List Key){v:Int}(h:za0 R v):za0 R (pick (zcG R fs) p v)∧∀ j,j < R→bitI j (pick (zcG R fs) p v)=pick fs p (bitI j v):=by
 unfold pick
 rw [zky]
 cases e:look fs p with
 | none=>exact ⟨h,fun _ _=>rfl⟩
 | some b=>
  have hb:b=0∨b=1:=by
   unfold look at e
   obtain ⟨f,hf,rfl⟩:=Option.map_eq_some_iff.mp e
   exact fb f (List.mem_of_find?_eq_some hf)
  exact zkX hb
theorem zid {R:Nat}{fs:List Flt}(fb:∀ f∈fs,f.worth=0∨f.worth=1)(key:Nat→List Key){ns:List Int}(h:∀ n∈ns,za0 R n):(∀ n∈ns.mapIdx (fun i v=>pick (zcG R fs) (key i) v),za0 R n)∧∀ j,j < R→(ns.mapIdx (fun i v=>pick (zcG R fs) (key i) v)).map (bitI j)=(ns.map (bitI j)).mapIdx (fun i v=>pick fs (key i) v):=by
 constructor
 ·intro n hn
  obtain ⟨i,hi,e⟩:=List.mem_mapIdx.mp hn
  rw [← e]
  exact (zfe fb _ (h _ (List.getElem_mem hi))).1
 ·intro j hj
  refine List.ext_getElem? fun i=>?_
  rw [List.getElem?_map,List.getElem?_mapIdx,List.getElem?_mapIdx,List.getElem?_map]
  cases e:ns[i]? with
  | none=>rfl
  | some v=>exact congrArg some ((zfe fb _ (h v (List.mem_of_getElem? e))).2 j hj)
theorem zfX {R:Nat}{fs:List Flt}(fb:∀ f∈fs,f.worth=0∨f.worth=1){m:Nat}{w:zat}{cols:List Int}(wf:WF m w)(hl:(cols.length:Int)=w.ins)(h:∀ n∈cols,za0 R n):
  ∀ n,n≤w.gates.length→(∀ v∈zcA (zaP R) (zcG R fs) w.gates cols n,za0 R v)∧∀ j,j < R→(zcA (zaP R) (zcG R fs) w.gates cols n).map (bitI j)=zbs fs w.gates (cols.map (bitI j)) n
 | 0,_=>zid fb (fun i=>zb2 i) h
 | n+1,hn=>by
  obtain ⟨h1,h2⟩:=zfX fb wf hl h n (by omega)
  obtain ⟨g,hg⟩:∃ g,w.gates[n]? =some g:=⟨_,List.getElem?_eq_getElem (by omega)⟩
  obtain ⟨lk,lb⟩:=wf.legs n g hg
  have hr:∀ v∈g.2.map (fun l=>(zcA (zaP R) (zcG R fs) w.gates cols n).getD l.toNat 0),za0 R v:=fun v hv=>by
   obtain ⟨l,_,rfl⟩:=List.mem_map.mp hv
   exact zeB h1 _
  obtain ⟨l1,l2⟩:=zid fb (fun i=>legK (n:Int) (i:Int)) hr
  obtain ⟨g1,g2⟩:=zio g.1 l1
  obtain ⟨p1,p2⟩:=zfe fb (zb2 ((cols.length+n:Nat):Int)) g1
  rw [zcA,hg]
  refine ⟨fun v hv=>?_,fun j hj=>?_⟩
  ·rcases List.mem_append.mp hv with hv | hv
   ·exact h1 v hv
   ·rw [List.mem_singleton.mp hv]
    exact p1
  ·have bw:Bits (cols.map (bitI j)):=fun z hz=>by obtain ⟨v,_,rfl⟩:=List.mem_map.mp hz;exact zeW j v
   have hl':((cols.map (bitI j)).length:Int)=w.ins:=by rw [List.length_map];exact hl
   have bS:=zdh fb wf hl' bw n (by omega)
   rw [List.map_append,h2 j hj,zbs,hg]
   congr 1
   refine congrArg (fun z=>[z]) ((p2 j hj).trans ?_)
   rw [g2 j hj,l2 j hj,List.length_map]
   have e1:(g.2.map (fun l=>(zcA (zaP R) (zcG R fs) w.gates cols n).getD l.toNat 0)).map (bitI j)=g.2.map fun l=>(zbs fs w.gates (cols.map (bitI j)) n).getD l.toNat 0:=by
    rw [List.map_map]
    refine List.map_congr_left fun l _=>?_
    show bitI j (List.getD _ _ 0)=_
    rw [zdf,h2 j hj]
   rw [e1]
   refine congrArg (pick fs _) (zkm ?_ ?_)
   ·exact zey (k:=(n:Int)) fb fun z hz=>by
     obtain ⟨l,hl2,rfl⟩:=List.mem_map.mp hz
     exact zb6 bS (by rw [zci,List.length_map];have:=lb l hl2;omega)
   ·show zcD g.1 (zcK fs n _).length
    rw [zdB,List.length_map]
    exact lk
end My
namespace My
open PySem L2
noncomputable def zdj:Nat→List Int
 | 0=>[]
 | n+1=>zaP (2 ^ n) * (zaP (2 ^ n)+1)::(zdj n).map fun v=>v+v * (zaP (2 ^ n)+1)
theorem zej (R:Nat):zaP R+1=((2 ^ R:Nat):Int):=by
 unfold zaP
 have:=Nat.two_pow_pos R
 omega
theorem zkh (n:Nat):zaP (2 ^ n)+zaP (2 ^ n) * (zaP (2 ^ n)+1)=zaP (2 ^ (n+1)):=by
 have h:=Nat.two_pow_pos (2 ^ n)
 have e: 2 ^ (2 ^ (n+1))=2 ^ 2 ^ n * 2 ^ 2 ^ n:=by rw [← Nat.pow_add];congr 1;rw [Nat.pow_succ];omega
 rw [zej]
 unfold zaP
 rw [e]
 generalize 2 ^ 2 ^ n=q at h
 obtain ⟨p,rfl⟩:∃ p,q=p+1:=⟨q - 1,by omega⟩
 have e2:(p+1) * (p+1) - 1=p+p * (p+1):=by
  rw [Nat.add_mul,Nat.one_mul]
  omega
 rw [e2,Nat.add_sub_cancel]
 push_cast
 rfl
theorem zfh {R a b:Nat}(hb:b < 2 ^ R)(j:Nat):(2 ^ R * a+b).testBit j=if j < R then b.testBit j else a.testBit (j - R):=Nat.testBit_two_pow_mul_add a hb j
theorem zhl {R a b:Nat}(ha:a < 2 ^ R)(hb:b < 2 ^ R): 2 ^ R * a+b < 2 ^ (R+R):=by
 rw [Nat.pow_add]
 have: 2 ^ R * a+2 ^ R≤2 ^ R * 2 ^ R:=by
  rw [← Nat.mul_succ]
  exact Nat.mul_le_mul_left _ ha
 omega
theorem zd4:∀ n,(∀ v∈zdj n,za0 (2 ^ n) v)∧(zdj n).length=n∧∀ j,j < 2 ^ n→(zaX n)[j]? =some ((zdj n).map (bitI j))
 | 0=>⟨(fun _ z=>nomatch z),rfl,fun j hj=>by
  have:j=0:=by simpa using hj
  subst this
  rfl⟩
 | n+1=>by
  obtain ⟨h1,h2,h3⟩:=zd4 n
  have hR: 2 ^ (n+1)=2 ^ n+2 ^ n:=by rw [Nat.pow_succ];omega
  have pos:=Nat.two_pow_pos (2 ^ n)
  have eh:zaP (2 ^ n) * (zaP (2 ^ n)+1)=((2 ^ 2 ^ n * (2 ^ 2 ^ n - 1)+0:Nat):Int):=by
   rw [zej]
   unfold zaP
   rw [Nat.add_zero,Nat.mul_comm]
   push_cast
   rfl
  have ev:∀ v:Nat,(v:Int)+(v:Int) * (zaP (2 ^ n)+1)=((2 ^ 2 ^ n * v+v:Nat):Int):=fun v=>by
   rw [zej,Nat.mul_comm]
   push_cast
   omega
  refine ⟨fun v hv=>?_,by show ((zdj n).map _).length+1=n+1;rw [List.length_map,h2],fun j hj=>?_⟩
  ·rw [hR]
   rcases List.mem_cons.mp (show v∈_::_ from hv) with rfl | hv
   ·rw [eh]
    exact zdp (zhl (by omega) pos)
   ·obtain ⟨u,hu,rfl⟩:=List.mem_map.mp hv
    obtain ⟨k,rfl,hk⟩:=zbF (h1 u hu)
    rw [ev k]
    exact zdp (zhl hk hk)
  ·rw [hR] at hj
   have bits:∀ i,bitI j (zaP (2 ^ n) * (zaP (2 ^ n)+1))=(if j < 2 ^ n then 0 else 1)∧∀ u∈zdj n,(i=if j < 2 ^ n then j else j - 2 ^ n)→bitI j (u+u * (zaP (2 ^ n)+1))=bitI i u:=fun i=>by
    constructor
    ·rw [eh,za8,zfh pos]
     by_cases h:j < 2 ^ n
     ·rw [if_pos h,if_pos h,Nat.zero_testBit]
      rfl
     ·rw [if_neg h,if_neg h,Nat.testBit_two_pow_sub_one,decide_eq_true (by omega)]
      rfl
    ·intro u hu hi
     obtain ⟨k,rfl,hk⟩:=zbF (h1 u hu)
     rw [ev k,za8,zfh hk,za8,hi]
     by_cases h:j < 2 ^ n
     ·rw [if_pos h,if_pos h]
     ·rw [if_neg h,if_neg h]
   show ((zaX n).map (0:: ·)++(zaX n).map (1:: ·))[j]? =some ((_::(zdj n).map _).map (bitI j))
   have ln:=zaZ n
   rw [List.map_cons,List.map_map]
   by_cases h:j < 2 ^ n
   ·rw [List.getElem?_append_left (by rw [List.length_map,ln];exact h),List.getElem?_map,h3 j h,(bits j).1,if_pos h]
    refine congrArg some (congrArg (List.cons 0) (List.map_congr_left fun u hu=>?_))
    exact ((bits j).2 u hu (by rw [if_pos h])).symm
   ·rw [List.getElem?_append_right (by rw [List.length_map,ln];omega),List.length_map,ln,List.getElem?_map,h3 (j - 2 ^ n) (by omega),(bits j).1,if_neg h]
    refine congrArg some (congrArg (List.cons 1) (List.map_congr_left fun u hu=>?_))
    exact ((bits (j - 2 ^ n)).2 u hu (by rw [if_neg h])).symm
noncomputable def zcS (xs ys:List Int):Int:=(xs.zip ys).foldl (fun u p=>Builtin.bitOr u (Builtin.bitXor p.1 p.2)) 0
theorem zdU {R:Nat}:∀ (xs ys:List Int) {a:Int},xs.length=ys.length→(∀ v∈xs,za0 R v)→(∀ v∈ys,za0 R v)→za0 R a→
  za0 R ((xs.zip ys).foldl (fun u p=>Builtin.bitOr u (Builtin.bitXor p.1 p.2)) a)∧∀ j,bitI j ((xs.zip ys).foldl (fun u p=>Builtin.bitOr u (Builtin.bitXor p.1 p.2)) a)=1↔bitI j a=1∨xs.map (bitI j)≠ys.map (bitI j)
 | [],[],a,_,_,_,ha=>⟨ha,fun j=>by show bitI j a=1↔_;simp⟩
 | x::xs,y::ys,a,hl,hx,hy,ha=>by
  obtain ⟨x1,x2⟩:=zeo (hx x (.head _)) (hy y (.head _))
  obtain ⟨o1,o2⟩:=zgk ha x1
  obtain ⟨h1,h2⟩:=zdU xs ys (a:=Builtin.bitOr a (Builtin.bitXor x y)) (Nat.succ.inj hl) (fun v hv=>hx v (.tail _ hv)) (fun v hv=>hy v (.tail _ hv)) o1
  refine ⟨h1,fun j=>?_⟩
  rw [List.zip_cons_cons,List.foldl_cons]
  refine (h2 j).trans ?_
  rw [o2 j,x2 j,List.map_cons,List.map_cons]
  have ba:=zeW j a
  have bx:=zeW j x
  have by':=zeW j y
  generalize bitI j a=p at *
  generalize bitI j x=q at *
  generalize bitI j y=r at *
  have hc:((q::xs.map (bitI j))≠(r::ys.map (bitI j)))↔(q≠r∨xs.map (bitI j)≠ys.map (bitI j)):=by
   constructor
   ·intro z
    by_cases e:q=r
    ·exact .inr fun z2=>z (by rw [e,z2])
    ·exact .inl e
   ·rintro (z | z) e
    ·injection e with e1 _
     exact z e1
    ·injection e with _ e2
     exact z e2
  rw [hc]
  have key:(Builtin.bitOr p (Builtin.bitXor q r)=1)↔(p=1∨q≠r):=by
   rcases ba with rfl | rfl <;> rcases bx with rfl | rfl <;> rcases by' with rfl | rfl <;> decide
  rw [key,or_assoc]
end My
namespace L2
open PySem PySem.Spec PyProof.Rows
noncomputable def Itz (a b:Addr):It:=
 ⟨fun i H => ∃ xs ys x y, H a = some (.lst xs) ∧ H b = some (.lst ys) ∧ xs[i]? = some x ∧ ys[i]? = some y,
  fun i H v H'=>∃ T x y,H T=none∧v= .ref T∧H'=upd H T (.tup [x,y])∧∀ xs ys,H a=some (.lst xs)→H b=some (.lst ys)→xs[i]? =some x∧ys[i]? =some y,
  fun i H=>∃ xs ys,H a=some (.lst xs)∧H b=some (.lst ys)∧(xs.length≤i∨ys.length≤i)⟩
theorem far {n:Nat}(i j:Nat)(h:i≠j):(n+i:Nat)≠n+j:=by omega
theorem Inv.turnedC {X:Cx}{pins:List (Addr×Obj)}{σ :St}{H:Hp}{s:Shared}{h':Heap}{t':Nat}{ch:List Addr}(I:Inv X pins σ H s)
  (hch:∀ b∈ch,FpOk X pins H b) (k:∀ b u,b∉ch→s.heap.get? b=some u→h'.get? b=some u):Inv X pins σ H {s with heap:=h',toks:=t'}:=by
 have nch:∀ c u,H c=some u→c∉ch:=fun c u e z=>by rw [(hch c z).1] at e;cases e
 refine I.step (g':=s.gens) (d':=s.drawn) (ch:=ch) (fun b hb=>⟨(hch b hb).2.2.2.1,(hch b hb).2.1,(hch b hb).2.2.2.2.1,(hch b hb).2.2.2.2.2⟩)
  (fun b u _ _ hc e _=>k b u hc e) (fun b u _ _ hc e _=>⟨u.slots,k b u hc e⟩) (fun _ _ _ _ q=>q) (fun b u hc e=>⟨u,k b u hc e⟩)
  (fun _ _ q=>q) (fun _ _ _ q=>q) (fun b ps q=>⟨#[],by rw [q];simp⟩) (fun m hm=>?_) (fun b u e=>?_) I.bare
 ·exact hm.at' fun ob e=>k _ ob (fun z=>(hch _ z).2.1 rfl) e
 ·refine (I.hok b u e).stay (fun c v hc q=>k c v ?_ q) (fun c q=>q) fun c xs q=>q
  rcases hc with rfl | hc
  ·exact nch _ _ e
  ·exact nch _ _ hc
theorem zh7 {n:Nat}{l1 l2:Addr}(a1:l1≠n+4)(a2:l1≠n+3)(a3:l1≠n)(a4:l1≠n+1)(b1:l2≠n+4)(b2:l2≠n+3)(b3:l2≠n)(b4:l2≠n+1):ZipApart (n+4) (n+2) (n+3) n (n+1) l1 l2:=
 ⟨far 2 4 (by decide),far 3 4 (by decide),far 0 4 (by decide),far 1 4 (by decide),far 2 3 (by decide),far 2 0 (by decide),far 2 1 (by decide),far 3 0 (by decide),far 3 1 (by decide),far 0 1 (by decide),a1,a2,a3,a4,b1,b2,b3,b4⟩
theorem zlc {P:Program}{w:World}{K:PySem.W.Frag}{elts:List Expr}{k:Nat}{tp:Pos}(a b:Addr)(n:Nat):
  Turn P w K (.Tuple elts k tp) (Itz a b) [n+4,n+2,n+3,n,n+1] (n+4)
   (fun i h=>IsZip h (n+4) (n+2) (n+3) .none∧IsPair h (n+2) (.ref n) (.ref (n+1))∧(∃ u v,IsPair h (n+3) u v)∧h.IsListIter n a i∧h.IsListIter (n+1) b i) where
 mem:=by simp
 obj:=fun i h st c hc=>by
  obtain ⟨hz,hI,⟨u,v,hO⟩,⟨o1,e1,_,d1⟩,⟨o2,e2,_,d2⟩⟩:=st
  simp only [List.mem_cons,List.not_mem_nil,or_false] at hc
  rcases hc with rfl | rfl | rfl | rfl | rfl
  ·exact ⟨_,hz,fun v z=>nomatch z⟩
  ·exact ⟨_,hI,fun v z=>nomatch z⟩
  ·exact ⟨_,hO,fun v z=>nomatch z⟩
  ·exact ⟨o1,e1,fun v z=>by rw [d1] at z;cases z⟩
  ·exact ⟨o2,e2,fun v z=>by rw [d2] at z;cases z⟩
 keep:=fun i h h' st kp=>by
  obtain ⟨hz,hI,⟨u,v,hO⟩,h1,h2⟩:=st
  exact ⟨kp _ (by simp) _ hz,kp _ (by simp) _ hI,⟨u,v,kp _ (by simp) _ hO⟩,h1.at fun o q=>kp _ (by simp) o q,h2.at fun o q=>kp _ (by simp) o q⟩
 item:=by
  intro X hP hw hK hc i pins s σ H E I hf st hg
  subst hP hw hK
  obtain ⟨hz,hI,⟨u,v,hO⟩,h1,h2⟩:=st
  obtain ⟨xs,ys,x,y,ha,hb,hx,hy⟩:=hg
  obtain ⟨its,rv,p1,_⟩:=I.list (.of ha)
  obtain ⟨its2,rv2,p2,_⟩:=I.list (.of hb)
  obtain ⟨u1,hu1,ru1⟩:=rv.get hx
  obtain ⟨u2,hu2,ru2⟩:=rv2.get hy
  have no:∀ {l:Addr} {o:HO},H l=some o→∀ c∈[n+4,n+2,n+3,n,n+1],l≠c:=fun e c hc z=>by
   rw [z,(hf c hc).1] at e
   cases e
  have D:ZipApart (n+4) (n+2) (n+3) n (n+1) a b:=zh7 (no ha (n+4) (by simp)) (no ha (n+3) (by simp)) (no ha n (by simp)) (no ha (n+1) (by simp)) (no hb (n+4) (by simp)) (no hb (n+3) (by simp)) (no hb n (by simp)) (no hb (n+1) (by simp))
  refine wpAny_pyNext_zip_item D hz hI hO h1 h2 p1.isList p2.isList (x:=u1) (y:=u2) (by simpa using hu1) (by simpa using hu2) fun h' z1 z2 z3 z4 z5 z6 hk=>?_
  have new:∀ {c:Addr} {o:Obj},s.heap.get? c=some o→c≠s.heap.objs.size:=fun e=>Nat.ne_of_lt (Heap.lt_size e)
  have I1:Inv X pins σ (upd H s.heap.objs.size (.tup [x,y])) {s with heap:=h'}:=
   I.laidC (t':=s.toks) (ch:=[n+4,n+2,n+3,n,n+1]) hf (fun c o hc q=>hk c o (fun z=>hc (by simp [z])) (fun z=>hc (by simp [z])) (fun z=>hc (by simp [z])) (fun z=>hc (by simp [z])) q) (Nat.le_refl _)
    ⟨(by show 2≤sizeLine;decide),[u1,u2],.cons ru1 (.cons ru2 .nil),_,z5,rfl,_,rfl⟩
  refine ⟨_,rfl,wpAny_letOwnedTupleGo_zip z1 fun h2' w1 sb=>?_⟩
  have fz:=hf (n+4) (by simp)
  have I2:Inv X pins σ (upd H s.heap.objs.size (.tup [x,y])) {s with heap:=h2'}:=
   I1.turned (t':=s.toks) (fun c o hc q=>(sb.2 c hc).trans q) (by rw [zai (new hz)];exact fz.1) fz.2.1 fz.2.2.2.1 fz.2.2.2.2.1 fz.2.2.2.2.2
  refine ⟨.ref s.heap.objs.size,_,I2,rfl,⟨_,x,y,I.hok.fresh (Nat.le_refl _),rfl,rfl,fun xs' ys' hxs hys=>?_⟩,⟨w1,?_,⟨u1,u2,?_⟩,?_,?_⟩,fun c hc=>?_⟩
  ·rw [ha] at hxs
   rw [hb] at hys
   cases hxs
   cases hys
   exact ⟨hx,hy⟩
  ·exact sb.extBut _ _ (far 2 4 (by decide)) (hk _ _ (far 2 4 (by decide)) (far 2 3 (by decide)) (far 2 0 (by decide)) (far 2 1 (by decide)) hI)
  ·exact sb.extBut _ _ (far 3 4 (by decide)) z2
  ·exact z3.extBut sb.extBut (far 0 4 (by decide))
  ·exact z4.extBut sb.extBut (far 1 4 (by decide))
  ·have hn:c≠s.heap.objs.size:=by
    simp only [List.mem_cons,List.not_mem_nil,or_false] at hc
    rcases hc with rfl | rfl | rfl | rfl | rfl
    ·exact new hz
    ·exact new hI
    ·exact new hO
    ·obtain ⟨o,e,_⟩:=h1;exact new e
    ·obtain ⟨o,e,_⟩:=h2;exact new e
   rw [zai hn]
   exact (hf c hc).1
 done:=by
  intro X hP hw hK hc i pins s σ H E I hf st hg
  subst hP hw hK
  obtain ⟨hz,hI,⟨u,v,hO⟩,h1,h2⟩:=st
  obtain ⟨xs,ys,ha,hb,hx⟩:=hg
  obtain ⟨its,rv,p1,_⟩:=I.list (.of ha)
  obtain ⟨its2,rv2,p2,_⟩:=I.list (.of hb)
  have no:∀ {l:Addr} {o:HO},H l=some o→∀ c∈[n+4,n+2,n+3,n,n+1],l≠c:=fun e c hc z=>by
   rw [z,(hf c hc).1] at e
   cases e
  have D:ZipApart (n+4) (n+2) (n+3) n (n+1) a b:=zh7 (no ha (n+4) (by simp)) (no ha (n+3) (by simp)) (no ha n (by simp)) (no ha (n+1) (by simp)) (no hb (n+4) (by simp)) (no hb (n+3) (by simp)) (no hb n (by simp)) (no hb (n+1) (by simp))
  have l1:=rv.length
  have l2:=rv2.length
  refine wpAny_pyNext_zip_end (I.ok.hd hc) D hz hI hO h1 h2 p1.isList p2.isList (hx.elim (fun q=>.inl (by simp;omega)) fun q=>.inr (by simp;omega)) fun h' hk=>⟨rfl,?_⟩
  exact I.turnedC (t':=s.toks) (ch:=[n+4,n+2,n+3,n,n+1]) hf fun c o hc q=>hk c o (fun z=>hc (by simp [z])) (fun z=>hc (by simp [z])) (fun z=>hc (by simp [z])) (fun z=>hc (by simp [z])) q
 self:=fun _ _ _ _ _ st h=>wpAny_pyIter_zip st.1 h
noncomputable def iZip (ta:TA):TI:=fun σ H R=>ta σ H fun vs H1=>∃ a b xs ys,vs= [.ref a,.ref b]∧H1 a=some (.lst xs)∧H1 b=some (.lst ys)∧R (Itz a b) H1
theorem pi_zip {X:Cx}{e1 e2:Expr}{ta:TA}{p pos tp:Pos}{elts:List Expr}{k:Nat}(hg:Gl X "zip")(hm:X.mg "zip" =none)(ha:PA X [e1,e2] ta)
  (hs:starEach [e1,e2] X.env= [(false,eval e1 X.env),(false,eval e2 X.env)]:=by rfl) (hs2:starEach [e2] X.env= [(false,eval e2 X.env)]:=by rfl):PI X (.Tuple elts k tp) (.Call (.Name "zip" p) [e1,e2] [] pos) (iZip ta):=by
 intro pins s σ H R I h
 refine Call_ (zf4 I hg hm boot_zip (PyProof.Rows.callWith_type1 (thn (ha pos pins s σ H _ I h) fun us s1 ⟨vs,H1,I1,r1,q1⟩=>?_) (by rw [hs,hs2]) (by rw [hs2];rfl)))
 obtain ⟨a,b,xs,ys,e,ha',hb',q⟩:=q1
 subst e
 cases r1 with
 | cons r rr=>
  cases rr with
  | cons r' rr=>
   cases rr
   cases r
   cases r'
   obtain ⟨its,rv,p1,_⟩:=I1.list (.of ha')
   obtain ⟨its2,rv2,p2,_⟩:=I1.list (.of hb')
   refine call_zip_2 p1.isList p2.isList fun h' z1 z2 z3 z4 z5 z6 hk=>wpAny_pyIter_zip z1 ?_
   refine ⟨s1.heap.objs.size+4,[s1.heap.objs.size+4,s1.heap.objs.size+2,s1.heap.objs.size+3,s1.heap.objs.size,s1.heap.objs.size+1],_,_,H1,rfl,I1.kept (t':=s1.toks) hk,zlc a b s1.heap.objs.size,⟨z1,z2,⟨_,_,z3⟩,z4,z5⟩,fun c hc=>?_,q⟩
   have le:s1.heap.objs.size≤c:=by
    simp only [List.mem_cons,List.not_mem_nil,or_false] at hc
    rcases hc with rfl | rfl | rfl | rfl | rfl
    ·exact Nat.le_add_right _ _
    ·exact Nat.le_add_right _ _
    ·exact Nat.le_add_right _ _
    ·exact Nat.le_refl _
    ·exact Nat.le_add_right _ _
   exact I1.fpOk le (I1.hok.fresh le)
theorem zhN {a b:Addr}{xs ys:List V}{g:TG}{tb:TS}{D:Ends}{σ :St}{H:Hp}(hlen:xs.length=ys.length)(Pv:Nat→St→Hp→Prop)(h0:Pv 0 σ H)
  (hl:∀ i σ H,i≤xs.length→Pv i σ H→H a=some (.lst xs)∧H b=some (.lst ys))
  (hs:∀ i x y σ H T,xs[i]? =some x→ys[i]? =some y→Pv i σ H→H T=none→g (.ref T) σ (upd H T (.tup [x,y])) fun σ2 H2=>tb {D with nx:=Pv (i+1),ct:=Pv (i+1),bk:=D.nx} σ2 H2)
  (hd:∀ σ H,Pv xs.length σ H→D.nx σ H):
  ∃ W:Nat→Nat→St→Hp→Prop,(∃ m,W 0 m σ H)∧∀ i m σ H,W i m σ H→
   ((Itz a b).stop i H ∧ D.nx σ H) ∨ ((Itz a b).go i H ∧ ∃ N : St → Hp → Prop, (∀ σ' H', N σ' H' → ∃ m', m' < m ∧ W (i + 1) m' σ' H') ∧
     ∀ x H',(Itz a b).yld i H x H'→g x σ H' fun σ2 H2=>tb {D with nx:=N,ct:=N,bk:=D.nx} σ2 H2):=by
 refine ⟨fun i m σ H=>m=xs.length - i∧i≤xs.length∧Pv i σ H,⟨xs.length,by simp,Nat.zero_le _,h0⟩,?_⟩
 rintro i m σ H ⟨rfl,hi,p⟩
 obtain ⟨qa,qb⟩:=hl i σ H hi p
 by_cases hlt:i < xs.length
 ·refine .inr ⟨⟨xs,ys,xs[i],ys[i],qa,qb,by simp [hlt],List.getElem?_eq_getElem _⟩,Pv (i+1),fun σ' H' p'=>⟨xs.length - (i+1),by omega,rfl,hlt,p'⟩,fun x H' y=>?_⟩
  obtain ⟨T,u,v,hT,e1,e2,y⟩:=y
  subst e1 e2
  obtain ⟨y1,y2⟩:=y xs ys qa qb
  exact hs i u v σ H T y1 y2 p hT
 ·have e:i=xs.length:=by omega
  subst e
  exact .inl ⟨⟨xs,ys,qa,qb,.inl (Nat.le_refl _)⟩,hd σ H p⟩
theorem zhO {X:Cx}{e1 e2:Expr}{ta:TA}{p pos tp:Pos}{elts:List Expr}{k:Nat}(hg:Gl X "zip")(hm:X.mg "zip" =none)(ha:Bx (PA X [e1,e2] ta))
  (hs:starEach [e1,e2] X.env= [(false,eval e1 X.env),(false,eval e2 X.env)]:=by rfl) (hs2:starEach [e2] X.env= [(false,eval e2 X.env)]:=by rfl):Bx (PI X (.Tuple elts k tp) (.Call (.Name "zip" p) [e1,e2] [] pos) (iZip ta)):=⟨pi_zip hg hm ha.1 hs hs2⟩
theorem zke {X:Cx}:MtR X "int.bit_length" (fun x xs H Q=>∃ i:Int,x= .int i∧xs= []∧Q (.int ((Builtin.Int.intBits i:Nat):Int)) H):=by
 intro pins s σ H x xs v us Q I rx rs h
 obtain ⟨i,rfl,rfl,q⟩:=h
 obtain ⟨t,rfl⟩:=rx
 cases rs
 exact call_int_bit_length ⟨.int _,H,I.kept (t':=s.toks+1) fun _ _ e=>e,⟨_,rfl⟩,q⟩
theorem zms (n:Nat):n < 2 ^ Builtin.Int.intBits (n:Int):=by
 unfold Builtin.Int.intBits
 by_cases h:n=0
 ·subst h
  decide
 ·have:((n:Int)==0)=false:=by simpa using h
  rw [this]
  show n < 2 ^ ((n:Int).natAbs.log2+1)
  rw [Int.natAbs_natCast]
  exact Nat.lt_log2_self
end L2
namespace L2
open PySem PySem.Spec PyProof.Rows
noncomputable def EntD (h:Heap) (d:Addr) (es:Array DictEntry) (ep:Nat):Prop:=∃ ob,h.get? d=some ob∧ob.ExactDict∧ob.data= .dict es ep
section
variable {prog:Program} {w:World} {A:Around} {E:Value→Shared→Prop} {s:Shared}
theorem ziy {d:Addr}{es:Array DictEntry}{ep:Nat}{Q:Value→Shared→Prop}(nd:(d==sysModules)=false)(hE:EntD s.heap d es ep)
  (q:Q (.ref s.heap.objs.size) {s with heap:=s.heap.push {cls:=.type "dict_items",data:=.fields #[.ref d]}}):wpAny (model prog w) A (call (.builtin "dict.items") [.ref d]) Q E s:=by
 obtain ⟨ob,e1,⟨e2,_,_⟩,e3⟩:=hE
 have ty:s.TypeIs (.ref d) "dict" :=⟨ob,e1,e2⟩
 refine wpAny_call_entry PySem.F.slot_dict_items ty PySem.F.entry_dict_items ?_ (PySem.F.args_dict_items_1 _)
 unfold Builtin.«dict.items» Builtin.Dict.noArgs
 refine wpAny_bind (wpAny_bind (wpAny_notOrdered_dict ty ?_))
 show wpAny _ _ (pure d) _ _ s
 refine wpAny_pure (?_:wpAny _ _ (Builtin.Dict.showsAll d >>=_) _ _ s)
 unfold Builtin.Dict.showsAll
 rw [nd]
 exact wpAny_bind (wpAny_pure (wpAny_bind (wpAny_newObj_type (wpAny_pure ⟨_,rfl,q⟩))))
theorem ziF {v d:Addr}{es:Array DictEntry}{ep:Nat}{Q:Value→Shared→Prop}(hv:s.heap.IsItemsView v d)(hE:EntD s.heap d es ep)
  (q:Q (.ref s.heap.objs.size) {s with heap:=s.heap.push {cls:=.type "dict_itemiterator",data:=.fields #[.none,.bool false,.ref d,.int 0 0,.int es.size 0,.int ep 0,.none,.none]}}):
  wpAny (model prog w) A (pyIter (.ref v)) Q E s:=by
 obtain ⟨vo,v1,v2,v3⟩:=id hv
 obtain ⟨ob,e1,_,e3⟩:=hE
 refine wpAny_pyIter_slot hv.typeIs PySem.F.slot_dict_items_iter (wpAny_call_entry PySem.F.slot_dict_items_iter hv.typeIs PySem.F.entry_dict_items_iter ?_ (PySem.F.args_dict_items_iter_1 _))
 unfold Builtin.«dict_items.__iter__»
 refine wpAny_bind (wpAny_pure (wpAny_bind ?_))
 unfold Builtin.Dict_items.dictOf
 refine wpAny_bind (wpAny_field v1 v3 (x:=.ref d) rfl (wpAny_pure (wpAny_bind ?_)))
 unfold Builtin.Dict_items.newIterator
 refine wpAny_bind (wpAny_dictEntries e1 e3 (wpAny_bind (wpAny_dictEpoch e1 e3 ?_)))
 simp only [show Builtin.Dict_items.ownsTuple "dict_itemiterator" =true by decide,if_true]
 refine wpAny_newObj_type (wpAny_pure ⟨_,rfl,"dict_itemiterator",_,⟨_,Heap.get?_push_size _ rfl,rfl⟩,PySem.F.slot_dict_itemiterator_next.lookup,?_⟩)
  (by simp only [sizeOk,Builtin.Dict_items.ownedTupleFields,List.size_toArray,List.length_append,List.length_cons,List.length_nil,sizeLine_eq];omega)
 simpa [rawInt,Builtin.Dict_items.ownedTupleFields] using q
theorem ziL {it d:Addr}{i ep:Nat}{es:Array DictEntry}{en:DictEntry}{a b:Value}{Q:Option Value→Shared→Prop}(hJ:IsItemIter s.heap it d i es.size ep a b)(hE:EntD s.heap d es ep)(hx:es[i]? =some en)
  (q:∀ h',IsItemIterOut h' it d (i+1) es.size ep en.key en.val s.heap.objs.size→h'.get? s.heap.objs.size=some {cls:=.type "tuple",data:=.seq #[en.key,en.val]}→
   (∀ c o,c≠it→s.heap.get? c=some o→h'.get? c=some o)→Q (some (.ref s.heap.objs.size)) {s with heap:=h'}):wpAny (model prog w) A (pyNext (.ref it)) Q E s:=by
 obtain ⟨hp,gg,dr,tk,os⟩:=s
 obtain ⟨ob,e1,_,e3⟩:=hE
 have ty:Shared.TypeIs ⟨hp,gg,dr,tk,os⟩ (.ref it) "dict_itemiterator" :=⟨_,hJ,rfl⟩
 have li:i < es.size:=(Array.getElem?_eq_some_iff.mp hx).1
 have ei:es[i]=en:=(Array.getElem?_eq_some_iff.mp hx).2
 unfold pyNext
 refine wpAny_bind (wpAny_attempt (wpAny_callSpecial?_slot (name:=Str.ofString "__next__") ty PySem.F.slot_dict_itemiterator_next
  (wpAny_call_entry PySem.F.slot_dict_itemiterator_next ty PySem.F.entry_dict_itemiterator_next ?_ (PySem.F.args_dict_itemiterator_next_1 _))))
 refine wpAny_bind (wpAny_pure (wpAny_bind (wpAny_bind ?_)))
 first | refine wpAny_bind (wpAny_typeNameOfWhole_itemiter ty (wpAny_pure ?_)) | refine wpAny_bind (wpAny_typeNameOf_itemiter ty (wpAny_pure ?_))
 refine wpAny_bind (wpAny_fieldsOf hJ rfl ?_)
 simp only [show Builtin.Dict_items.ownsTuple "dict_itemiterator" =true by decide,if_true]
 show wpAny _ _ (if (Value.ref d==Value.none)=true then _ else _) _ _ _
 rw [show (Value.ref d==Value.none)=false from rfl,if_neg Bool.false_ne_true]
 refine wpAny_bind (wpAny_pure (wpAny_bind (wpAny_dictEntries e1 e3 ?_)))
 rw [if_neg (by simp)]
 refine wpAny_bind (wpAny_pure (wpAny_bind (wpAny_dictEpoch e1 e3 ?_)))
 rw [if_neg (by simp)]
 refine wpAny_pure ?_
 simp only [show ¬(i:Int) < 0 from by omega,if_false,Int.toNat_natCast,hx]
 refine wpAny_bind ?_
 first | refine wpAny_bind (wpAny_typeNameOfWhole_itemiter ty (wpAny_pure ?_)) | refine wpAny_bind (wpAny_typeNameOf_itemiter ty (wpAny_pure ?_))
 refine wpAny_bind (wpAny_isOneOf_itemiter ty ?_)
 show wpAny _ _ (setField (.ref it) 3 (rawInt ((i:Int)+1)) >>=_) _ _ ⟨hp,gg,dr,tk,os⟩
 refine wpAny_bind (wpAny_setField_rec hJ (by simp) fun k1 j1 t1=>?_)
 have t1':Heap.SameBut it hp k1:=t1
 have j1':IsItemIter k1 it d (i+1) es.size ep a b:=by
  unfold IsItemIter
  rw [show ((i+1:Nat):Int)=(i:Int)+1 by omega]
  simpa [rawInt] using j1
 have ty1:Shared.TypeIs ⟨k1,gg,dr,tk,os⟩ (.ref it) "dict_itemiterator" :=⟨_,j1',rfl⟩
 refine wpAny_bind (wpAny_holding (wpAny_bind (wpAny_isOneOf_itemiter ty1 (wpAny_bind (wpAny_isOneOf_itemiter ty1 ?_)))))
 show wpAny _ _ (Builtin.Dict_items.pairFromOwner (.ref it) 6 en.key en.val) _ _ ⟨k1,gg,dr,tk,os⟩
 unfold Builtin.Dict_items.pairFromOwner
 refine wpAny_bind (wpAny_newTuple ?_)
 have size1:k1.objs.size=hp.objs.size:=t1'.1
 have lit:it < hp.objs.size:=Heap.lt_size hJ
 obtain ⟨k2,ek2⟩:∃ k2,k1.push {cls:=.type "tuple",data:=.seq #[en.key,en.val]}=k2:=⟨_,rfl⟩
 have j2:IsItemIter k2 it d (i+1) es.size ep a b:=by rw [← ek2];exact Heap.get?_push_of_some _ j1'
 have p2:k2.get? hp.objs.size=some {cls:=.type "tuple",data:=.seq #[en.key,en.val]}:=by rw [← ek2,← size1];exact Heap.get?_push_size _ rfl
 have m2:∀ c o,c≠it→hp.get? c=some o→k2.get? c=some o:=fun c o hc e=>by rw [← ek2];exact Heap.get?_push_of_some _ (t1'.extBut c o hc e)
 show wpAny _ _ (Builtin.Dict_items.ownedTupleIsFree (.ref it) >>=_) _ _ ⟨k1.push {cls:=.type "tuple",data:=.seq #[en.key,en.val]},gg,dr,tk,os⟩
 rw [ek2,size1]
 refine wpAny_bind ?_
 unfold Builtin.Dict_items.ownedTupleIsFree
 refine wpAny_bind (wpAny_field j2 rfl (x:=.none) rfl (wpAny_pure ?_))
 simp only [if_true]
 refine wpAny_bind (wpAny_field j2 rfl (x:=a) rfl (wpAny_bind (wpAny_field j2 rfl (x:=b) rfl ?_)))
 refine wpAny_bind (wpAny_setField_rec j2 (by simp) fun k3 j3 t3=>?_)
 have j3':IsItemIter k3 it d (i+1) es.size ep en.key b:=j3
 refine wpAny_bind (wpAny_setField_rec j3' (by simp) fun k4 j4 t4=>?_)
 have j4':IsItemIter k4 it d (i+1) es.size ep en.key en.val:=j4
 refine wpAny_bind (wpAny_setField_rec j4' (by simp) fun k5 j5 t5=>?_)
 have j5':IsItemIterOut k5 it d (i+1) es.size ep en.key en.val hp.objs.size:=j5
 refine wpAny_bind (wpAny_setField_rec j5' (by simp) fun k6 j6 t6=>?_)
 have j6':IsItemIterOut k6 it d (i+1) es.size ep en.key en.val hp.objs.size:=j6
 have all:∀ c o,c≠it→k2.get? c=some o→k6.get? c=some o:=fun c o hc e=>
  Heap.SameBut.extBut (show Heap.SameBut it k5 k6 from t6) c o hc (Heap.SameBut.extBut (show Heap.SameBut it k4 k5 from t5) c o hc (Heap.SameBut.extBut (show Heap.SameBut it k3 k4 from t4) c o hc (Heap.SameBut.extBut (show Heap.SameBut it k2 k3 from t3) c o hc e)))
 exact wpAny_bind (wpAny_letGo (wpAny_pure (wpAny_pure ⟨_,rfl,wpAny_pure (q k6 j6' (all _ _ (Nat.ne_of_gt lit) p2) fun c o hc e=>all c o hc (m2 c o hc e))⟩)))
theorem zi8 {it d:Addr}{i ep:Nat}{es:Array DictEntry}{a b:Value}{Q:Option Value→Shared→Prop}(hh:A.handled=none)(hJ:IsItemIter s.heap it d i es.size ep a b)(hE:EntD s.heap d es ep)(hx:es.size≤i)
  (q:∀ h',Heap.ExtBut it s.heap h'→Q none {s with heap:=h'}):wpAny (model prog w) A (pyNext (.ref it)) Q E s:=by
 obtain ⟨ob,e1,_,e3⟩:=hE
 have ty:s.TypeIs (.ref it) "dict_itemiterator" :=⟨_,hJ,rfl⟩
 unfold pyNext
 refine wpAny_bind (wpAny_attempt (wpAny_callSpecial?_slot (name:=Str.ofString "__next__") ty PySem.F.slot_dict_itemiterator_next
  (wpAny_call_entry PySem.F.slot_dict_itemiterator_next ty PySem.F.entry_dict_itemiterator_next ?_ (PySem.F.args_dict_itemiterator_next_1 _))))
 refine wpAny_bind (wpAny_pure (wpAny_bind (wpAny_bind ?_)))
 first | refine wpAny_bind (wpAny_typeNameOfWhole_itemiter ty (wpAny_pure ?_)) | refine wpAny_bind (wpAny_typeNameOf_itemiter ty (wpAny_pure ?_))
 refine wpAny_bind (wpAny_fieldsOf hJ rfl ?_)
 simp only [show Builtin.Dict_items.ownsTuple "dict_itemiterator" =true by decide,if_true]
 show wpAny _ _ (if (Value.ref d==Value.none)=true then _ else _) _ _ s
 rw [show (Value.ref d==Value.none)=false from rfl,if_neg Bool.false_ne_true]
 refine wpAny_bind (wpAny_pure (wpAny_bind (wpAny_dictEntries e1 e3 ?_)))
 rw [if_neg (by simp)]
 refine wpAny_bind (wpAny_pure (wpAny_bind (wpAny_dictEpoch e1 e3 ?_)))
 rw [if_neg (by simp)]
 refine wpAny_pure ?_
 simp only [show ¬(i:Int) < 0 from by omega,if_false,Int.toNat_natCast,Array.getElem?_eq_none hx]
 refine wpAny_bind ?_
 first | refine wpAny_bind (wpAny_typeNameOfWhole_itemiter ty (wpAny_pure ?_)) | refine wpAny_bind (wpAny_typeNameOf_itemiter ty (wpAny_pure ?_))
 show wpAny _ _ (setField (.ref it) 2 .none >>=_) _ _ s
 refine wpAny_bind (wpAny_setField hJ rfl (by simp) ?_)
 show wpAny _ _ (newExc (.type "StopIteration") [] >>=_) _ _ _
 refine wpAny_bind ?_
 simp only [newExc,newTuple]
 refine wpAny_bind (wpAny_newObj_type ?_ (by size_fits))
 refine wpAny_bind (m:=firstArgMember _ _) (wpAny_of_eq (a:=Value.none) (by first | rfl | (simp only [firstArgMember];rfl)) (wpAny_newObj_type ?_ (by size_fits)))
 simp only [raiseNew]
 refine wpAny_bind (wpAny_handled ?_)
 rw [show A.in1.handled=none from hh]
 refine wpAny_bind (wpAny_pure (wpAny_throw (?_:wpAny _ _ _ _ _ _)))
 refine wpAny_bind (wpAny_isInstance (b:=true) (T:="StopIteration") ⟨_,Heap.get?_push_size _ rfl,rfl⟩ isSubtype_stop ?_)
 exact wpAny_pure (q _ (((Heap.SameBut.update ..).extBut.push _).push _))
end
theorem Inv.freeze {X:Cx}{pins:List (Addr×Obj)}{σ :St}{H:Hp}{s:Shared}{d:Addr}{kvs:List (List Key×V)}{ob:Obj}(I:Inv X pins σ H s)(hd:H d=some (.dT kvs))(ho:s.heap.get? d=some ob):
  Inv X pins σ (upd H d (.frz ob (.dT kvs))) s:=by
 have nT:∀ {b:Addr} {u:HO},H b=some u→u≠.dT kvs→b≠d:=fun e n z=>by
  rw [z,hd] at e
  exact n (Option.some.inj e).symm
 refine I.step (h':=s.heap) (g':=s.gens) (d':=s.drawn) (t':=s.toks) (ch:=[]) (fun b hb=>(List.not_mem_nil hb).elim) (fun b u _ _ _ e _=>e) (fun b u _ _ _ e _=>⟨u.slots,e⟩)
  (fun b u _ _ n=>by rw [zai (fun z=>by rw [z,hd] at n;cases n)];exact n) (fun b u _ e=>⟨u,e⟩)
  (fun b xs q=>by rw [zai (nT q (fun z=>by cases z))];exact q) (fun b u xs q=>by rw [zai (nT q (fun z=>by cases z))];exact q)
  (fun b ps q=>⟨#[],by rw [zai (nT q (fun z=>by cases z)),q];simp⟩) (fun m hm=>hm) (fun b u e=>?_) I.bare
 have go:∀ u',zbm X.prog X.w H s.heap b u'→zbm X.prog X.w (upd H d (.frz ob (.dT kvs))) s.heap b u':=fun u' h=>
  h.stay (fun c v _ q=>q) (fun c q=>by rw [zai (nT q (fun z=>by cases z))];exact q) fun c xs q=>q.keep fun u eu hu=>by rw [zai (nT eu (fun z=>by obtain ⟨ys,hu | ⟨_,hu⟩⟩:=hu <;> (rw [hu] at z;cases z)))];exact eu
 by_cases hb:b=d
 ·subst hb
  rw [zab] at e
  cases e
  exact ⟨ho,go _ (I.hok b _ hd)⟩
 ·rw [zai hb] at e
  exact go u (I.hok b u e)
noncomputable def Iti (d:Addr) (ob:Obj):It:=
 ⟨fun i H => ∃ kvs p, H d = some (.frz ob (.dT kvs)) ∧ kvs[i]? = some p,
  fun i H v H'=>∃ T b k x,H T=none∧v= .ref T∧H'=upd H T (.tup [.ref b,x])∧RdT H b (k.map kV)∧∀ kvs,H d=some (.frz ob (.dT kvs))→kvs[i]? =some (k,x),
  fun i H=>∃ kvs,H d=some (.frz ob (.dT kvs))∧kvs.length≤i⟩
theorem zaY {α β :Type}{r: α→β→Prop}:∀ {xs:List α} {ys:List β} {i:Nat} {x: α},Paired r xs ys→xs[i]? =some x→∃ y,ys[i]? =some y∧r x y
 | _,_,0,_,.cons h _,e=>by cases e;exact ⟨_,rfl,h⟩
 | _,_,i+1,_,.cons _ t,e=>zaY (i:=i) t e
theorem zeD {X:Cx}{pins:List (Addr×Obj)}{σ :St}{H:Hp}{s:Shared}{d:Addr}{ob:Obj}{kvs:List (List Key×V)}{es:Array DictEntry}{ep:Nat}(I:Inv X pins σ H s)(hd:H d=some (.frz ob (.dT kvs)))(hx:ob.ExactDict)(he:ob.data= .dict es ep):
  EntD s.heap d es ep∧es.size=kvs.length∧∀ (i:Nat) p,kvs[i]? =some p→∃ (en:DictEntry) (b:Addr),es[i]? =some en∧en.key= .ref b∧RdT H b (p.1.map kV)∧RelV p.2 en.val:=by
 obtain ⟨h1,_,_,xs,pr,o,es',ep',e1,_,e3,e4,_⟩:=(show zbm X.prog X.w H s.heap d (.frz ob (.dT kvs)) from I.hok d _ hd)
 rw [h1] at e1
 cases e1
 rw [he] at e3
 cases e3
 have ls:es.size=xs.length:=by
  have:=congrArg List.length e4
  simpa using this
 refine ⟨⟨ob,h1,hx,he⟩,by rw [ls];exact (Paired.length pr).symm,fun i p hp=>?_⟩
 obtain ⟨y,hy,r1,r2,r3⟩:=zaY pr hp
 have hz:es.toList[i]? =some (entryOfKey (tupleKind (zaG X.prog X.w)) y):=by rw [e4,List.getElem?_map,hy];rfl
 exact ⟨_,y.2.1,by simpa using hz,rfl,r2,r3⟩
theorem ziw {P:Program}{w:World}{K:PySem.W.Frag}{elts:List Expr}{k:Nat}{tp:Pos}{ob:Obj}{es:Array DictEntry}{ep:Nat}(d it:Addr)(hx:ob.ExactDict)(he:ob.data= .dict es ep):
  Turn P w K (.Tuple elts k tp) (Iti d ob) [it] it (fun i h=>∃ u v,IsItemIter h it d i es.size ep u v) where
 mem:=by simp
 obj:=fun i h st c hc=>by
  obtain ⟨u,v,hJ⟩:=st
  rw [List.mem_singleton.mp hc]
  exact ⟨_,hJ,fun v z=>nomatch z⟩
 keep:=fun i h h' st kp=>by
  obtain ⟨u,v,hJ⟩:=st
  exact ⟨u,v,kp it (by simp) _ hJ⟩
 item:=by
  intro X hP hw hK hc i pins s σ H E I hf st hg
  subst hP hw hK
  obtain ⟨u,v,hJ⟩:=st
  obtain ⟨kvs,p,hd,hp⟩:=hg
  obtain ⟨hE,hz,each⟩:=zeD I hd hx he
  obtain ⟨en,b,h1,h2,h3,h4⟩:=each i p hp
  have fi:=hf it (by simp)
  have iT:it≠s.heap.objs.size:=Nat.ne_of_lt (Heap.lt_size hJ)
  refine ziL hJ hE h1 fun h' z1 z2 hk=>?_
  have I1:Inv X pins σ (upd H s.heap.objs.size (.tup [.ref b,p.2])) {s with heap:=h'}:=
   I.laidC (t':=s.toks) (ch:=[it]) hf (fun c o hc q=>hk c o (fun z=>hc (by simp [z])) q) (Nat.le_refl _)
    ⟨(by show 2≤sizeLine;decide),[en.key,en.val],.cons h2 (.cons h4 .nil),_,z2,rfl,_,rfl⟩
  refine ⟨_,rfl,wpAny_letOwnedTupleGo_items z1 fun h2' w1 sb=>?_⟩
  have I2:Inv X pins σ (upd H s.heap.objs.size (.tup [.ref b,p.2])) {s with heap:=h2'}:=
   I1.turned (t':=s.toks) (fun c o hc q=>(sb.2 c hc).trans q) (by rw [zai iT];exact fi.1) fi.2.1 fi.2.2.2.1 fi.2.2.2.2.1 fi.2.2.2.2.2
  refine ⟨.ref s.heap.objs.size,_,I2,rfl,⟨_,b,p.1,p.2,I.hok.fresh (Nat.le_refl _),rfl,rfl,h3,fun kvs' hd'=>?_⟩,⟨_,_,w1⟩,fun c hc=>?_⟩
  ·rw [hd] at hd'
   cases hd'
   exact hp
  ·rw [List.mem_singleton.mp hc,zai iT]
   exact fi.1
 done:=by
  intro X hP hw hK hc i pins s σ H E I hf st hg
  subst hP hw hK
  obtain ⟨u,v,hJ⟩:=st
  obtain ⟨kvs,hd,hp⟩:=hg
  obtain ⟨hE,hz,_⟩:=zeD I hd hx he
  have fi:=hf it (by simp)
  exact zi8 (I.ok.hd hc) hJ hE (by omega) fun h' eb=>⟨rfl,I.turned (t':=s.toks) (fun c o hc q=>eb c o hc q) fi.1 fi.2.1 fi.2.2.2.1 fi.2.2.2.2.1 fi.2.2.2.2.2⟩
 self:=fun A i s Q E st h=>by
  obtain ⟨u,v,hJ⟩:=st
  exact PySem.W.kcp_self hJ h
noncomputable def zlK (td:TE):TI:=fun σ H R=>td σ H fun x H1=>∃ d kvs,x= .ref d∧H1 d=some (.dT kvs)∧∀ ob,R (Iti d ob) (upd H1 d (.frz ob (.dT kvs)))
theorem zkT {X:Cx}{o:Expr}{td:TE}{apos cpos tp:Pos}{elts:List Expr}{k:Nat}(ho:PE X o td)
  (hbase:attributeBase o "items" X.env (eval o X.env)=eval o X.env:=by rfl) (hline:(apos.endLine==cpos.line)=true:=by rfl):PI X (.Tuple elts k tp) (.Call (.Attribute o "items" apos) [] [] cpos) (zlK td):=by
 intro pins s σ H R I h
 refine wpAny_Call_method0_late hbase hline (thn (ho pins s σ H _ I h) fun v s1 ⟨x,H1,I1,r1,d,kvs,ex,hd,q⟩=>?_)
 subst ex
 cases r1
 obtain ⟨_,nsys,xs,pr,ob,es,ep,e1,e2,e3,e4,e5⟩:=(show zbm X.prog X.w H1 s1.heap d (.dT kvs) from I1.hok d _ hd)
 have I2:=I1.freeze hd e1
 refine ⟨"dict","dict.items",PySem.F.plainAttrs_dict,PySem.F.slot_dict_items,PySem.F.type_dict_items,⟨ob,e1,e2.1⟩,fun a z=>by cases z;exact ⟨ob,e1,e2.2.1⟩,Calls.callWith_builtin rfl (PySem.evalArgs_none ?_)⟩
 refine ziy (es:=es) (ep:=ep) nsys ⟨ob,e1,e2,e3⟩ ?_
 have hE:EntD (s1.heap.push {cls:=.type "dict_items",data:=.fields #[.ref d]}) d es ep:=⟨ob,Heap.get?_push_of_some _ e1,e2,e3⟩
 refine ziF (es:=es) (ep:=ep) ⟨_,Heap.get?_push_size _ rfl,rfl,rfl⟩ hE ?_
 have I3:Inv X pins σ (upd H1 d (.frz ob (.dT kvs))) {s1 with heap:=(s1.heap.push {cls:=.type "dict_items",data:=.fields #[.ref d]})}:=I2.kept (t':=s1.toks) fun b u e=>Heap.get?_push_of_some _ e
 refine ⟨(s1.heap.push {cls:=.type "dict_items",data:=.fields #[.ref d]}).objs.size,[(s1.heap.push {cls:=.type "dict_items",data:=.fields #[.ref d]}).objs.size],_,_,_,rfl,I3.kept (t':=s1.toks) fun b u e=>Heap.get?_push_of_some _ e,
  ziw d _ e2 e3,⟨_,_,Heap.get?_push_size _ rfl⟩,fun b hb=>?_,q ob⟩
 rw [List.mem_singleton.mp hb]
 exact I3.fpOk (Nat.le_refl _) (I3.hok.fresh (Nat.le_refl _))
theorem zhb {X:Cx}{o:Expr}{td:TE}{apos cpos tp:Pos}{elts:List Expr}{k:Nat}(ho:Bx (PE X o td))
  (hbase:attributeBase o "items" X.env (eval o X.env)=eval o X.env:=by rfl) (hline:(apos.endLine==cpos.line)=true:=by rfl):Bx (PI X (.Tuple elts k tp) (.Call (.Attribute o "items" apos) [] [] cpos) (zlK td)):=⟨zkT ho.1 hbase hline⟩
section
variable {g:TG} {tt:TT} {te:TE} {n0:Nat} {cap:List Nat} {σ :St} {Q:VK} {D:Addr} {H1:Hp}
theorem ziK {d:Addr}{ob:Obj}{kvs:List (List Key×V)}(Pv:Nat→Hp→Prop)(h0:Pv 0 (upd H1 D (.lst [])))(hl:∀ i H,i≤kvs.length→Pv i H→H d=some (.frz ob (.dT kvs)))
  (hs:∀ i b p H T,kvs[i]? =some p→Pv i H→H T=none→RdT H b (p.1.map kV)→g (.ref T) (zb1 n0 cap σ) (upd H T (.tup [.ref b,p.2])) fun σ2 H2=>tt σ2 H2 fun c H3=>if c=true then te σ2 H3 fun y H4=>∃ xs,H4 D=some (.lst xs)∧xs.length < sizeLine∧Pv (i+1) (upd H4 D (.lst (xs++ [y]))) else Pv (i+1) H3)
  (hd:∀ H,Pv kvs.length H→Q (.ref D) H):zdo (Iti d ob) D n0 cap σ g tt te Q H1:=by
 refine ⟨fun i m H=>m=kvs.length - i∧i≤kvs.length∧Pv i H,⟨kvs.length,by simp,Nat.zero_le _,h0⟩,?_⟩
 rintro i m H ⟨rfl,hi,p⟩
 have q:=hl i H hi p
 by_cases hlt:i < kvs.length
 ·refine .inr ⟨⟨kvs,kvs[i],q,by simp [hlt]⟩,Pv (i+1),fun H' p'=>⟨kvs.length - (i+1),by omega,rfl,hlt,p'⟩,fun x H' y=>?_⟩
  obtain ⟨T,b,k,z,hT,e1,e2,hb,y⟩:=y
  subst e1 e2
  exact hs i b (k,z) H T (y kvs q) p hT hb
 ·have e:i=kvs.length:=by omega
  subst e
  exact .inl ⟨⟨kvs,q,Nat.le_refl _⟩,hd H p⟩
end
end L2
namespace L2
open PySem PySem.Spec PyProof.Rows
theorem HOk.thaw {P:Program}{w:World}{H:Hp}{h:Heap}{d:Addr}{ob:Obj}{kvs:List (List Key×V)}(k:HOk P w H h)(hd:H d=some (.frz ob (.dT kvs))):HOk P w (upd H d (.dT kvs)) h:=by
 have nT:∀ {b:Addr} {u:HO},H b=some u→u≠.frz ob (.dT kvs)→b≠d:=fun e n z=>by
  rw [z,hd] at e
  exact n (Option.some.inj e).symm
 have go:∀ (b:Addr) u',zbm P w H h b u'→zbm P w (upd H d (.dT kvs)) h b u':=fun b u' x=>
  x.stay (fun c v _ q=>q) (fun c q=>by rw [zai (nT q (fun z=>by cases z))];exact q) fun c xs q=>q.keep fun u eu hu=>by rw [zai (nT eu (fun z=>by obtain ⟨ys,hu | ⟨_,hu⟩⟩:=hu <;> (rw [hu] at z;cases z)))];exact eu
 intro b u e
 by_cases hb:b=d
 ·subst hb
  rw [zab] at e
  cases e
  exact go b _ (k b _ hd).2
 ·rw [zai hb] at e
  exact go b u (k b u e)
theorem Un.thaw {fs ex:List Addr}{H H':Hp}{h h':Heap}{d:Addr}{o u:HO}(x:Un fs ex H H' h h')(hd:H d=some o)(n1:∀ xs,o≠.tup xs)(n2:∀ a b,o≠.frz a b)(n3:∀ ps,o≠.tbl ps):Un fs ex H (upd H' d u) h h' where
 keep:=x.keep
 slot:=x.slot
 free:=fun b ob q n hx=>by
  rw [zai (fun z=>by rw [z,hd] at n;cases n)]
  exact x.free b ob q n hx
 there:=x.there
 tups:=fun b xs q=>by
  rw [zai (fun z=>by rw [z,hd] at q;exact n1 _ (Option.some.inj q))]
  exact x.tups b xs q
 frzs:=fun b a c q=>by
  rw [zai (fun z=>by rw [z,hd] at q;exact n2 _ _ (Option.some.inj q))]
  exact x.frzs b a c q
 tbls:=fun b ps q=>by
  rw [zai (fun z=>by rw [z,hd] at q;exact n3 _ (Option.some.inj q))]
  exact x.tbls b ps q
theorem FnOk.thaw {P:Program}{w:World}{K:PySem.W.Frag}{mg:Str→Option Value}{base:Heap}{CX:CXT}{k:Nat}{f:Addr}{fd:FuncData}{ps:List Str}{sp:Sp}(F:FnOk P w K mg base CX k f fd ps sp):
  FnOk P w K mg base CX k f fd ps (fun vs H Q E=>sp vs H (fun v H'=>∃ d ob k0 kvs,H d=some (.dT k0)∧H' d=some (.frz ob (.dT kvs))∧Q v (upd H' d (.dT kvs))) E):=by
 refine ⟨fun vs H Q E h=>F.len vs H _ E h,fun A outer s H args us vs Q E hr he hb hv hs=>?_⟩
 refine codeAny_mono (F.run A outer s H args us vs _ E hr he hb hv hs) fun r s' hq=>?_
 unfold CR at hq ⊢
 cases r with
 | error e=>exact hq
 | ok r=>
  cases r with
  | ret u=>
   obtain ⟨v,H',h1,h2,h3,h4,h5,d,ob,k0,kvs,hd,hd',q⟩:=hq
   exact ⟨v,_,h1,h2,h3.thaw hd (fun _ z=>by cases z) (fun _ _ z=>by cases z) (fun _ z=>by cases z),h4.thaw hd',h5,q⟩
  | _=>exact hq
end L2
namespace L2
open PySem PySem.Spec PyProof.Rows
theorem RdT.dw {H:Hp}{d c:Addr}{kvs:List (List Key×V)}{o:HO}{xs:List V}(q:RdT H c xs)(hd:H d=some (.dT kvs)):RdT (L2.upd H d o) c xs:=by
 rcases q with q | ⟨u,q⟩
 ·exact RdT.put (.inl q) (zi3 q hd (fun z=>nomatch z))
 ·exact RdT.put (.inr ⟨u,q⟩) (zi3 q hd (fun z=>nomatch z))
theorem RdT.tup {K:PySem.W.Frag}{H:Hp}{c:Addr}{xs:List V}(q:RdT H c xs):SqT K H c xs:=.inl q
theorem zjB {d:Addr}{ob:Obj}{kvs:List (List Key×V)}{g:TG}{tb:TS}{D:Ends}{σ :St}{H:Hp}(Pv:Nat→St→Hp→Prop)(h0:Pv 0 σ H)
  (hl:∀ i σ H,i≤kvs.length→Pv i σ H→H d=some (.frz ob (.dT kvs)))
  (hs:∀ i b p σ H T,kvs[i]? =some p→Pv i σ H→H T=none→RdT H b (p.1.map kV)→g (.ref T) σ (upd H T (.tup [.ref b,p.2])) fun σ2 H2=>tb {D with nx:=Pv (i+1),ct:=Pv (i+1),bk:=D.nx} σ2 H2)
  (hd:∀ σ H,Pv kvs.length σ H→D.nx σ H):
  ∃ W:Nat→Nat→St→Hp→Prop,(∃ m,W 0 m σ H)∧∀ i m σ H,W i m σ H→
   ((Iti d ob).stop i H ∧ D.nx σ H) ∨ ((Iti d ob).go i H ∧ ∃ N : St → Hp → Prop, (∀ σ' H', N σ' H' → ∃ m', m' < m ∧ W (i + 1) m' σ' H') ∧
     ∀ x H',(Iti d ob).yld i H x H'→g x σ H' fun σ2 H2=>tb {D with nx:=N,ct:=N,bk:=D.nx} σ2 H2):=by
 refine ⟨fun i m σ H=>m=kvs.length - i∧i≤kvs.length∧Pv i σ H,⟨kvs.length,by simp,Nat.zero_le _,h0⟩,?_⟩
 rintro i m σ H ⟨rfl,hi,p⟩
 have q:=hl i σ H hi p
 by_cases hlt:i < kvs.length
 ·refine .inr ⟨⟨kvs,kvs[i],q,by simp [hlt]⟩,Pv (i+1),fun σ' H' p'=>⟨kvs.length - (i+1),by omega,rfl,hlt,p'⟩,fun x H' y=>?_⟩
  obtain ⟨T,b,k,z,hT,e1,e2,hb,y⟩:=y
  subst e1 e2
  exact hs i b (k,z) σ H T (y kvs q) p hT hb
 ·have e:i=kvs.length:=by omega
  subst e
  exact .inl ⟨⟨kvs,q,Nat.le_refl _⟩,hd σ H p⟩
noncomputable def zlN (tk tv:TE):TE:=fun σ H Q=>∀ p,H p=none→tk σ (upd H p (.dT [])) fun x H1=>tv σ H1 fun y H2=>H2 p=some (.dT [])∧∃ b ks,x= .ref b∧RdT H2 b (ks.map kV)∧Q (.ref p) (upd H2 p (.dT [(ks,y)]))
theorem zlt {X:Cx}{pos:Pos}{k v:Expr}{tk tv:TE}(hu:X.A.units+1 < cLine)(hk:PE X k tk)(hv:PE X v tv):PE X (.Dict [some k] [v] pos) (zlN tk tv):=by
 intro pins s σ H Q I q
 have hn:=I.hok.fresh (Nat.le_refl s.heap.objs.size)
 have I1:=I.laid (a:=s.heap.objs.size) (o:=.dT []) (h':=s.heap.push {cls:=.type "dict",data:=.dict #[]}) (t':=s.toks) (fun _ _ q=>Heap.get?_push_of_some _ q) (Nat.le_refl _) (zik s.heap I.big)
 refine wpAny_Dict_any rfl rfl (by simp) (by show 1≤15;decide) ?_
 refine pairTrees_cons_walk (thn (hk pins _ σ _ _ I1 (q _ hn)) fun u s1 ⟨x,H1,I2,rx,q1⟩=>thn (hv pins s1 σ H1 _ I2 q1) fun w2 s2 ⟨y,H2,I3,ry,q2⟩=>pairTrees_nil_walk ?_)
 obtain ⟨e,b,ks,rfl,eb,q3⟩:=q2
 cases (show u=Value.ref b from rx)
 show wpAny _ _ (PySem.storeAll s.heap.objs.size [(Value.ref b,w2)]) _ _ s2
 unfold PySem.storeAll
 rw [List.forIn_cons]
 obtain ⟨z,hd,xs0,r0,dd⟩:=dt_of I3.hok e
 cases r0
 refine wpAny_bind (wpAny_bind (wpAny_dictSet_heap (knd:=tupleKind (zaG X.prog X.w)) (by show X.A.units < cLine;omega) (zfA I3.hok eb) dd (fun h' dd' hs=>?_) (Nat.zero_le _)))
 refine wpAny_pure ?_
 show wpAny _ _ (forIn ([]:List (Value×Value)) PUnit.unit _) _ _ _
 rw [List.forIn_nil]
 refine wpAny_pure ⟨.ref s.heap.objs.size,_,?_,rfl,q3⟩
 obtain ⟨qo,es,ep,hq,h2,h3,h4,_,h5⟩:=dd'
 refine zgG I3 (by rw [e];exact True.intro) hs ⟨qo,hq⟩ ⟨(by show 1≤sizeLine;decide),hd,_,((show KT H2 [] [] from .nil).put ks eb ry).keeps fun c ys ec=>RdT.dw ec e,qo,es,ep,hq,h2,h3,h4,h5⟩
theorem zje {X:Cx}{pos:Pos}{k v:Expr}{tk tv:TE}(hu:X.A.units+1 < cLine)(hk:Bx (PE X k tk))(hv:Bx (PE X v tv)):Bx (PE X (.Dict [some k] [v] pos) (zlN tk tv)):=⟨zlt hu hk.1 hv.1⟩
section
variable {prog:Program} {w:World} {A:Around} {E:Value→Shared→Prop} {s:Shared} {Ky:Type} [DecidableEq Ky] {knd:HeapKind prog w Ky}
end
end L2
namespace L2
open PySem PySem.Spec PyProof.Rows
section
variable {prog:Program} {w:World} {A:Around} {E:Value→Shared→Prop} {s:Shared}
theorem zhp {d:Addr}{es:Array DictEntry}{ep:Nat}{Q:Value→Shared→Prop}(nd:(d==sysModules)=false)(hE:EntD s.heap d es ep)
  (q:Q (.ref s.heap.objs.size) {s with heap:=s.heap.push {cls:=.type "dict_values",data:=.fields #[.ref d]}}):wpAny (model prog w) A (call (.builtin "dict.values") [.ref d]) Q E s:=by
 obtain ⟨ob,e1,⟨e2,_,_⟩,e3⟩:=hE
 have ty:s.TypeIs (.ref d) "dict" :=⟨ob,e1,e2⟩
 refine wpAny_call_entry PySem.F.slot_dict_values ty PySem.F.entry_dict_values ?_ (PySem.F.args_dict_values_1 _)
 refine wpAny_bind (?_:wpAny _ _ (Builtin.Dict.noArgs _ _) _ _ s)
 unfold Builtin.Dict.noArgs
 refine wpAny_bind (wpAny_notOrdered_dict ty ?_)
 show wpAny _ _ (pure d) _ _ s
 refine wpAny_pure (?_:wpAny _ _ (Builtin.Dict.showsAll d >>=_) _ _ s)
 unfold Builtin.Dict.showsAll
 rw [nd]
 exact wpAny_bind (wpAny_pure (wpAny_bind (wpAny_newObj_type (wpAny_pure ⟨_,rfl,q⟩))))
theorem zhx {v d:Addr}{es:Array DictEntry}{ep:Nat}{Q:Value→Shared→Prop}(hv:s.heap.IsValuesView v d)(hE:EntD s.heap d es ep)
  (q:Q (.ref s.heap.objs.size) {s with heap:=s.heap.push {cls:=.type "dict_valueiterator",data:=.fields #[.ref d,.int 0 0,.int es.size 0,.int ep 0]}}):
  wpAny (model prog w) A (pyIter (.ref v)) Q E s:=by
 obtain ⟨vo,v1,v2,v3⟩:=id hv
 obtain ⟨ob,e1,_,e3⟩:=hE
 refine wpAny_pyIter_slot hv.typeIs PySem.F.slot_dict_values_iter (wpAny_call_entry PySem.F.slot_dict_values_iter hv.typeIs PySem.F.entry_dict_values_iter ?_ (PySem.F.args_dict_values_iter_1 _))
 unfold Builtin.«dict_values.__iter__»
 refine wpAny_bind (wpAny_pure (wpAny_bind ?_))
 unfold Builtin.Dict_items.dictOf
 refine wpAny_bind (wpAny_field v1 v3 (x:=.ref d) rfl (wpAny_pure (wpAny_bind ?_)))
 unfold Builtin.Dict_items.newIterator
 refine wpAny_bind (wpAny_dictEntries e1 e3 (wpAny_bind (wpAny_dictEpoch e1 e3 ?_)))
 simp only [show Builtin.Dict_items.ownsTuple "dict_valueiterator" =false by decide,Bool.false_eq_true,if_false]
 refine wpAny_newObj_type (wpAny_pure ⟨_,rfl,"dict_valueiterator",_,⟨_,Heap.get?_push_size _ rfl,rfl⟩,PySem.F.slot_dict_valueiterator_next.lookup,?_⟩)
 simpa [rawInt] using q
theorem zho {it d:Addr}{i ep:Nat}{es:Array DictEntry}{en:DictEntry}{Q:Option Value→Shared→Prop}(hJ:s.heap.IsValIter it d i es.size ep)(hE:EntD s.heap d es ep)(hx:es[i]? =some en)
  (q:∀ h',h'.IsValIter it d (i+1) es.size ep→Heap.SameBut it s.heap h'→Q (some en.val) {s with heap:=h'}):wpAny (model prog w) A (pyNext (.ref it)) Q E s:=by
 obtain ⟨o,j1,j2,j3⟩:=id hJ
 obtain ⟨ob,e1,_,e3⟩:=hE
 have ty:=hJ.typeIs (s:=s)
 unfold pyNext
 refine wpAny_bind (wpAny_attempt (wpAny_callSpecial?_slot (name:=Str.ofString "__next__") ty PySem.F.slot_dict_valueiterator_next
  (wpAny_call_entry PySem.F.slot_dict_valueiterator_next ty PySem.F.entry_dict_valueiterator_next ?_ (PySem.F.args_dict_valueiterator_next_1 _))))
 refine wpAny_bind (wpAny_pure (wpAny_bind (wpAny_bind ?_)))
 first | refine wpAny_bind (wpAny_typeNameOfWhole_valiter ty (wpAny_pure ?_)) | refine wpAny_bind (wpAny_typeNameOf_valiter ty (wpAny_pure ?_))
 refine wpAny_bind (wpAny_fieldsOf j1 j3 ?_)
 simp only [show Builtin.Dict_items.ownsTuple "dict_valueiterator" =false by decide,Bool.false_eq_true,if_false]
 show wpAny _ _ (if (Value.ref d==Value.none)=true then _ else _) _ _ s
 rw [show (Value.ref d==Value.none)=false from rfl,if_neg Bool.false_ne_true]
 refine wpAny_bind (wpAny_pure (wpAny_bind (wpAny_dictEntries e1 e3 ?_)))
 rw [if_neg (by simp)]
 refine wpAny_bind (wpAny_pure (wpAny_bind (wpAny_dictEpoch e1 e3 ?_)))
 rw [if_neg (by simp)]
 refine wpAny_pure ?_
 simp only [show ¬(i:Int) < 0 from by omega,if_false,Int.toNat_natCast,hx]
 refine wpAny_bind ?_
 first | refine wpAny_bind (wpAny_typeNameOfWhole_valiter ty (wpAny_pure ?_)) | refine wpAny_bind (wpAny_typeNameOf_valiter ty (wpAny_pure ?_))
 refine wpAny_bind (wpAny_isOneOf_valiter ty ?_)
 show wpAny _ _ (setField (.ref it) 1 (rawInt ((i:Int)+1)) >>=_) _ _ s
 refine wpAny_bind (wpAny_setField j1 j3 (by simp) ?_)
 have hJ':(s.heap.update it (Obj.mapFields (·.setIfInBounds 1 (rawInt ((i:Int)+1))))).IsValIter it d (i+1) es.size ep:=
  ⟨_,Heap.get?_update_self _ j1 (Obj.isFreed_of_fields (Obj.data_mapFields j3 _)),(Obj.cls_mapFields ..).trans j2,by rw [Obj.data_mapFields j3];simp [rawInt]⟩
 have ty':=hJ'.typeIs (s:={s with heap:=s.heap.update it (Obj.mapFields (·.setIfInBounds 1 (rawInt ((i:Int)+1))))})
 refine wpAny_bind (wpAny_holding (wpAny_bind (wpAny_isOneOf_valiter (s:={s with heap:=s.heap.update it (Obj.mapFields (·.setIfInBounds 1 (rawInt ((i:Int)+1))))}) ty' (wpAny_bind (wpAny_isOneOf_valiter (s:={s with heap:=s.heap.update it (Obj.mapFields (·.setIfInBounds 1 (rawInt ((i:Int)+1))))}) ty' ?_)))))
 show wpAny _ _ (pure en.val) _ _ _
 exact wpAny_pure (wpAny_pure ⟨_,rfl,wpAny_pure (q _ hJ' (Heap.SameBut.update ..))⟩)
theorem ziv {it d:Addr}{i ep:Nat}{es:Array DictEntry}{Q:Option Value→Shared→Prop}(hh:A.handled=none)(hJ:s.heap.IsValIter it d i es.size ep)(hE:EntD s.heap d es ep)(hx:es.size≤i)
  (q:∀ h',Heap.ExtBut it s.heap h'→Q none {s with heap:=h'}):wpAny (model prog w) A (pyNext (.ref it)) Q E s:=by
 obtain ⟨o,j1,j2,j3⟩:=id hJ
 obtain ⟨ob,e1,_,e3⟩:=hE
 have ty:=hJ.typeIs (s:=s)
 unfold pyNext
 refine wpAny_bind (wpAny_attempt (wpAny_callSpecial?_slot (name:=Str.ofString "__next__") ty PySem.F.slot_dict_valueiterator_next
  (wpAny_call_entry PySem.F.slot_dict_valueiterator_next ty PySem.F.entry_dict_valueiterator_next ?_ (PySem.F.args_dict_valueiterator_next_1 _))))
 refine wpAny_bind (wpAny_pure (wpAny_bind (wpAny_bind ?_)))
 first | refine wpAny_bind (wpAny_typeNameOfWhole_valiter ty (wpAny_pure ?_)) | refine wpAny_bind (wpAny_typeNameOf_valiter ty (wpAny_pure ?_))
 refine wpAny_bind (wpAny_fieldsOf j1 j3 ?_)
 simp only [show Builtin.Dict_items.ownsTuple "dict_valueiterator" =false by decide,Bool.false_eq_true,if_false]
 show wpAny _ _ (if (Value.ref d==Value.none)=true then _ else _) _ _ s
 rw [show (Value.ref d==Value.none)=false from rfl,if_neg Bool.false_ne_true]
 refine wpAny_bind (wpAny_pure (wpAny_bind (wpAny_dictEntries e1 e3 ?_)))
 rw [if_neg (by simp)]
 refine wpAny_bind (wpAny_pure (wpAny_bind (wpAny_dictEpoch e1 e3 ?_)))
 rw [if_neg (by simp)]
 refine wpAny_pure ?_
 simp only [show ¬(i:Int) < 0 from by omega,if_false,Int.toNat_natCast,Array.getElem?_eq_none hx]
 refine wpAny_bind ?_
 first | refine wpAny_bind (wpAny_typeNameOfWhole_valiter ty (wpAny_pure ?_)) | refine wpAny_bind (wpAny_typeNameOf_valiter ty (wpAny_pure ?_))
 show wpAny _ _ (setField (.ref it) 0 .none >>=_) _ _ s
 refine wpAny_bind (wpAny_setField j1 j3 (by simp) ?_)
 show wpAny _ _ (newExc (.type "StopIteration") [] >>=_) _ _ _
 refine wpAny_bind ?_
 simp only [newExc,newTuple]
 refine wpAny_bind (wpAny_newObj_type ?_ (by size_fits))
 refine wpAny_bind (m:=firstArgMember _ _) (wpAny_of_eq (a:=Value.none) (by first | rfl | (simp only [firstArgMember];rfl)) (wpAny_newObj_type ?_ (by size_fits)))
 simp only [raiseNew]
 refine wpAny_bind (wpAny_handled ?_)
 rw [show A.in1.handled=none from hh]
 refine wpAny_bind (wpAny_pure (wpAny_throw (?_:wpAny _ _ _ _ _ _)))
 refine wpAny_bind (wpAny_isInstance (b:=true) (T:="StopIteration") ⟨_,Heap.get?_push_size _ rfl,rfl⟩ isSubtype_stop ?_)
 exact wpAny_pure (q _ (((Heap.SameBut.update ..).extBut.push _).push _))
end
end L2
namespace L2
open PySem PySem.Spec PyProof.Rows
section
variable {prog:Program} {w:World} {A:Around} {E:Value→Shared→Prop} {s:Shared}
end
section
variable {X:Cx} {o:Expr} {td:TE} {p ap cp pos:Pos}
end
noncomputable def Itv (d:Addr) (ob:Obj):It:=
 ⟨fun i H => ∃ kvs p, H d = some (.frz ob (.dT kvs)) ∧ kvs[i]? = some p,
  fun i H v H'=>H'=H∧∃ k:List Key,∀ kvs,H d=some (.frz ob (.dT kvs))→kvs[i]? =some (k,v),
  fun i H=>∃ kvs,H d=some (.frz ob (.dT kvs))∧kvs.length≤i⟩
theorem zjS {P:Program}{w:World}{K:PySem.W.Frag}{tg:Expr}{ob:Obj}{es:Array DictEntry}{ep:Nat}(d it:Addr)(hx:ob.ExactDict)(he:ob.data= .dict es ep):
  Turn P w K tg (Itv d ob) [it] it (fun i h=>h.IsValIter it d i es.size ep) where
 mem:=by simp
 obj:=fun i h st c hc=>by
  obtain ⟨o,e,c1,d1⟩:=st
  rw [List.mem_singleton.mp hc]
  exact ⟨_,e,fun v z=>by rw [d1] at z;cases z⟩
 keep:=fun i h h' st kp=>st.at (kp it (by simp))
 item:=by
  intro X hP hw hK hc i pins s σ H E I hf st hg
  subst hP hw hK
  obtain ⟨kvs,p,hd,hp⟩:=hg
  obtain ⟨hE,hz,each⟩:=zeD I hd hx he
  obtain ⟨en,b,h1,h2,h3,h4⟩:=each i p hp
  obtain ⟨f0,f1,f2,f3,f4,f5⟩:=hf it (by simp)
  refine zho st hE h1 fun h' st' sb=>?_
  have I1:Inv X pins σ H {s with heap:=h'}:=I.turned (t':=s.toks) (fun b o hb e=>(sb.2 b hb).trans e) f0 f1 f3 f4 f5
  obtain ⟨o,e,c,dd⟩:=id st'
  exact ⟨_,rfl,zjs (s:={s with heap:=h'}) e c dd (by decide) ⟨p.2,H,I1,h4,⟨rfl,p.1,fun kvs' hd'=>by rw [hd] at hd';cases hd';exact hp⟩,st',fun b hb=>(hf b hb).1⟩⟩
 done:=by
  intro X hP hw hK hc i pins s σ H E I hf st hg
  subst hP hw hK
  obtain ⟨kvs,hd,hp⟩:=hg
  obtain ⟨hE,hz,_⟩:=zeD I hd hx he
  obtain ⟨f0,f1,f2,f3,f4,f5⟩:=hf it (by simp)
  exact ziv (I.ok.hd hc) st hE (by omega) fun h' eb=>⟨rfl,I.turned (t':=s.toks) (fun b o hb e=>eb b o hb e) f0 f1 f3 f4 f5⟩
 self:=fun _ _ _ _ _ st h=>wpAny_pyIter_valiter st h
noncomputable def iVals (td:TE):TI:=fun σ H R=>td σ H fun x H1=>∃ d kvs,x= .ref d∧H1 d=some (.dT kvs)∧∀ ob,R (Itv d ob) (upd H1 d (.frz ob (.dT kvs)))
theorem zmM {X:Cx}{o tg:Expr}{td:TE}{apos cpos:Pos}(ho:PE X o td)
  (hbase:attributeBase o "values" X.env (eval o X.env)=eval o X.env:=by rfl) (hline:(apos.endLine==cpos.line)=true:=by rfl):PI X tg (.Call (.Attribute o "values" apos) [] [] cpos) (iVals td):=by
 intro pins s σ H R I h
 refine wpAny_Call_method0_late hbase hline (thn (ho pins s σ H _ I h) fun v s1 ⟨x,H1,I1,r1,d,kvs,ex,hd,q⟩=>?_)
 subst ex
 cases r1
 obtain ⟨_,nsys,xs,pr,ob,es,ep,e1,e2,e3,e4,e5⟩:=(show zbm X.prog X.w H1 s1.heap d (.dT kvs) from I1.hok d _ hd)
 have I2:=I1.freeze hd e1
 refine ⟨"dict","dict.values",PySem.F.plainAttrs_dict,PySem.F.slot_dict_values,PySem.F.type_dict_values,⟨ob,e1,e2.1⟩,fun a z=>by cases z;exact ⟨ob,e1,e2.2.1⟩,Calls.callWith_builtin rfl (PySem.evalArgs_none ?_)⟩
 refine zhp (es:=es) (ep:=ep) nsys ⟨ob,e1,e2,e3⟩ ?_
 have hE:EntD (s1.heap.push {cls:=.type "dict_values",data:=.fields #[.ref d]}) d es ep:=⟨ob,Heap.get?_push_of_some _ e1,e2,e3⟩
 refine zhx (es:=es) (ep:=ep) ⟨_,Heap.get?_push_size _ rfl,rfl,rfl⟩ hE ?_
 have I3:Inv X pins σ (upd H1 d (.frz ob (.dT kvs))) {s1 with heap:=(s1.heap.push {cls:=.type "dict_values",data:=.fields #[.ref d]})}:=I2.kept (t':=s1.toks) fun b u e=>Heap.get?_push_of_some _ e
 refine ⟨(s1.heap.push {cls:=.type "dict_values",data:=.fields #[.ref d]}).objs.size,[(s1.heap.push {cls:=.type "dict_values",data:=.fields #[.ref d]}).objs.size],_,_,_,rfl,I3.kept (t':=s1.toks) fun b u e=>Heap.get?_push_of_some _ e,
  zjS d _ e2 e3,⟨_,Heap.get?_push_size _ rfl,rfl,rfl⟩,fun b hb=>?_,q ob⟩
 rw [List.mem_singleton.mp hb]
 exact I3.fpOk (Nat.le_refl _) (I3.hok.fresh (Nat.le_refl _))
theorem zlh {X:Cx}{o tg:Expr}{td:TE}{apos cpos:Pos}(ho:Bx (PE X o td))
  (hbase:attributeBase o "values" X.env (eval o X.env)=eval o X.env:=by rfl) (hline:(apos.endLine==cpos.line)=true:=by rfl):Bx (PI X tg (.Call (.Attribute o "values" apos) [] [] cpos) (iVals td)):=⟨zmM ho.1 hbase hline⟩
section
variable {g:TG} {tt:TT} {te:TE} {n0:Nat} {cap:List Nat} {σ :St} {Q:VK} {D:Addr} {H1:Hp}
theorem zkC {d:Addr}{ob:Obj}{kvs:List (List Key×V)}(Pv:Nat→Hp→Prop)(h0:Pv 0 (upd H1 D (.lst [])))(hl:∀ i H,i≤kvs.length→Pv i H→H d=some (.frz ob (.dT kvs)))
  (hs:∀ i p H,kvs[i]? =some p→Pv i H→g p.2 (zb1 n0 cap σ) H fun σ2 H2=>tt σ2 H2 fun c H3=>if c=true then te σ2 H3 fun y H4=>∃ xs,H4 D=some (.lst xs)∧xs.length < sizeLine∧Pv (i+1) (upd H4 D (.lst (xs++ [y]))) else Pv (i+1) H3)
  (hd:∀ H,Pv kvs.length H→Q (.ref D) H):zdo (Itv d ob) D n0 cap σ g tt te Q H1:=by
 refine ⟨fun i m H=>m=kvs.length - i∧i≤kvs.length∧Pv i H,⟨kvs.length,by simp,Nat.zero_le _,h0⟩,?_⟩
 rintro i m H ⟨rfl,hi,p⟩
 have q:=hl i H hi p
 by_cases hlt:i < kvs.length
 ·refine .inr ⟨⟨kvs,kvs[i],q,by simp [hlt]⟩,Pv (i+1),fun H' p'=>⟨kvs.length - (i+1),by omega,rfl,hlt,p'⟩,fun x H' y=>?_⟩
  obtain ⟨e1,k,y⟩:=y
  subst e1
  exact hs i (k,x) H' (y kvs q) p
 ·have e:i=kvs.length:=by omega
  subst e
  exact .inl ⟨⟨kvs,q,Nat.le_refl _⟩,hd H p⟩
end
end L2
namespace L2
open PySem PySem.Spec PyProof.Rows
open PySem.W (Dat kqdP kqdPs kqdOk)
section
variable {X:Cx}
open Classical in
end
end L2
namespace L2
open PySem PySem.Spec PyProof.Rows
section
variable {prog:Program} {w:World} {A:Around} {E:Value→Shared→Prop} {s:Shared}
theorem zkD {d:Addr}{es:Array DictEntry}{ep:Nat}{Q:Value→Shared→Prop}(nd:(d==sysModules)=false)(hE:EntD s.heap d es ep)
  (q:Q (.ref s.heap.objs.size) {s with heap:=s.heap.push {cls:=.type "dict_keyiterator",data:=.fields #[.ref d,.int 0 0,.int es.size 0,.int ep 0]}}):
  wpAny (model prog w) A (pyIter (.ref d)) Q E s:=by
 obtain ⟨ob,e1,⟨e2,_,_⟩,e3⟩:=hE
 have ty:s.TypeIs (.ref d) "dict" :=⟨ob,e1,e2⟩
 refine wpAny_pyIter_slot ty PySem.F.slot_dict_iter (wpAny_call_entry PySem.F.slot_dict_iter ty PySem.F.entry_dict_iter ?_ (PySem.F.args_dict_iter_1 _))
 unfold Builtin.«dict.__iter__» Builtin.Dict.dictSlotNone
 refine wpAny_bind (wpAny_bind (wpAny_notOrdered_dict ty ?_))
 show wpAny _ _ (pure (Value.ref d)) _ _ s
 refine wpAny_pure (?_:wpAny _ _ (Builtin.Dict.showsAll d >>=_) _ _ s)
 unfold Builtin.Dict.showsAll
 rw [nd]
 refine wpAny_bind (wpAny_pure (wpAny_bind (wpAny_dictEntries e1 e3 (wpAny_bind (wpAny_dictEpoch e1 e3 ?_)))))
 refine wpAny_bind (wpAny_newObj_type (wpAny_pure ⟨_,rfl,"dict_keyiterator",_,⟨_,Heap.get?_push_size _ rfl,rfl⟩,PySem.F.slot_dict_keyiterator_next.lookup,?_⟩))
 simpa [rawInt] using q
theorem zkz {it d:Addr}{i ep:Nat}{es:Array DictEntry}{en:DictEntry}{Q:Option Value→Shared→Prop}(hJ:s.heap.IsKeyIter it d i es.size ep)(hE:EntD s.heap d es ep)(hx:es[i]? =some en)
  (q:∀ h',h'.IsKeyIter it d (i+1) es.size ep→Heap.SameBut it s.heap h'→Q (some en.key) {s with heap:=h'}):wpAny (model prog w) A (pyNext (.ref it)) Q E s:=by
 obtain ⟨o,j1,j2,j3⟩:=id hJ
 obtain ⟨ob,e1,_,e3⟩:=hE
 have ty:=hJ.typeIs (s:=s)
 unfold pyNext
 refine wpAny_bind (wpAny_attempt (wpAny_callSpecial?_slot (name:=Str.ofString "__next__") ty PySem.F.slot_dict_keyiterator_next
  (wpAny_call_entry PySem.F.slot_dict_keyiterator_next ty PySem.F.entry_dict_keyiterator_next ?_ (PySem.F.args_dict_keyiterator_next_1 _))))
 refine wpAny_bind (wpAny_pure (wpAny_bind (wpAny_bind ?_)))
 first | refine wpAny_bind (wpAny_typeNameOfWhole_keyiter ty (wpAny_pure ?_)) | refine wpAny_bind (wpAny_typeNameOf_keyiter ty (wpAny_pure ?_))
 refine wpAny_bind (wpAny_fieldsOf j1 j3 ?_)
 simp only [show Builtin.Dict_items.ownsTuple "dict_keyiterator" =false by decide,Bool.false_eq_true,if_false]
 show wpAny _ _ (if (Value.ref d==Value.none)=true then _ else _) _ _ s
 rw [show (Value.ref d==Value.none)=false from rfl,if_neg Bool.false_ne_true]
 refine wpAny_bind (wpAny_pure (wpAny_bind (wpAny_dictEntries e1 e3 ?_)))
 rw [if_neg (by simp)]
 refine wpAny_bind (wpAny_pure (wpAny_bind (wpAny_dictEpoch e1 e3 ?_)))
 rw [if_neg (by simp)]
 refine wpAny_pure ?_
 simp only [show ¬(i:Int) < 0 from by omega,if_false,Int.toNat_natCast,hx]
 refine wpAny_bind ?_
 first | refine wpAny_bind (wpAny_typeNameOfWhole_keyiter ty (wpAny_pure ?_)) | refine wpAny_bind (wpAny_typeNameOf_keyiter ty (wpAny_pure ?_))
 refine wpAny_bind (wpAny_isOneOf_keyiter ty ?_)
 show wpAny _ _ (setField (.ref it) 1 (rawInt ((i:Int)+1)) >>=_) _ _ s
 refine wpAny_bind (wpAny_setField j1 j3 (by simp) ?_)
 have hJ':(s.heap.update it (Obj.mapFields (·.setIfInBounds 1 (rawInt ((i:Int)+1))))).IsKeyIter it d (i+1) es.size ep:=
  ⟨_,Heap.get?_update_self _ j1 (Obj.isFreed_of_fields (Obj.data_mapFields j3 _)),(Obj.cls_mapFields ..).trans j2,by rw [Obj.data_mapFields j3];simp [rawInt]⟩
 have ty':=hJ'.typeIs (s:={s with heap:=s.heap.update it (Obj.mapFields (·.setIfInBounds 1 (rawInt ((i:Int)+1))))})
 refine wpAny_bind (wpAny_holding (wpAny_bind (wpAny_isOneOf_keyiter (s:={s with heap:=s.heap.update it (Obj.mapFields (·.setIfInBounds 1 (rawInt ((i:Int)+1))))}) ty' ?_)))
 show wpAny _ _ (pure en.key) _ _ _
 exact wpAny_pure (wpAny_pure ⟨_,rfl,wpAny_pure (q _ hJ' (Heap.SameBut.update ..))⟩)
theorem zkO {it d:Addr}{i ep:Nat}{es:Array DictEntry}{Q:Option Value→Shared→Prop}(hh:A.handled=none)(hJ:s.heap.IsKeyIter it d i es.size ep)(hE:EntD s.heap d es ep)(hx:es.size≤i)
  (q:∀ h',Heap.ExtBut it s.heap h'→Q none {s with heap:=h'}):wpAny (model prog w) A (pyNext (.ref it)) Q E s:=by
 obtain ⟨o,j1,j2,j3⟩:=id hJ
 obtain ⟨ob,e1,_,e3⟩:=hE
 have ty:=hJ.typeIs (s:=s)
 unfold pyNext
 refine wpAny_bind (wpAny_attempt (wpAny_callSpecial?_slot (name:=Str.ofString "__next__") ty PySem.F.slot_dict_keyiterator_next
  (wpAny_call_entry PySem.F.slot_dict_keyiterator_next ty PySem.F.entry_dict_keyiterator_next ?_ (PySem.F.args_dict_keyiterator_next_1 _))))
 refine wpAny_bind (wpAny_pure (wpAny_bind (wpAny_bind ?_)))
 first | refine wpAny_bind (wpAny_typeNameOfWhole_keyiter ty (wpAny_pure ?_)) | refine wpAny_bind (wpAny_typeNameOf_keyiter ty (wpAny_pure ?_))
 refine wpAny_bind (wpAny_fieldsOf j1 j3 ?_)
 simp only [show Builtin.Dict_items.ownsTuple "dict_keyiterator" =false by decide,Bool.false_eq_true,if_false]
 show wpAny _ _ (if (Value.ref d==Value.none)=true then _ else _) _ _ s
 rw [show (Value.ref d==Value.none)=false from rfl,if_neg Bool.false_ne_true]
 refine wpAny_bind (wpAny_pure (wpAny_bind (wpAny_dictEntries e1 e3 ?_)))
 rw [if_neg (by simp)]
 refine wpAny_bind (wpAny_pure (wpAny_bind (wpAny_dictEpoch e1 e3 ?_)))
 rw [if_neg (by simp)]
 refine wpAny_pure ?_
 simp only [show ¬(i:Int) < 0 from by omega,if_false,Int.toNat_natCast,Array.getElem?_eq_none hx]
 refine wpAny_bind ?_
 first | refine wpAny_bind (wpAny_typeNameOfWhole_keyiter ty (wpAny_pure ?_)) | refine wpAny_bind (wpAny_typeNameOf_keyiter ty (wpAny_pure ?_))
 show wpAny _ _ (setField (.ref it) 0 .none >>=_) _ _ s
 refine wpAny_bind (wpAny_setField j1 j3 (by simp) ?_)
 show wpAny _ _ (newExc (.type "StopIteration") [] >>=_) _ _ _
 refine wpAny_bind ?_
 simp only [newExc,newTuple]
 refine wpAny_bind (wpAny_newObj_type ?_ (by size_fits))
 refine wpAny_bind (m:=firstArgMember _ _) (wpAny_of_eq (a:=Value.none) (by first | rfl | (simp only [firstArgMember];rfl)) (wpAny_newObj_type ?_ (by size_fits)))
 simp only [raiseNew]
 refine wpAny_bind (wpAny_handled ?_)
 rw [show A.in1.handled=none from hh]
 refine wpAny_bind (wpAny_pure (wpAny_throw (?_:wpAny _ _ _ _ _ _)))
 refine wpAny_bind (wpAny_isInstance (b:=true) (T:="StopIteration") ⟨_,Heap.get?_push_size _ rfl,rfl⟩ isSubtype_stop ?_)
 exact wpAny_pure (q _ (((Heap.SameBut.update ..).extBut.push _).push _))
end
noncomputable def Itk (d:Addr) (ob:Obj):It:=
 ⟨fun i H => ∃ kvs p, H d = some (.frz ob (.dT kvs)) ∧ kvs[i]? = some p,
  fun i H v H'=>H'=H∧∃ (b:Addr) (k:List Key) (x:V),v= .ref b∧RdT H b (k.map kV)∧∀ kvs,H d=some (.frz ob (.dT kvs))→kvs[i]? =some (k,x),
  fun i H=>∃ kvs,H d=some (.frz ob (.dT kvs))∧kvs.length≤i⟩
theorem zjg {P:Program}{w:World}{K:PySem.W.Frag}{tg:Expr}{ob:Obj}{es:Array DictEntry}{ep:Nat}(d it:Addr)(hx:ob.ExactDict)(he:ob.data= .dict es ep):
  Turn P w K tg (Itk d ob) [it] it (fun i h=>h.IsKeyIter it d i es.size ep) where
 mem:=by simp
 obj:=fun i h st c hc=>by
  obtain ⟨o,e,c1,d1⟩:=st
  rw [List.mem_singleton.mp hc]
  exact ⟨_,e,fun v z=>by rw [d1] at z;cases z⟩
 keep:=fun i h h' st kp=>st.at (kp it (by simp))
 item:=by
  intro X hP hw hK hc i pins s σ H E I hf st hg
  subst hP hw hK
  obtain ⟨kvs,p,hd,hp⟩:=hg
  obtain ⟨hE,hz,each⟩:=zeD I hd hx he
  obtain ⟨en,b,h1,h2,h3,h4⟩:=each i p hp
  obtain ⟨f0,f1,f2,f3,f4,f5⟩:=hf it (by simp)
  refine zkz st hE h1 fun h' st' sb=>?_
  have I1:Inv X pins σ H {s with heap:=h'}:=I.turned (t':=s.toks) (fun b o hb e=>(sb.2 b hb).trans e) f0 f1 f3 f4 f5
  obtain ⟨o,e,c,dd⟩:=id st'
  exact ⟨_,rfl,zjs (s:={s with heap:=h'}) e c dd (by decide) ⟨.ref b,H,I1,h2,⟨rfl,b,p.1,p.2,rfl,h3,fun kvs' hd'=>by rw [hd] at hd';cases hd';exact hp⟩,st',fun b hb=>(hf b hb).1⟩⟩
 done:=by
  intro X hP hw hK hc i pins s σ H E I hf st hg
  subst hP hw hK
  obtain ⟨kvs,hd,hp⟩:=hg
  obtain ⟨hE,hz,_⟩:=zeD I hd hx he
  obtain ⟨f0,f1,f2,f3,f4,f5⟩:=hf it (by simp)
  exact zkO (I.ok.hd hc) st hE (by omega) fun h' eb=>⟨rfl,I.turned (t':=s.toks) (fun b o hb e=>eb b o hb e) f0 f1 f3 f4 f5⟩
 self:=fun _ _ _ _ _ st h=>wpAny_pyIter_keyiter st h
noncomputable def iKeys (td:TE):TI:=fun σ H R=>td σ H fun x H1=>∃ d kvs,x= .ref d∧H1 d=some (.dT kvs)∧∀ ob,R (Itk d ob) (upd H1 d (.frz ob (.dT kvs)))
theorem zmU {X:Cx}{o tg:Expr}{td:TE}(ho:PE X o td):PI X tg o (iKeys td):=by
 intro pins s σ H R I h
 refine thn (ho pins s σ H _ I h) fun v s1 ⟨x,H1,I1,r1,d,kvs,ex,hd,q⟩=>?_
 subst ex
 cases r1
 obtain ⟨_,nsys,xs,pr,ob,es,ep,e1,e2,e3,e4,e5⟩:=(show zbm X.prog X.w H1 s1.heap d (.dT kvs) from I1.hok d _ hd)
 have I2:=I1.freeze hd e1
 refine zkD (es:=es) (ep:=ep) nsys ⟨ob,e1,e2,e3⟩ ?_
 refine ⟨s1.heap.objs.size,[s1.heap.objs.size],_,_,_,rfl,I2.kept (t':=s1.toks) fun b u e=>Heap.get?_push_of_some _ e,zjg d _ e2 e3,⟨_,Heap.get?_push_size _ rfl,rfl,rfl⟩,fun b hb=>?_,q ob⟩
 rw [List.mem_singleton.mp hb]
 exact I2.fpOk (Nat.le_refl _) (I2.hok.fresh (Nat.le_refl _))
theorem zkI {X:Cx}{o tg:Expr}{td:TE}(ho:Bx (PE X o td)):Bx (PI X tg o (iKeys td)):=⟨zmU ho.1⟩
theorem zlk {d:Addr}{ob:Obj}{kvs:List (List Key×V)}{g:TG}{tb:TS}{D:Ends}{σ :St}{H:Hp}(Pv:Nat→St→Hp→Prop)(h0:Pv 0 σ H)
  (hl:∀ i σ H,i≤kvs.length→Pv i σ H→H d=some (.frz ob (.dT kvs)))
  (hs:∀ i b p σ H,kvs[i]? =some p→Pv i σ H→RdT H b (p.1.map kV)→g (.ref b) σ H fun σ2 H2=>tb {D with nx:=Pv (i+1),ct:=Pv (i+1),bk:=D.nx} σ2 H2)
  (hd:∀ σ H,Pv kvs.length σ H→D.nx σ H):
  ∃ W:Nat→Nat→St→Hp→Prop,(∃ m,W 0 m σ H)∧∀ i m σ H,W i m σ H→
   ((Itk d ob).stop i H ∧ D.nx σ H) ∨ ((Itk d ob).go i H ∧ ∃ N : St → Hp → Prop, (∀ σ' H', N σ' H' → ∃ m', m' < m ∧ W (i + 1) m' σ' H') ∧
     ∀ x H',(Itk d ob).yld i H x H'→g x σ H' fun σ2 H2=>tb {D with nx:=N,ct:=N,bk:=D.nx} σ2 H2):=by
 refine ⟨fun i m σ H=>m=kvs.length - i∧i≤kvs.length∧Pv i σ H,⟨kvs.length,by simp,Nat.zero_le _,h0⟩,?_⟩
 rintro i m σ H ⟨rfl,hi,p⟩
 have q:=hl i σ H hi p
 by_cases hlt:i < kvs.length
 ·refine .inr ⟨⟨kvs,kvs[i],q,by simp [hlt]⟩,Pv (i+1),fun σ' H' p'=>⟨kvs.length - (i+1),by omega,rfl,hlt,p'⟩,fun x H' y=>?_⟩
  obtain ⟨e2,b,k,z,e1,hb,y⟩:=y
  subst e1 e2
  exact hs i b (k,z) σ H' (y kvs q) p hb
 ·have e:i=kvs.length:=by omega
  subst e
  exact .inl ⟨⟨kvs,q,Nat.le_refl _⟩,hd σ H p⟩
theorem zjT (bs:List Bool):(List.range bs.length).any (fun j=>(bs[j]?).getD true)=bs.any id:=by
 rw [Bool.eq_iff_iff,List.any_eq_true,List.any_eq_true]
 constructor
 ·rintro ⟨j,hj,e⟩
  have hj:=List.mem_range.mp hj
  rw [List.getElem?_eq_getElem hj] at e
  exact ⟨_,List.getElem_mem hj,e⟩
 ·rintro ⟨b,hb,e⟩
  obtain ⟨j,hj,q⟩:=List.mem_iff_getElem.mp hb
  exact ⟨j,List.mem_range.mpr hj,by rw [List.getElem?_eq_getElem hj,q];exact e⟩
section
variable {X:Cx}
theorem zju (hc:X.calm=true):zc8 X (.builtin "any") (fun xs H Q=>∃ (p:Addr) (bs:List Bool),xs= [.ref p]∧SqL X.K H p (bs.map V.bl)∧Q (.bl (bs.any id)) H):=by
 intro pins s σ H xs us Q I r ⟨p,bs,e,hq,q⟩
 subst e
 obtain ⟨u,rfl,rx⟩:=zgm r
 cases rx
 obtain ⟨its,rv,pl,hz⟩:=I.list hq
 have hl:its.toArray.size=bs.length:=by
  have:=rv.length
  simpa using this.symm
 have hlt:p < s.heap.objs.size:=by
  obtain ⟨o,ho,_⟩:=pl.isList
  exact Heap.lt_size ho
 refine call_any_walk (wpAny_pyIter_list pl.isList ?_)
 refine ⟨_,_,_,_,_,_,fun j=>(bs[j]?).getD true,rfl,Walks.list (A:=X.A.in1) (I.ok.hd hc) _ p (Nat.ne_of_lt hlt) its.toArray,⟨⟨_,Heap.get?_push_size _ rfl,rfl,rfl⟩,pl.isList.at fun o e=>Heap.get?_push_of_some _ e⟩,?_,fun h' tk hk=>?_⟩
 ·intro j v s' Q' E' hv hQ
  obtain ⟨b,hb,rfl⟩:=zh3 rv (show its[j]? =some v by simpa using hv)
  dsimp only at hQ
  rw [hb] at hQ
  exact wpAny_truthy_bool hQ
 ·rw [hl,zjT]
  refine ⟨.bl _,H,I.kept (t':=tk) fun b o e=>hk b o ?_ (Heap.get?_push_of_some _ e),rfl,q⟩
  intro z
  have:b=s.heap.objs.size:=by simpa using z
  exact Nat.ne_of_lt (Heap.lt_size e) this
end
end L2
namespace L2
open PySem
end L2
namespace L2
open PySem PySem.Spec PyProof.Rows
section
variable {X:Cx}
end
end L2
namespace L2
open PySem PySem.Spec PyProof.Rows
section
variable {prog:Program} {w:World} {A:Around} {E:Value→Shared→Prop} {s:Shared}
end
end L2
namespace L2
open PySem PySem.Spec PyProof.Rows
section
variable {prog:Program} {w:World} {A:Around} {E:Value→Shared→Prop} {s:Shared}
end
end L2
namespace L2
open PySem PySem.Spec PyProof.Rows
section
variable {prog:Program} {w:World} {A:Around} {E:Value→Shared→Prop} {s:Shared}
end
section
variable {prog:Program} {w:World} {A:Around} {E:Value→Shared→Prop} {s:Shared}
end
end L2
namespace L2
open PySem
theorem zit {n:Nat}{g:TG}{tb:TS}{D:Ends}{σ :St}{H:Hp}(Pv:Nat→St→Hp→Prop)(h0:Pv 0 σ H)
  (hs:∀ (i:Nat) σ H,i < n→Pv i σ H→g (.int (i:Int)) σ H fun σ2 H2=>tb {D with nx:=Pv (i+1),ct:=Pv (i+1),bk:=D.nx} σ2 H2) (hd:∀ σ H,Pv n σ H→D.nx σ H):
  ∃ W:Nat→Nat→St→Hp→Prop,(∃ m,W 0 m σ H)∧∀ i m σ H,W i m σ H→
   ((Itr 0 n).stop i H∧D.nx σ H)∨((Itr 0 n).go i H∧∃ N:St→Hp→Prop,(∀ σ' H',N σ' H'→∃ m',m' < m∧W (i+1) m' σ' H')∧∀ x H',(Itr 0 n).yld i H x H'→g x σ H' fun σ2 H2=>tb {D with nx:=N,ct:=N,bk:=D.nx} σ2 H2):=
 zcC Pv h0 (fun i σ H hi p=>by rw [Int.zero_add];exact hs i σ H hi p) hd
theorem zdJ {n:Nat}{g:TG}{tb:TS}{D:Ends}{σ :St}{H:Hp}(Pv:Nat→St→Hp→Prop)(h0:Pv 0 σ H)
  (hs:∀ (i:Nat) σ H (E:Ends),i < n→(∀ σ' H',Pv (i+1) σ' H'→E.nx σ' H')→Pv i σ H→g (.int (i:Int)) σ H fun σ2 H2=>tb E σ2 H2) (hd:∀ σ H,Pv n σ H→D.nx σ H):
  ∃ W:Nat→Nat→St→Hp→Prop,(∃ m,W 0 m σ H)∧∀ i m σ H,W i m σ H→
   ((Itr 0 n).stop i H∧D.nx σ H)∨((Itr 0 n).go i H∧∃ N:St→Hp→Prop,(∀ σ' H',N σ' H'→∃ m',m' < m∧W (i+1) m' σ' H')∧∀ x H',(Itr 0 n).yld i H x H'→g x σ H' fun σ2 H2=>tb {D with nx:=N,ct:=N,bk:=D.nx} σ2 H2):=
 zit Pv h0 (fun i σ H hi p=>hs i σ H _ hi (fun _ _ z=>z) p) hd
end L2
namespace L2
open PySem PySem.Spec PyProof.Rows
section
variable {X:Cx}
end
end L2
namespace L2
open PySem PySem.Spec PyProof.Rows
section
variable {X:Cx} {tg:Expr}
end
section
end
section
variable {prog:Program} {w:World} {A:Around} {E:Value→Shared→Prop} {s:Shared}
end
end L2
namespace L2
open PySem PySem.Spec PyProof.Rows
section
variable {X:Cx} {pins:List (Addr×Obj)} {σ :St} {H1:Hp} {s1 s':Shared} {C S:Addr} {nid nid2:String} {bB bB2:List Value} {sx n:Str} {np hpos:Pos} {b₀ :Stmt} {suite:List Stmt} {j:Nat} {ts:TS} {D:Ends} {E':XK} {e:Value}
noncomputable def D1R (D:Ends) (j:Nat):Ends:={nx:=fun σ' H'=>D.nx (σ'.set j none) H',rt:=D.rt}
end
section
variable {X:Cx} {C S f:Addr} {k:Nat} {fd:FuncData} {ps:List Str} {sp:Sp} {dvs:List V} {ds:List Value} {nid nid2:String} {bB bB2:List Value} {fx sx n:Str} {p np hpos cpos epos pos:Pos} {b₀ :Stmt} {suite:List Stmt} {j:Nat} {t:TA} {ts:TS} {e:Expr} {es:List Expr}
end
theorem unB {p:Prop}(h:Bx p):p:=h.1
end L2
namespace L2
open PySem PySem.Spec PyProof.Rows
section
variable {X:Cx}
end
end L2
namespace L2
open PySem PySem.Spec PyProof.Rows
section
variable {K:PySem.W.Frag} {c:Addr} {xs:List Str}
end
end L2
namespace L2
open PySem PySem.Spec PyProof.Rows
end L2
namespace L2
open PySem PySem.Spec PyProof.Rows
end L2
namespace My
open PySem L2
open PySem.Builtin.Str (occurrences partsBetween strSub subAt)
end My
namespace L2
open PySem PySem.Spec PyProof.Rows
section
variable {X:Cx} {elt tg iter:Expr} {ifs:List Expr} {scope:Scope} {pos:Pos} {N:List Str} {n:Nat} {cap:List Nat} {wi:TI} {g:TG} {tt:TT} {te:TE}
end
section
variable {P:Program} {w:World} {K:PySem.W.Frag} {mg:Str→Option Value} {base:Heap} {N:List Str} {qual:Str} {scope:Scope} {f C:Addr} {cd:Value} {A:Around} {outer:List Env} {s:Shared} {H:Hp} {E:XK}
end
end L2
namespace L2
open PySem PySem.Spec PyProof.Rows
section
variable {X:Cx}
end
section
variable {X:Cx}
variable {D:Addr} {n0:Nat} {cap:List Nat} {σ :St} {g:TG} {tt:TT} {te:TE} {Q:VK} {H1:Hp}
end
end L2
namespace L2
open PySem PySem.Spec PyProof.Rows
section
variable {X:Cx} {pins:List (Addr×Obj)} {σ :St} {H:Hp} {s:Shared}
open PySem.Builtin PySem.Builtin.Str in
open PySem.Builtin PySem.Builtin.Str in
end
section
variable {X:Cx}
end
section
variable {X:Cx} {C S f:Addr} {k:Nat} {fd:FuncData} {ps:List Str} {sp:Sp} {dvs:List V} {ds:List Value} {nid nid2:String} {bB bB2:List Value} {fx sx n y:Str} {p np hpos cpos epos pos pos':Pos} {b₀ :Stmt} {suite:List Stmt} {i j:Nat} {t:TA} {ts:TS} {e:Expr} {es:List Expr}
end
end L2
namespace L2
open PySem PySem.Spec PyProof.Rows
end L2
namespace L2
open PySem PySem.Spec PyProof.Rows
end L2
namespace L2
open PySem PySem.Spec PyProof.Rows
section
variable {prog:Program} {w:World} {A:Around} {E:Value→Shared→Prop} {s:Shared}
end
end L2
namespace L2
open PySem PySem.Spec PyProof.Rows
section
variable {prog:Program} {w:World}
end
section
variable {prog:Program} {w:World} {A:Around} {R:Result→Shared→Prop}
end
section
variable {prog:Program} {w:World} {A:Around} {E:Value→Shared→Prop} {s:Shared}
end
end L2
namespace L2
open PySem PySem.Spec PyProof.Rows
section
variable {prog:Program} {w:World} {A:Around} {E:Value→Shared→Prop} {s:Shared}
end
end L2
namespace L2
open PySem PySem.Spec PyProof.Rows
section
variable {prog:Program} {w:World} {A:Around} {E:Value→Shared→Prop} {s:Shared}
end
end L2
namespace L2
open PySem PySem.Spec PyProof.Rows
section
variable {prog:Program} {w:World} {A:Around} {E:Value→Shared→Prop} {s:Shared}
end
end L2
namespace L2
open PySem PySem.Spec PyProof.Rows
section
variable {prog:Program} {w:World} {A:Around} {E:Value→Shared→Prop} {s:Shared}
end
end L2
namespace L2
open PySem PySem.Spec PyProof.Rows
section
variable {X:Cx} {e:Expr} {te:TE} {p p' pos pos':Pos} {xs xt:Str}
end
end L2
namespace L2
open PySem PySem.Spec PyProof.Rows
section
variable {prog:Program} {w:World} {A:Around} {E:Value→Shared→Prop} {s:Shared}
end
section
variable {X:Cx}
end
end L2
namespace My
open PySem L2
noncomputable def zle {α :Type} (acc:List (List α)) (legs:List (List α)):List (List α):=legs.foldl (fun rows ps=>rows.flatMap fun r=>ps.map fun p=>r++ [p]) acc
noncomputable def choices {α :Type} (legs:List (List α)):List (List α):=zle [[]] legs
end My
namespace L2
open PySem PySem.Spec PyProof.Rows
section
variable {prog:Program} {w:World} {A:Around} {R:Result→Shared→Prop} {I:Addr} {fp wr:List Addr} {n:Nat} {P:Nat→Value→Prop} {St:Nat→Heap→Prop}
end
section
variable {prog:Program} {w:World} {A:Around} {E:Value→Shared→Prop} {s:Shared} {l:Addr} {xs:Array (Int×Tok)}
end
theorem DPut.r {H:Hp}{a b:Addr}{kvs:List (List Key×V)}{k:List Key}{v:V}(e:H a=some (.dT kvs))(eb:RdT H b (k.map kV))(hl:kvs.length < sizeLine):DPut H a (.ref b) v (upd H a (.dT (putK kvs k v))):=.inr ⟨kvs,k,b,e,rfl,eb,hl,rfl⟩
section
variable {X:Cx}
end
end L2
namespace L2
open PySem PySem.Spec PyProof.Rows
open PySem.W (Dat kqdP kqdPs kqdOk)
section
variable {X:Cx}
end
end L2
namespace L2
open PySem PySem.Spec PyProof.Rows
end L2
namespace L2
open PySem PySem.Spec PyProof.Rows
section
variable {prog:Program} {w:World} {A:Around} {E:Value→Shared→Prop} {s:Shared}
end
section
variable {X:Cx}
end
end L2
namespace L2
open PySem PySem.Spec PyProof.Rows
section
open PySem.SeqAt
open PySem.AutoSeq1 (wpAny_loadPart')
open PySem.MeetsSeq PySem.MeetsSeq2 PySem.MeetsSeq3
end
section
variable {prog:Program} {w:World} {A:Around} {E:Value→Shared→Prop} {s:Shared}
end
section
variable {X:Cx}
end
end L2
namespace My
open PySem L2
open PySem.W (Dat kqdP kqdPs kqdOk)
section
variable {m:Nat} {a b:zat} {fs gs:List Flt}
end
end My
namespace My
open PySem L2
open PySem.W (Dat kqdP kqdPs kqdOk)
section
variable {m:Nat} {w:zat} {st F:List Flt} {row:List Int}
end
section
variable {m:Nat} {w:zat} {keep:Nat→Bool} {fs:List Flt} {row:List Int}
end
end My
namespace L2
open PySem PySem.Spec PyProof.Rows
section
variable {M:Model} {A:Around} {E:Value→Shared→Prop}
variable {nm q nm2 q2:Str} {C N S N2:Addr} {bs bm bs2 bm2:List Value} {hdct hd2:Bool} {sn sn2:List Str} {sub sub2:List Value} {ab ab2:Bool} {col col2:Option Bool} {dd dd2:Option Addr} {k0 k1 k2 k3 k5 l0 l1 l2 l3 l5:Option Value} {newId newId2:String}
theorem ziO {h:Heap}{g:Array GenState}{d:Drawn}{t:Nat}{os:OsState}{e:Addr}{oe:Obj}{Q:Bool→Shared→Prop}
  (hC:h.get? C=some (excClassObj nm q C N bs bm hdct sn sub ab col dd k0 k1 k2 k3 k5 newId)) (hS:h.get? S=some (excClassObj nm2 q2 S N2 bs2 bm2 hd2 sn2 sub2 ab2 col2 dd2 l0 l1 l2 l3 l5 newId2))
  (he:h.get? e=some oe) (hcls:oe.cls= .ref C) (hb2:bm2.contains (.type "BaseException")=true) (hcC:(Value.ref C::bm).contains (.ref S)=true)
  (hq:Q true ⟨h,g,d,t,os⟩):wpAny M A (excMatches (.ref e) (.ref S)) Q E ⟨h,g,d,t,os⟩:=by
 have hcB:(Value.ref S::bm2).contains (.type "BaseException")=true:=by rw [List.contains_cons,hb2,Bool.or_true]
 have f:=tc_notTuple
 unfold excMatches
 repeat (first | (with_reducible refine wpAny_loadPart_at he ?_;rw [hcls]) | with_reducible refine wpAny_loadPart_at hS ?_ | (with_reducible refine wpAny_isSubtype_exc hS ?_;rw [hcB]) | (with_reducible refine wpAny_isSubtype_exc hC ?_;rw [hcC]) | wp_step)
 exact hq
end
section
variable {X:Cx} {pins:List (Addr×Obj)} {σ :St} {H1:Hp} {s1 s':Shared} {C S:Addr} {nid nid2:String} {bB bB2:List Value} {sx n:Str} {np hpos:Pos} {b₀ :Stmt} {suite:List Stmt} {j:Nat} {ts:TS} {D:Ends} {E':XK} {e:Value}
theorem zi6 (I1:Inv X pins σ H1 s1)(hcalm:X.calm=true)(hst:X.stack=X.env::X.outer)(hfm:X.env.frame=some X.env.locals)(hgS:Gl X sx)(hmS:X.mg sx=some (.ref S))
  (cC:PySem.W.excIn X.K C bB nid=true) (cS:PySem.W.excIn X.K S bB2 nid2=true) (b2:bB2.contains (.type "BaseException")=true) (hin:(zhI X.K C).contains (.ref S)=true)
  (hN:X.N.Nodup) (hj:X.N[j]? =some n) (hn:X.env.scope.names.lookup n=some .local) (hs:∀ x,PSs (X.marked x) (b₀ ::suite) ts) (hdb:(sx==("__debug__" :Str))=false)
  (cx:CXC X.prog X.w (.ref C) X.stack H1 s1 E' e s') (hE:∀ x H2,E' (.ref x) (some x) H2→H2 x=none→ts (D1R D j) (σ.set j (some (.ref x))) (upd H2 x (excO x C))):
  wpAny (model X.prog X.w) X.A (noteFrame e X.env) (fun _ s₂ =>wpAny (model X.prog X.w) X.A (setFlight e none) (fun _ s₃ =>wpAny (model X.prog X.w) X.A (handleBy e X.env [.ExceptHandler (some (.Name sx np)) (some n) (b₀ ::suite) hpos]) (SP X pins D) X.xe s₃) X.xe s₂) X.xe s':=by
 obtain ⟨x,H',rfl,hos,hbr,un,ok,⟨newx,hx,T,a0,oe,vs,oT,tv,ex,ec,ed,e1,nT,hT,Tx,eT,edT,e3⟩,q⟩:=cx
 have fun0:=I1.env0.funs
 have frf:=I1.stkFree
 obtain ⟨B,hB⟩:=zcW s'.heap (x::T::frs X.stack)
 have frs':∀ b∈frs X.stack,H' b=none:=fun b z=>by
  obtain ⟨_,o,ho,_⟩:=fun0.mem z
  exact un.free b o ho (frf b z) (by simp)
 have fl:s'.heap.FunFrames B X.stack:=zc6 fun0 (fun b z o ho=>un.slot b o ho (frf b z) z (by simp)) fun b z=>(hB b).1 (.tail _ (.tail _ z))
 have st:B.StaysIn s'.heap:=fun b o hb=>by
  by_cases z:b∈x::T::frs X.stack
  ·rw [(hB b).1 z] at hb;cases hb
  ·rw [(hB b).2 z] at hb;exact hb
 have fly:Heap.FlyingW B X.stack x (.ref C) a0 s'.heap:=⟨st,(hB x).1 (.head _),fl,oe,vs,T,oT,tv,ex,ec,ed,e1,(hB T).1 (.tail _ (.head _)),Tx,eT,edT,e3⟩
 have mkInv:∀ h,Heap.FlyingW B X.stack x (.ref C) a0 h→s'.heap.UpToSlots h→Inv X pins σ (upd H' x (excO x C)) {s' with heap:=h}:=fun h fh sm=>by
  have k:∀ b o,b∉frs X.stack→b≠x→b≠T→s'.heap.get? b=some o→h.get? b=some o:=fun b o n1 n2 n3 eb=>fh.1 b o (by
   rw [(hB b).2 fun z=>by
    rcases List.mem_cons.mp z with z | z
    ·exact n2 z
    ·rcases List.mem_cons.mp z with z | z
     ·exact n3 z
     ·exact n1 z]
   exact eb)
  have ks:∀ b o,b∈frs X.stack→s'.heap.get? b=some o→∃ sl,h.get? b=some {o with slots:=sl}:=fun b o z eb=>sm b o eb (by
   obtain ⟨_,o2,h2,h3⟩:=fl.mem z
   rw [eb] at h2
   cases h2
   exact h3)
  obtain ⟨ob,hob,hcl⟩:=fh.there
  exact I1.call' (s':={s' with heap:=h}) hos ((un.left newx nT k ks).track newx I1.hok) ((ok.left frs' hx hT k).track hx ⟨⟨ob,hob,hcl⟩,⟨ob,hob⟩,fun h1 h2 ⟨o1,z1,z2⟩ kk=>⟨o1,kk _ z1,z2⟩⟩) hbr (fun b z=>absurd z (by simp))
 rw [hst] at fly
 refine wpAny_looks_onW (env:=X.env) (outer:=X.outer) (by rw [I1.ok.frames,hst]) hfm fly fun h₄ held sm₄ =>?_
 refine wpAny_landsW (s:={s' with heap:=h₄}) held fun h₅ fly₅ sm₅ =>?_
 refine wpAny_handleBy_cons (codeAny_handlers_test ?_) (by intro z;cases z)
 have sm5:=sm₄.trans sm₅
 have J₅ :=mkInv h₅ (by rw [hst];exact fly₅) sm5
 obtain ⟨tl,N,nm,qn,bs,hd,sn,sub,ab,col,dd,a0',a1,a2,a3,a5,oC,mC,oT'⟩:=zdw I1.ok.mod.kin cC
 obtain ⟨tl2,N2,nm2,qn2,bs2,hd2,sn2,sub2,ab2,col2,dd2,c0,c1,c2,c3,c5,oS,mS,oTS⟩:=zdw I1.ok.mod.kin cS
 obtain ⟨ob,hob,hcl⟩:=fly₅.there
 refine zft (X:=X.marked x) (J₅.marked x) hgS hmS ?_ hdb
 refine ziO (J₅.bk _ _ oC) (J₅.bk _ _ oS) hob hcl (oTS.hasType b2) (by rw [mC] at hin;exact hin) ?_
 refine codeAny_handlers_suite_as ?_
 refine lands_againW (s:={s' with heap:=h₅}) fly₅ fun h₆ fly₆ sm₆ =>?_
 refine zf9 (v:=.ref x) (mkInv h₆ (by rw [hst];exact fly₆) (sm5.trans sm₆)) hN hj (.inl hn) rfl (fun s7 I7=>?_) (.inr hn)
 refine wpAny_mono (hs x pins s7 _ _ (D1R D j) (I7.marked x) (hE x H' q hx)) (fun f s8 q8=>?_) fun _ _ z=>z.elim
 cases f with
 | next=>
  obtain ⟨σ',H8,I8,q⟩:=q8
  exact zgM (I8.unmarked I1.ok.hd) hN hj hn fun s9 I9=>⟨_,H8,I9,q⟩
 | brk=>obtain ⟨_,_,_,z⟩:=q8;exact z.elim
 | cont=>obtain ⟨_,_,_,z⟩:=q8;exact z.elim
 | ret u=>
  obtain ⟨v8,σ',H8,I8,r8,q⟩:=q8
  exact zgM (I8.unmarked I1.ok.hd) hN hj hn fun s9 I9=>⟨v8,_,H8,I9,r8,q⟩
end
theorem zmI:bootBuiltins "ValueError" =some (.type "ValueError"):=by kernel_rfl
theorem zkB {X:Cx}{K0:PySem.W.Frag}{C:Addr}{B nid:String}{bB:List Value}(Z:XcOk K0 C B nid bB)(hK:X.K=K0):zc8 X (.builtin "isinstance") (rIsX K0 C):=by subst hK;exact zkS Z
theorem ziY {X:Cx}{K0:PySem.W.Frag}{C:Addr}{B nid:String}{bB:List Value}(Z:XcOk K0 C B nid bB)(hK:X.K=K0):zc8 X (.builtin "isinstance") (rIsXT K0 C):=by subst hK;exact zjR Z
theorem ziZ {X:Cx}{K0:PySem.W.Frag}{C:Addr}{B nid:String}{bB:List Value}(Z:XcOk K0 C B nid bB)(hK:X.K=K0):zc8 X (.builtin "isinstance") (rIsXs K0 C):=by subst hK;exact zj3 Z
noncomputable def WX (X:Cx) (pins:List (Addr×Obj)) (σ :St) (C:Addr) (G:Addr→Hp→Prop):Value→Shared→Prop:=fun e s'=>∃ H1 s1 E',Inv X pins σ H1 s1∧CXC X.prog X.w (.ref C) X.stack H1 s1 E' e s'∧∀ x H2,E' (.ref x) (some x) H2→H2 x=none→G x H2
noncomputable def PTry (X:Cx) (C:Addr) (body:List Stmt) (t:(Addr→Hp→Prop)→TS):Prop:=
 ∀ (pins:List (Addr×Obj)) (s:Shared) (σ :St) (H:Hp) (D:Ends) (G:Addr→Hp→Prop),Inv X pins σ H s→t G D σ H→wpAny (model X.prog X.w) X.A (execs body X.env) (SP X pins D) (WX X pins σ C G) s
noncomputable def tTryP (j:Nat) (C:Addr) (t:(Addr→Hp→Prop)→TS) (ts:TS):TS:=fun D σ H=>t (fun x H2=>ts (D1R D j) (σ.set j (some (.ref x))) (upd H2 x (excO x C))) D σ H
theorem zmx {j:Nat}{C:Addr}{t:(Addr→Hp→Prop)→TS}{ts:TS}{D:Ends}{σ :St}{H:Hp}(Cnd:Addr→Hp→Prop)(h:∀ G:Addr→Hp→Prop,(∀ x H2,Cnd x H2→G x H2)→t G D σ H)(r:∀ x H2,Cnd x H2→ts (D1R D j) (σ.set j (some (.ref x))) (upd H2 x (excO x C))):tTryP j C t ts D σ H:=h _ r
noncomputable def tTry1 (spX:Sp) (dvs:List V) (ta:TA):(Addr→Hp→Prop)→TS:=fun G D σ H=>ta σ H fun vs H1=>spX (vs++dvs) H1 (fun _ H2=>D.nx σ H2) (fun _ ox H2=>∀ x,ox=some x→H2 x=none→G x H2)
section
variable {X:Cx} {C S f:Addr} {k k2:Nat} {fd:FuncData} {ps:List Str} {spG spX:Sp} {dvs:List V} {ds:List Value} {nid nid2:String} {bB bB2:List Value} {fx sx n:Str} {p np hpos cpos epos pos:Pos} {b₀ :Stmt} {suite body a b:List Stmt} {j:Nat} {ta:TA} {tc:TT} {ts:TS} {t u:(Addr→Hp→Prop)→TS} {e c:Expr} {es:List Expr}
theorem zk6 (hb:Bx (PTry X C body t))(hcalm:X.calm=true)(hst:X.stack=X.env::X.outer)(hfm:X.env.frame=some X.env.locals)(hgS:Gl X sx)(hmS:X.mg sx=some (.ref S))
  (cC:PySem.W.excIn X.K C bB nid=true) (cS:PySem.W.excIn X.K S bB2 nid2=true) (b2:bB2.contains (.type "BaseException")=true) (hin:(zhI X.K C).contains (.ref S)=true)
  (hN:X.N.Nodup) (hj:X.N[j]? =some n) (hn:X.env.scope.names.lookup n=some .local) (hs:∀ x,PSs (X.marked x) (b₀ ::suite) ts) (hdb:(sx==("__debug__" :Str))=false:=by decide):
  Bx (PS X (.Try body [.ExceptHandler (some (.Name sx np)) (some n) (b₀ ::suite) hpos] [] [] pos) (tTryP j C t ts)):=by
 refine ⟨fun pins s σ H D I h=>?_⟩
 refine wpAny_Try_except (wpAny_mono (hb.1 pins s σ H D _ I h) (fun f s1 q=>?_) fun e s1 ⟨H1,s2,E',I1,cx,hE⟩=>zi6 I1 hcalm hst hfm hgS hmS cC cS b2 hin hN hj hn hs hdb cx hE)
 cases f with
 | next=>exact wpAny_execs_nil q
 | brk=>exact q
 | cont=>exact q
 | ret u=>exact q
theorem zkj (hc:Bx (PT X.nox c tc))(ha:Bx (PTry X C a t))(hb:Bx (PTry X C b u)):Bx (PTry X C [.If c a b pos] (fun G=>tIfS tc (t G) (u G))):=by
 refine ⟨fun pins s σ H D G I h=>?_⟩
 refine wpAny_execs_cons (wpAny_If (wpAny_mono (hc.1 pins s σ H _ (I.wish _) h) (fun d s1 ⟨H1,I1,q1⟩=>?_) fun _ _ z=>z.elim))
 have fin:∀ (f:Flow) (s2:Shared),SP X pins D f s2→(match f with | .next=>wpAny (model X.prog X.w) X.A (execs [] X.env) (SP X pins D) (WX X pins σ C G) s2 | f=>SP X pins D f s2):=fun f s2 q=>by
  cases f with
  | next=>exact wpAny_execs_nil q
  | brk=>exact q
  | cont=>exact q
  | ret u=>exact q
 cases d with
 | true=>exact wpAny_mono (ha.1 pins s1 σ H1 D G I1.unwish q1) fin fun _ _ z=>z
 | false=>exact wpAny_mono (hb.1 pins s1 σ H1 D G I1.unwish q1) fin fun _ _ z=>z
theorem zev (FX:FnOk X.prog X.w X.K X.mg X.base (CXC X.prog X.w (.ref C)) k2 f fd ps spX)(hr2:Room k2 X.A)(hg:Gl X fx)(hm:X.mg fx=some (.ref f))(hkp:PySem.W.keepIn X.K (.ref f)=true)(hb:zff X.K fd ps ds)(hd:Vals dvs ds)(ha:Bx (PA X.nox (e::es) ta))
  (hdf:(fx==("__debug__" :Str))=false:=by decide)
  (he:starEach (e::es) X.env=(false,eval e X.env)::starEach es X.env:=by rfl) (hpl:(backTo cpos (starEach es X.env)).any (·.1)=false:=by rfl) (hsw:swapsWith (.Call (.Name fx p) (e::es) [] cpos) none epos.line X.env=pure false:=by rfl):
  Bx (PTry X C [.Expr (.Call (.Name fx p) (e::es) [] cpos) epos] (tTry1 spX dvs ta)):=by
 refine ⟨fun pins s σ H D G I h=>?_⟩
 refine wpAny_execs_cons (wpAny_Expr_any (wpAny_mono (Q:=EP X pins σ fun _ H2=>D.nx σ H2) ?_ (fun v s1 ⟨x,H1,I1,r1,q1⟩=>wpAny_execs_nil ⟨σ,H1,I1,q1⟩) fun _ _ z=>z) I.quiet hsw)
 refine wpAny_Call_Name_kw (zft I hg hm ?_ hdf)
 refine PySem.W.callWith_K (h₀ :=X.base) I.ok.mod.kin hkp (wpAny_mono (ha.1 cpos pins s σ H _ (I.wish _) h) (fun us s1 ⟨vs,H1,I1,r,q⟩=>⟨I1.kIn,?_⟩) fun _ _ z=>z.elim) he hpl
 replace I1:=I1.unwish
 have r2:Vals (vs++dvs) (us++ds):=r.append hd
 have hl:(us++ds).length=ps.length:=by rw [← r2.length];exact FX.len _ _ _ _ q
 refine wpAny_call (codeAny_mono (FX.run X.A X.stack s1 H1 ⟨us,[]⟩ (us++ds) (vs++dvs) _ _ hr2 I1.env0 (hb s1 us I1.kIn hl) r2 q) fun r s2 hq=>?_)
 cases r with
 | error e2=>
  replace hq:CXC X.prog X.w (.ref C) X.stack H1 s1 (fun _ ox H2=>∀ x,ox=some x→H2 x=none→G x H2) e2 s2:=hq
  exact ⟨H1,s1,fun _ ox H2=>∀ x,ox=some x→H2 x=none→G x H2,I1,hq,fun x H2 z y=>z x rfl y⟩
 | ok fl=>
  cases fl with
  | ret u=>exact I1.after hq
  | next=>exact hq.elim
  | brk=>exact hq.elim
  | cont=>exact hq.elim
end
theorem zmH (bs:List Bool):PyData.canLayAll0 (bs.map PyData.bool)=true∧PyData.depthAll (bs.map PyData.bool)≤1:=by
 induction bs with
 | nil=>simp [PyData.canLayAll0,PyData.depthAll]
 | cons b r ih=>
  have h2:=ih.2
  simp only [List.map_cons,PyData.canLayAll0,PyData.depthAll,ih.1,PyData.canLay0,PyData.depth,Bool.and_self,true_and]
  omega
theorem zj5:∀ bs cs:List Bool,PyData.eqvAll (bs.map PyData.bool) (cs.map PyData.bool)=decide (bs=cs)
 | [],[]=>by simp [PyData.eqvAll]
 | [],_::_=>by simp [PyData.eqvAll]
 | _::_,[]=>by simp [PyData.eqvAll]
 | b::bs,c::cs=>by
  rw [List.map_cons,List.map_cons,PyData.eqvAll,zj5 bs cs]
  show ((b==c) && _)=_
  cases b <;> cases c <;> simp
theorem zfq {h:Heap}:∀ {bs:List Bool} {us:List Value},Vals (bs.map V.bl) us→∃ as,ReadsAll h us (bs.map PyData.bool) as
 | [],_,r=>by cases r;exact ⟨_,ReadsAll.nil⟩
 | b::bs,_,r=>by
  cases r with
  | cons r1 r2=>
   cases (show _=_ from r1)
   obtain ⟨as,z⟩:=zfq r2
   exact ⟨_,ReadsAll.cons (Reads.bool b) z⟩
noncomputable def SqB (K:PySem.W.Frag) (H:Hp) (tp:Bool) (a:Addr) (bs:List Bool):Prop:=if tp=true then SqT K H a (bs.map V.bl) else SqL K H a (bs.map V.bl)
noncomputable def rEqB (K:PySem.W.Frag) (neg:Bool):R2:=fun x y H Q=>∃ (tp:Bool) (a b:Addr) (bs cs:List Bool),x= .ref a∧y= .ref b∧SqB K H tp a bs∧SqB K H tp b cs∧Q (.bl (if neg=true then !decide (bs=cs) else decide (bs=cs))) H
section
variable {X:Cx} {pins:List (Addr×Obj)} {σ :St} {H:Hp} {s:Shared}
theorem zgP (I:Inv X pins σ H s){tp:Bool}{a:Addr}{bs:List Bool}(h:SqB X.K H tp a bs):∃ as,Reads s.heap (.ref a) (if tp=true then .tuple (bs.map PyData.bool) else .list (bs.map PyData.bool)) as:=by
 cases tp with
 | true=>
  obtain ⟨its,rv,⟨o,e,c,m,d⟩,_⟩:=I.tuple (show SqT X.K H a (bs.map V.bl) from h)
  obtain ⟨as,z⟩:=zfq (h:=s.heap) rv
  exact ⟨as,reads_tuple_at e c d (by simpa using z)⟩
 | false=>
  obtain ⟨its,rv,⟨o,m,e,c,_,d⟩,_⟩:=I.list (show SqL X.K H a (bs.map V.bl) from h)
  obtain ⟨as,z⟩:=zfq (h:=s.heap) rv
  exact ⟨_,reads_list_at e c d (by simpa using z)⟩
theorem zfR (tp:Bool)(bs:List Bool):SeqAt.shaped (if tp=true then .tuple (bs.map PyData.bool) else .list (bs.map PyData.bool))=true:=by
 have l:=zmH bs
 have l2:=l.2
 unfold SeqAt.shaped
 cases tp with
 | true=>
  show (PyData.canLay0 (.tuple _) && decide (PyData.depth (.tuple _)≤64))=true
  simp only [PyData.canLay0,PyData.depth,l.1,Bool.true_and]
  exact decide_eq_true (by omega)
 | false=>
  show (PyData.canLay0 (.list _) && decide (PyData.depth (.list _)≤64))=true
  simp only [PyData.canLay0,PyData.depth,l.1,Bool.true_and]
  exact decide_eq_true (by omega)
theorem zlx (tp:Bool)(bs cs:List Bool):PyData.eqv (if tp=true then .tuple (bs.map PyData.bool) else .list (bs.map PyData.bool)) (if tp=true then .tuple (cs.map PyData.bool) else .list (cs.map PyData.bool))=decide (bs=cs):=by
 rw [← zj5]
 cases tp with
 | true=>show PyData.eqv (.tuple _) (.tuple _)=_;rw [PyData.eqv]
 | false=>show PyData.eqv (.list _) (.list _)=_;rw [PyData.eqv]
end
section
variable {X:Cx}
theorem zmW (hu:X.A.units+64 < cLine):OpR X (compareOp .Eq) (rEqB X.K false):=by
 intro pins s σ H x y v u Q I rx ry ⟨tp,a,b,bs,cs,e1,e2,h1,h2,q⟩
 subst e1 e2
 cases (show v=Value.ref a from rx)
 cases (show u=Value.ref b from ry)
 obtain ⟨as,ra⟩:=zgP I h1
 obtain ⟨ds,rb⟩:=zgP I h2
 refine eq_dataH ra rb (zfR tp bs) (zfR tp cs) hu ?_
 rw [zlx]
 exact ⟨.bl (decide (bs=cs)),H,I,rfl,q⟩
end
end L2
set_option exponentiation.threshold 3000
namespace My
open PySem L2
open PySem.W (Dat kqdP kqdPs kqdOk)
theorem zdP {us:List Value}(h:us.length=1):∃ x0,us= [x0]:=match us,h with | [x0],_=>⟨x0,rfl⟩
theorem zde {us:List Value}(h:us.length=2):∃ x0 x1,us= [x0,x1]:=match us,h with | [x0,x1],_=>⟨x0,x1,rfl⟩
theorem zin {us:List Value}(h:us.length=3):∃ x0 x1 x2,us= [x0,x1,x2]:=match us,h with | [x0,x1,x2],_=>⟨x0,x1,x2,rfl⟩
theorem lenV4 {us:List Value}(h:us.length=4):∃ x0 x1 x2 x3,us= [x0,x1,x2,x3]:=match us,h with | [x0,x1,x2,x3],_=>⟨x0,x1,x2,x3,rfl⟩
set_option genInjectivity false
structure Def (K:PySem.W.Frag) (mg:Str→Option Value) (x:Str) (st:Stmt) (ps:List Str) (f:Addr) (fd:FuncData):Prop where
 F:Fun K x x st f fd
 b:zff K fd ps []
 m:mg x=some (.ref f)
structure DefD (K:PySem.W.Frag) (mg:Str→Option Value) (x:Str) (st:Stmt) (ps:List Str) (f:Addr) (fd:FuncData) (T:Addr) (tk:Tok):Prop where
 F:FunD K x x st f fd T
 b:zff K fd ps []
 b1:zff K fd ps [.int 1 tk]
 m:mg x=some (.ref f)
structure Adr where
 f_every_row:Addr
 fd_every_row:FuncData
 f_check_row:Addr
 fd_check_row:FuncData
 f_gate_worth:Addr
 fd_gate_worth:FuncData
 dt_gate_worth:Addr
 tk_gate_worth:Tok
 f_every_fault:Addr
 fd_every_fault:FuncData
 f_worths_with:Addr
 fd_worths_with:FuncData
 dt_worths_with:Addr
 tk_worths_with:Tok
 f_leg_worths:Addr
 fd_leg_worths:FuncData
 f_outputs_with:Addr
 fd_outputs_with:FuncData
 dt_outputs_with:Addr
 tk_outputs_with:Tok
 f_outputs_seen:Addr
 fd_outputs_seen:FuncData
 f_rows_at_once:Addr
 fd_rows_at_once:FuncData
 f_outputs_in:Addr
 fd_outputs_in:FuncData
 f_seen_of_each:Addr
 fd_seen_of_each:FuncData
 f_unlike_numbers:Addr
 fd_unlike_numbers:FuncData
 f_finding_rows:Addr
 fd_finding_rows:FuncData
 f_finds_all:Addr
 fd_finds_all:FuncData
 f_fewest_rows:Addr
 fd_fewest_rows:FuncData
 f_need_paper:Addr
 fd_need_paper:FuncData
 f_need_shows:Addr
 fd_need_shows:FuncData
 f_check_inputs:Addr
 fd_check_inputs:FuncData
 f_meets_each:Addr
 fd_meets_each:FuncData
 f_meet:Addr
 fd_meet:FuncData
 f_fewest_numbers:Addr
 fd_fewest_numbers:FuncData
 f_longer_choices:Addr
 fd_longer_choices:FuncData
 f_need_behind:Addr
 fd_need_behind:FuncData
 f_is_need_let_by:Addr
 fd_is_need_let_by:FuncData
 f_plan_depth:Addr
 fd_plan_depth:FuncData
 f_seen_of_all:Addr
 fd_seen_of_all:FuncData
 f_next_number:Addr
 fd_next_number:FuncData
 f_parts_at:Addr
 fd_parts_at:FuncData
 f_depth_behind:Addr
 fd_depth_behind:FuncData
 f_law_cell_at:Addr
 fd_law_cell_at:FuncData
 f_law_digits:Addr
 fd_law_digits:FuncData
 f_law_gate:Addr
 fd_law_gate:FuncData
 f_law_works_of:Addr
 fd_law_works_of:FuncData
 f_law_worth:Addr
 fd_law_worth:FuncData
 f_law_outs:Addr
 fd_law_outs:FuncData
 f_law_faults:Addr
 fd_law_faults:FuncData
 f_law_all_rows:Addr
 fd_law_all_rows:FuncData
 f_law_answers:Addr
 fd_law_answers:FuncData
 f_law_finding:Addr
 fd_law_finding:FuncData
 f_law_open:Addr
 fd_law_open:FuncData
 f_law_copy:Addr
 fd_law_copy:FuncData
 f_law_refused:Addr
 fd_law_refused:FuncData
 f_law_some:Addr
 fd_law_some:FuncData
 f_law_found_by:Addr
 fd_law_found_by:FuncData
 f_law_paper:Addr
 fd_law_paper:FuncData
 f_law_walk:Addr
 fd_law_walk:FuncData
 f_law:Addr
 fd_law:FuncData
 c_WELL:Addr
 k_MOST_INPUTS:Tok
 x_StuckError:Addr
 x_NoWorks:Addr
 x_NoRow:Addr
 x_NoFault:Addr
 x_NoText:Addr
 x_NoOrder:Addr
 x_TooMany:Addr
structure Txt (K:PySem.W.Frag) (mg:Str→Option Value) (t:Adr):Prop where
 d_every_row:Def K mg "every_row" zca ["works"] t.f_every_row t.fd_every_row
 d_check_row:Def K mg "check_row" zcc ["works","row"] t.f_check_row t.fd_check_row
 d_gate_worth:DefD K mg "gate_worth" zbR ["kind","worths","ones"] t.f_gate_worth t.fd_gate_worth t.dt_gate_worth t.tk_gate_worth
 d_every_fault:Def K mg "every_fault" zbA ["works"] t.f_every_fault t.fd_every_fault
 d_worths_with:DefD K mg "worths_with" zby ["works","stuck","row","ones"] t.f_worths_with t.fd_worths_with t.dt_worths_with t.tk_worths_with
 d_leg_worths:Def K mg "leg_worths" zbL ["stuck","gate","worths"] t.f_leg_worths t.fd_leg_worths
 d_outputs_with:DefD K mg "outputs_with" zbd ["works","stuck","row","ones"] t.f_outputs_with t.fd_outputs_with t.dt_outputs_with t.tk_outputs_with
 d_outputs_seen:Def K mg "outputs_seen" zbj ["works","stuck"] t.f_outputs_seen t.fd_outputs_seen
 d_rows_at_once:Def K mg "rows_at_once" zbe ["inputs"] t.f_rows_at_once t.fd_rows_at_once
 d_outputs_in:Def K mg "outputs_in" zcf ["seen","number"] t.f_outputs_in t.fd_outputs_in
 d_seen_of_each:Def K mg "seen_of_each" zbg ["works"] t.f_seen_of_each t.fd_seen_of_each
 d_unlike_numbers:Def K mg "unlike_numbers" zaR ["seen","others"] t.f_unlike_numbers t.fd_unlike_numbers
 d_finding_rows:Def K mg "finding_rows" zbb ["works"] t.f_finding_rows t.fd_finding_rows
 d_finds_all:Def K mg "finds_all" zcb ["works","rows"] t.f_finds_all t.fd_finds_all
 d_fewest_rows:Def K mg "fewest_rows" zbC ["works"] t.f_fewest_rows t.fd_fewest_rows
 d_need_paper:Def K mg "need_paper" zbS ["works"] t.f_need_paper t.fd_need_paper
 d_need_shows:Def K mg "need_shows" zbN ["works","k","paper"] t.f_need_shows t.fd_need_shows
 d_check_inputs:Def K mg "check_inputs" zba ["works"] t.f_check_inputs t.fd_check_inputs
 d_meets_each:Def K mg "meets_each" zbO ["taken","finding"] t.f_meets_each t.fd_meets_each
 d_meet:Def K mg "meet" zfz ["numbers","others"] t.f_meet t.fd_meet
 d_fewest_numbers:Def K mg "fewest_numbers" za6 ["count","finding"] t.f_fewest_numbers t.fd_fewest_numbers
 d_longer_choices:Def K mg "longer_choices" za7 ["choices","count"] t.f_longer_choices t.fd_longer_choices
 d_need_behind:Def K mg "need_behind" zbX ["finding","taken","k"] t.f_need_behind t.fd_need_behind
 d_is_need_let_by:Def K mg "is_need_let_by" zaS ["finding","taken","k","paper"] t.f_is_need_let_by t.fd_is_need_let_by
 d_plan_depth:Def K mg "plan_depth" zbK ["works"] t.f_plan_depth t.fd_plan_depth
 d_seen_of_all:Def K mg "seen_of_all" zbY ["works"] t.f_seen_of_all t.fd_seen_of_all
 d_next_number:Def K mg "next_number" zbV ["left","count"] t.f_next_number t.fd_next_number
 d_parts_at:Def K mg "parts_at" zcL ["left","number"] t.f_parts_at t.fd_parts_at
 d_depth_behind:Def K mg "depth_behind" zbI ["left","count"] t.f_depth_behind t.fd_depth_behind
 d_law_cell_at:Def K mg "_law_cell_at" zbB ["script","k"] t.f_law_cell_at t.fd_law_cell_at
 d_law_digits:Def K mg "_law_digits" zbQ ["cell","many","top"] t.f_law_digits t.fd_law_digits
 d_law_gate:Def K mg "_law_gate" zct ["cell","wires"] t.f_law_gate t.fd_law_gate
 d_law_works_of:Def K mg "_law_works_of" zbf ["script","inputs","most"] t.f_law_works_of t.fd_law_works_of
 d_law_worth:Def K mg "_law_worth" zb8 ["kind","legs"] t.f_law_worth t.fd_law_worth
 d_law_outs:Def K mg "_law_outs" zcs ["works","fault","row"] t.f_law_outs t.fd_law_outs
 d_law_faults:Def K mg "_law_faults" zbP ["works"] t.f_law_faults t.fd_law_faults
 d_law_all_rows:Def K mg "_law_all_rows" zbh ["inputs"] t.f_law_all_rows t.fd_law_all_rows
 d_law_answers:Def K mg "_law_answers" zbx ["works"] t.f_law_answers t.fd_law_answers
 d_law_finding:Def K mg "_law_finding" zbz ["works"] t.f_law_finding t.fd_law_finding
 d_law_open:Def K mg "_law_open" zcq ["finding","taken"] t.f_law_open t.fd_law_open
 d_law_copy:Def K mg "_law_copy" zcr ["works"] t.f_law_copy t.fd_law_copy
 d_law_refused:Def K mg "_law_refused" zbw ["which","works"] t.f_law_refused t.fd_law_refused
 d_law_some:Def K mg "_law_some" zcn ["number","many"] t.f_law_some t.fd_law_some
 d_law_found_by:Def K mg "_law_found_by" zbc ["finding","some"] t.f_law_found_by t.fd_law_found_by
 d_law_paper:Def K mg "_law_paper" zb9 ["finding","xs"] t.f_law_paper t.fd_law_paper
 d_law_walk:Def K mg "_law_walk" zcp ["finding","taken","k","paper"] t.f_law_walk t.fd_law_walk
 d_law:Def K mg "law" zfL ["script"] t.f_law t.fd_law
 z_ValueError:mg "ValueError" =none
 z_all:mg "all" =none
 z_any:mg "any" =none
 z_bool:mg "bool" =none
 z_dict:mg "dict" =none
 z_enumerate:mg "enumerate" =none
 z_int:mg "int" =none
 z_isinstance:mg "isinstance" =none
 z_len:mg "len" =none
 z_list:mg "list" =none
 z_max:mg "max" =none
 z_min:mg "min" =none
 z_range:mg "range" =none
 z_sum:mg "sum" =none
 z_tuple:mg "tuple" =none
 z_zip:mg "zip" =none
 g_WELL:mg "WELL" =some (.ref t.c_WELL)
 k_WELL:TupK K t.c_WELL ["well"]
 g_MOST_INPUTS:mg "MOST_INPUTS" =some (.int 3 t.k_MOST_INPUTS)
 g_StuckError:mg "StuckError" =some (.ref t.x_StuckError)
 k_StuckError:XcOk K t.x_StuckError "ValueError" "ValueError.__new__" [.type "ValueError",.type "Exception",.type "BaseException",.type "object"]
 g_NoWorks:mg "NoWorks" =some (.ref t.x_NoWorks)
 k_NoWorks:XcOk K t.x_NoWorks "ValueError" "ValueError.__new__" [.type "ValueError",.type "Exception",.type "BaseException",.type "object"]
 g_NoRow:mg "NoRow" =some (.ref t.x_NoRow)
 k_NoRow:XcOk K t.x_NoRow "ValueError" "ValueError.__new__" [.type "ValueError",.type "Exception",.type "BaseException",.type "object"]
 g_NoFault:mg "NoFault" =some (.ref t.x_NoFault)
 k_NoFault:XcOk K t.x_NoFault "ValueError" "ValueError.__new__" [.type "ValueError",.type "Exception",.type "BaseException",.type "object"]
 g_NoText:mg "NoText" =some (.ref t.x_NoText)
 k_NoText:XcOk K t.x_NoText "ValueError" "ValueError.__new__" [.type "ValueError",.type "Exception",.type "BaseException",.type "object"]
 g_NoOrder:mg "NoOrder" =some (.ref t.x_NoOrder)
 k_NoOrder:XcOk K t.x_NoOrder "ValueError" "ValueError.__new__" [.type "ValueError",.type "Exception",.type "BaseException",.type "object"]
 g_TooMany:mg "TooMany" =some (.ref t.x_TooMany)
 k_TooMany:XcOk K t.x_TooMany "ValueError" "ValueError.__new__" [.type "ValueError",.type "Exception",.type "BaseException",.type "object"]
 i_none:PySem.W.kitAny K (.ref t.x_TooMany) [.ref t.x_NoFault,.ref t.x_NoOrder,.ref t.x_NoRow,.ref t.x_NoText,.ref t.x_NoWorks]=some false
 i_stuck:PySem.W.kitOne K (.ref t.x_TooMany) (.ref t.x_StuckError)=some true
 i_value:PySem.W.kitOne K (.ref t.x_TooMany) (.type "ValueError")=some true
 i_in:(zhI K t.x_TooMany).contains (.ref t.x_TooMany)=true
noncomputable def zjL (x:Str):Prop:=x="and"∨x="or"∨x="odd"∨x="not"∨x="choose"∨x="zero"∨x="one"
noncomputable def zhY (K:PySem.W.Frag):Sp:=fun vs H Q _=>∃ (a:Addr) (ns:List Int),vs= [.ref a]∧SqL K H a (ns.map V.int)∧ns.length≤63∧∀ H',Q (.bl true) H'
theorem joinP {A:Prop}{C P:Hp→Prop}(h:(∀ H4,C H4→P H4)→A)(r:∀ H4,C H4→P H4):A:=h r
theorem joinV {A:Prop}{C:V→Prop}{st:V→St}{H:Hp}{P:St→Hp→Prop}(h:(∀ v,C v→P (st v) H)→A)(r:∀ v,C v→P (st v) H):A:=h r
theorem joinX {α :Type}{A:Prop}{C: α→Hp→Prop}{st: α→St}{P:St→Hp→Prop}(h:(∀ v H4,C v H4→P (st v) H4)→A)(r:∀ v H4,C v H4→P (st v) H4):A:=h r
noncomputable def hole (pd:Addr) (H:Hp):Hp:=fun z=>if z=pd then none else H z
theorem zaT {pd z:Addr}{H:Hp}(h:z≠pd):hole pd H z=H z:=if_neg h
theorem zcx {pd:Addr}{H:Hp}{o:HO}(e:H pd=some o):Off [pd] (hole pd H) H:=⟨fun b v q=>by
  by_cases z:b=pd
  ·unfold hole at q
   rw [if_pos z] at q
   cases q
  ·rw [zaT z] at q
   exact q,
 fun m hm=>by rw [List.mem_singleton.mp hm];exact if_pos rfl,fun m hm=>by rw [List.mem_singleton.mp hm];exact ⟨o,e⟩⟩
theorem zdg {pd:Addr}{G H:Hp}(s:Same G H)(g:G pd=none):Same G (hole pd H):=fun b v q=>by
 rw [zaT (zal q g)]
 exact s b v q
noncomputable def sp_gwI (K:PySem.W.Frag):Sp:=fun vs H Q _=>∃ (x:Str) (p:Addr) (ns:List Int) (o:Int),vs= [.str x,.ref p,.int o]∧SqL K H p (ns.map V.int)∧zcD x ns.length∧∀ H',Same H H'→Q (.int (zei o x ns)) H'
noncomputable def sp_cr (K:PySem.W.Frag):Sp:=fun vs H Q _=>∃ (a ga oa p:Addr) (i:Int) (row:List Int),vs= [.ref a,.ref p]∧SqT K H a [.int i,.ref ga,.ref oa]∧SqL K H p (row.map V.int)∧(row.length:Int)=i∧Bits row∧row.length≤100∧∀ H',Same H H'→Q .non H'
noncomputable def sp_er (K:PySem.W.Frag):Sp:=fun vs H Q _=>∃ (a ga oa:Addr) (i:Int),vs= [.ref a]∧SqT K H a [.int i,.ref ga,.ref oa]∧0≤i∧i≤6∧∀ (R:Addr) (qs:List Addr) (H':Hp),Rows H R qs (zaX i.toNat) H'→Q (.ref R) H'
noncomputable def sp_lgw (K:PySem.W.Frag):Sp:=fun vs H Q _=>∃ (d p:Addr) (k:Int) (fs:List Flt) (ns:List Int),vs= [.ref d,.int k,.ref p]∧H d=some (.dT (tabV fs))∧SqL K H p (ns.map V.int)∧ns.length≤4∧
 ∀ (r:Addr) (H':Hp),Same H H'→H r=none→H' r=some (.lst ((zcK fs k ns).map V.int))→Q (.ref r) H'
noncomputable def sp_wwG (K:PySem.W.Frag):Sp:=fun vs H Q _=>∃ (x:V) (d p:Addr) (w:zat) (fs:List Flt) (row:List Int) (o:Int),vs= [x,.ref d,.ref p,.int o]∧Rep K H x (zb4 w)∧WF 20 w∧H d=some (.dT (tabV fs))∧SqL K H p (row.map V.int)∧(row.length:Int)=w.ins∧
 ∀ (r:Addr) (H':Hp),Same H H'→H r=none→H' r=some (.lst ((zcA o fs w.gates row w.gates.length).map V.int))→Q (.ref r) H'
noncomputable def sp_owG (K:PySem.W.Frag):Sp:=fun vs H Q _=>∃ (x:V) (d p:Addr) (w:zat) (fs:List Flt) (row:List Int) (o:Int),vs= [x,.ref d,.ref p,.int o]∧Rep K H x (zb4 w)∧WF 20 w∧H d=some (.dT (tabV fs))∧SqL K H p (row.map V.int)∧(row.length:Int)=w.ins∧
 ∀ (r:Addr) (H':Hp),Same H H'→H r=none→H' r=some (.lst ((zdX w (zcA o fs w.gates row w.gates.length)).map V.int))→Q (.ref r) H'
noncomputable def sp_gw2 (K:PySem.W.Frag):Sp:=fun vs H Q _=>∃ (x:Str) (p:Addr) (ns:List Int),vs= [.str x,.ref p]∧SqL K H p (ns.map V.int)∧Bits ns∧zcD x ns.length∧Q (.int (zcH x ns)) H
noncomputable def sp_ca (K:PySem.W.Frag):Sp:=fun vs H Q _=>∃ (a:Addr) (ns:List Int) (k:Nat),vs= [.ref a,.int k]∧SqL K H a (ns.map V.int)∧∀ r:Int,Q (.int r) H
noncomputable def sp_lr:Sp:=fun vs H Q _=>∃ (i:Int),vs= [.int i]∧0≤i∧i≤6∧∀ (R:Addr) (qs:List Addr) (H':Hp),Same H H'→H' R=some (.lst (qs.map V.ref))→At H' qs (zaX i.toNat)→Q (.ref R) H'
noncomputable def sp_rao:Sp:=fun vs H Q _=>∃ n:Nat,vs= [.int n]∧n≤6∧∀ (r L:Addr) (H':Hp),Same H H'→H r=none→H L=none→H' r=some (.tup [.ref L,.int (zaP (2 ^ n))])→H' L=some (.lst ((zdj n).map V.int))→Q (.ref r) H'
theorem zhQ {R:Nat}{x:Int}(h:za0 R x)(hR:R≤64):Builtin.Int.intBits x≤2 ^ 20:=by
 obtain ⟨n,rfl,hn⟩:=zbF h
 have h1:n < 2 ^ 64:=Nat.lt_of_lt_of_le hn (Nat.pow_le_pow_right (by decide) hR)
 exact zgx (k:=64) (by decide) (by omega) (by omega)
theorem pow6 {n:Nat}(h:n≤6): 2 ^ n≤64:=Nat.pow_le_pow_right (n:=2) (by decide) h
noncomputable def ziB (u:Int):List Nat:=(List.range (Builtin.Int.intBits u)).filter fun j=>decide (bitI j u=1)
noncomputable def sp_un:Sp:=fun vs H Q _=>∃ (a b:Addr) (xs ys:List Int) (R:Nat),vs= [.ref a,.ref b]∧H a=some (.lst (xs.map V.int))∧H b=some (.lst (ys.map V.int))∧xs.length=ys.length∧xs.length≤1000∧R≤64∧(∀ v∈xs,za0 R v)∧(∀ v∈ys,za0 R v)∧
 ∀ (r:Addr) (H':Hp),Same H H'→H r=none→H' r=some (.lst ((ziB (zcS xs ys)).map fun j:Nat=>V.int (j:Int)))→Q (.ref r) H'
theorem zmq {R:Nat}{u:Int}(h:za0 R u)(j:Nat):(V.int (Builtin.bitAnd (u / 2 ^ ((j:Int)).toNat) 1)=V.int 1)↔bitI j u=1:=by
 obtain ⟨m,rfl,hm⟩:=zbF h
 rw [Int.toNat_natCast,za8]
 have e:(m:Int) / 2 ^ j=((m / 2 ^ j:Nat):Int):=by
  rw [Int.natCast_ediv]
  congr 1
 have e1:Builtin.bitAnd ((m / 2 ^ j:Nat):Int) 1=((m / 2 ^ j % 2:Nat):Int):=by
  have:=zhJ (m / 2 ^ j) 1
  rw [Nat.and_one_is_mod] at this
  exact this
 rw [e,e1,Nat.testBit_eq_decide_div_mod_eq]
 constructor
 ·intro z
  have:=V.int.inj z
  rw [if_pos (decide_eq_true (by omega))]
 ·intro z
  by_cases c:m / 2 ^ j % 2=1
  ·rw [c]
   rfl
  ·rw [if_neg (by simpa using c)] at z
   cases z
noncomputable def zcu (w:zat) (fs:List Flt):List Int:=zdX w (zcA (zaP (2 ^ w.ins.toNat)) (zcG (2 ^ w.ins.toNat) fs) w.gates (zdj w.ins.toNat) w.gates.length)
theorem ziD {R:Nat}{fs:List Flt}(h:zgF fs):zgF (zcG R fs):=by
 unfold zgF zcG at *
 rw [List.map_map]
 exact h
theorem zku {j:Nat}{w:zat}{ws:List Int}:(zdX w ws).map (bitI j)=zdX w (ws.map (bitI j)):=by
 unfold zdX
 rw [List.map_map]
 refine List.map_congr_left fun o _=>?_
 exact zdf j ws o.toNat
theorem zer {fs:List Flt}(fb:∀ f∈fs,f.worth=0∨f.worth=1){m:Nat}{w:zat}(wf:WF m w):(∀ v∈zcu w fs,za0 (2 ^ w.ins.toNat) v)∧(zcu w fs).length=w.outs.length∧
  ∀ (j:Nat) row,(zaX w.ins.toNat)[j]? =some row→(zcu w fs).map (bitI j)=zdX w (zbs fs w.gates row w.gates.length):=by
 have i1:=wf.i1
 obtain ⟨c1,c2,c3⟩:=zd4 w.ins.toNat
 obtain ⟨w1,w2⟩:=zfX fb wf (cols:=zdj w.ins.toNat) (by rw [c2];omega) c1 w.gates.length (Nat.le_refl _)
 refine ⟨fun v hv=>?_,by unfold zcu zdX;rw [List.length_map],fun j row hj=>?_⟩
 ·unfold zcu zdX at hv
  obtain ⟨o,_,rfl⟩:=List.mem_map.mp hv
  exact zeB w1 _
 ·have lj:j < 2 ^ w.ins.toNat:=by
   have:=(List.getElem?_eq_some_iff.mp hj).1
   rw [zaZ] at this
   exact this
  rw [c3 j lj] at hj
  cases hj
  unfold zcu
  rw [zku,w2 j lj]
noncomputable def sp_osR (K:PySem.W.Frag):Sp:=fun vs H Q _=>∃ (x:V) (d:Addr) (w:zat) (fs:List Flt) (G:Hp),vs= [x,.ref d]∧Off [d] G H∧Rep K G x (zb4 w)∧WF 20 w∧H d=some (.dT (tabV fs))∧(∀ f∈fs,f.worth=0∨f.worth=1)∧zgF fs∧fs.length≤1000∧
 ∀ (r:Addr) (ob:PySem.Obj) (H':Hp),Same G H'→G r=none→H' d=some (.frz ob (.dT (tabV fs)))→H' r=some (.lst ((zcu w fs).map V.int))→Q (.ref r) H'
noncomputable def sp_osT (K:PySem.W.Frag):Sp:=fun vs H Q _=>∃ (x:V) (d:Addr) (w:zat) (fs:List Flt),vs= [x,.ref d]∧Rep K H x (zb4 w)∧WF 20 w∧H d=some (.dT (tabV fs))∧(∀ f∈fs,f.worth=0∨f.worth=1)∧zgF fs∧fs.length≤1000∧
 ∀ (r:Addr) (H':Hp),Same H H'→H r=none→H' r=some (.lst ((zcu w fs).map V.int))→Q (.ref r) H'
theorem zjM {K:PySem.W.Frag}{H:Hp}{p a:Addr}{xs:List V}{kvs:List (List Key×V)}(h:SqT K H a xs)(e:H p=some (.dT kvs)):SqT K (hole p H) a xs:=by
 rcases h with h | h
 ·left
  rcases h with h | ⟨o,h⟩
  ·exact .inl (by rw [zaT (fun z=>by rw [z,e] at h;cases h)];exact h)
  ·exact .inr ⟨o,by rw [zaT (fun z=>by rw [z,e] at h;cases h)];exact h⟩
 ·exact .inr h
theorem ze4 {K:PySem.W.Frag}{H:Hp}{p a:Addr}{xs:List V}{kvs:List (List Key×V)}(h:SqL K H a xs)(e:H p=some (.dT kvs)):SqL K (hole p H) a xs:=by
 rcases h with h | h
 ·left
  rcases h with h | ⟨o,h⟩
  ·exact .inl (by rw [zaT (fun z=>by rw [z,e] at h;cases h)];exact h)
  ·exact .inr ⟨o,by rw [zaT (fun z=>by rw [z,e] at h;cases h)];exact h⟩
 ·exact .inr h
mutual
theorem zif {K:PySem.W.Frag}{H:Hp}{d:Addr}{kvs:List (List Key×V)}(e:H d=some (.dT kvs)):∀ {v:V} {D:Dat},Rep K H v D→Rep K (hole d H) v D
 | _,_,.non=>.non
 | _,_,.bl b=>.bl b
 | _,_,.int i=>.int i
 | _,_,.str x=>.str x
 | _,_,.tup h r=>.tup (zjM h e) (zfy e r)
 | _,_,.lst h r=>.lst (ze4 h e) (zfy e r)
theorem zfy {K:PySem.W.Frag}{H:Hp}{d:Addr}{kvs:List (List Key×V)}(e:H d=some (.dT kvs)):∀ {vs:List V} {Ds:List Dat},Reps K H vs Ds→Reps K (hole d H) vs Ds
 | _,_,.nil=>.nil
 | _,_,.cons h r=>.cons (zif e h) (zfy e r)
end
noncomputable def FAt (H:Hp) (f:Flt) (v:V):Prop:=∃ b,v= .ref b∧H b=some (.tup (f.place.map kV++ [.int f.worth]))
noncomputable abbrev FAll (H:Hp):List V→List Flt→Prop:=Paired fun v f=>FAt H f v
theorem FAt.mono {H H':Hp}{f:Flt}{v:V}(h:FAt H f v)(s:Same H H'):FAt H' f v:=let ⟨b,e,q⟩:=h;⟨b,e,s _ _ q⟩
theorem FAt.write {H:Hp}{f:Flt}{v:V}{p:Addr}{xs:List V}(h:FAt H f v)(e:H p=some (.lst xs))(o:HO):FAt (upd H p o) f v:=by
 obtain ⟨b,rfl,q⟩:=h
 refine ⟨b,rfl,?_⟩
 rw [zai (fun z=>by rw [z,e] at q;cases q)]
 exact q
theorem FAll.mono {H H':Hp}{vs:List V}{fs:List Flt}(h:FAll H vs fs)(s:Same H H'):FAll H' vs fs:=Paired.mapP h fun _ _ z=>z.mono s
theorem FAll.new {H:Hp}{vs:List V}{fs:List Flt}{T:Addr}(h:FAll H vs fs)(e:H T=none)(o:HO):FAll (upd H T o) vs fs:=FAll.mono h (zaf e o)
theorem FAll.write {H:Hp}{vs:List V}{fs:List Flt}{p:Addr}{xs:List V}(h:FAll H vs fs)(e:H p=some (.lst xs))(o:HO):FAll (upd H p o) vs fs:=Paired.mapP h fun _ _ z=>z.write e o
theorem FAll.app {H:Hp}{vs us:List V}{fs gs:List Flt}(h:FAll H vs fs)(g:FAll H us gs):FAll H (vs++us) (fs++gs):=by
 unfold FAll at *
 induction h with
 | nil=>exact g
 | cons a _ ih=>exact .cons a ih
noncomputable def zi1 (K:PySem.W.Frag):Sp:=fun vs H Q _=>∃ (x:V) (w:zat),vs= [x]∧Rep K H x (zb4 w)∧WF 20 w∧∀ (r:Addr) (xs:List V) (H':Hp),Same H H'→H r=none→H' r=some (.lst xs)→FAll H' xs (allF w)→Q (.ref r) H'
noncomputable def fkK (f:Flt):List Key:=f.place++ [Sum.inl f.worth]
theorem zhy (f:Flt):(fkK f).map kV=f.place.map kV++ [.int f.worth]:=by unfold fkK;rw [List.map_append];rfl
theorem ze0 {f g:Flt}(h:fkK f=fkK g):f=g:=by
 unfold fkK at h
 obtain ⟨h1,h2⟩:=List.append_inj' h rfl
 obtain ⟨p,v⟩:=f
 obtain ⟨p',v'⟩:=g
 simp at h1 h2
 rw [h1,h2]
theorem zcV {w:zat}(wf:WF 20 w):(allF w).length≤400:=by
 have e:=congrArg List.length (allF_D w)
 rw [List.length_map,← zc5,ze1] at e
 have g1:=zdb wf w.gates.length
 have i6:=wf.i6
 have few:=wf.few
 unfold za5 at e
 rw [List.length_append,zcM] at e
 omega
theorem zeJ:∀ ps:List (List Key),ps.Nodup→(ps.flatMap fun p=>[(⟨p,0⟩:Flt),⟨p,1⟩]).Nodup
 | [],_=>List.nodup_nil
 | p::ps,h=>by
  obtain ⟨h1,h2⟩:=List.nodup_cons.mp h
  rw [List.flatMap_cons,List.nodup_append]
  refine ⟨by simp,zeJ ps h2,fun a ha b hb e=>?_⟩
  subst e
  obtain ⟨q,hq,hb⟩:=List.mem_flatMap.mp hb
  have e1:a.place=p:=by
   rcases List.mem_cons.mp ha with z | z
   ·rw [z]
   ·rw [List.mem_singleton.mp z]
  have e2:a.place=q:=by
   rcases List.mem_cons.mp hb with z | z
   ·rw [z]
   ·rw [List.mem_singleton.mp z]
  exact h1 (by rw [← e1,e2];exact hq)
theorem zdM (w:zat):(allF w).Nodup:=zeJ _ (ziq w)
noncomputable abbrev zd6 (H:Hp) (w:zat):List (List Key×V)→List Flt→Prop:=Paired fun kv f=>kv.1=fkK f∧∃ l,kv.2= .ref l∧H l=some (.lst ((zcu w [f]).map V.int))
theorem zd6.mono {H H':Hp}{w:zat}{kvs:List (List Key×V)}{fs:List Flt}(h:zd6 H w kvs fs)(s:Same H H'):zd6 H' w kvs fs:=Paired.mapP h fun _ _ ⟨a,l,b,c⟩=>⟨a,l,b,s _ _ c⟩
theorem zd6.put {H:Hp}{w:zat}{kvs kvs':List (List Key×V)}{fs:List Flt}{d:Addr}(h:zd6 H w kvs fs)(e:H d=some (.dT kvs'))(o:HO):zd6 (upd H d o) w kvs fs:=
 Paired.mapP h fun _ _ ⟨a,l,b,c⟩=>⟨a,l,b,by rw [zai (fun z=>by rw [z,e] at c;cases c)];exact c⟩
theorem zd6.miss {H:Hp}{w:zat}{f:Flt}:∀ {kvs:List (List Key×V)} {fs:List Flt},zd6 H w kvs fs→f∉fs→valV kvs (fkK f)=none
 | _,_,.nil,_=>rfl
 | _,_,.cons h r,n=>by
  rw [zcX (fun z=>n (by rw [ze0 (h.1.symm.trans z)];exact .head _))]
  exact zd6.miss r fun z=>n (.tail _ z)
theorem zdZ {α β :Type}{r: α→β→Prop}{xs:List α}{ys:List β}{x: α}{y: β}(h:Paired r xs ys)(q:r x y):Paired r (xs++ [x]) (ys++ [y]):=Paired.snoc h q
noncomputable def sp_soe (K:PySem.W.Frag):Sp:=fun vs H Q _=>∃ (x:V) (w:zat),vs= [x]∧Rep K H x (zb4 w)∧WF 20 w∧∀ (d:Addr) (kvs:List (List Key×V)) (H':Hp),Same H H'→H d=none→H' d=some (.dT kvs)→zd6 H' w kvs (allF w)→Q (.ref d) H'
noncomputable def zaD (ns:List Nat):List V:=ns.map fun j:Nat=>V.int (j:Int)
theorem zaN (ns:List Nat):(zaD ns).length=ns.length:=by unfold zaD;rw [List.length_map]
theorem zcF {ns:List Nat}{i:Nat}{v:V}(h:(zaD ns)[i]? =some v):∃ j,ns[i]? =some j∧v= .int (j:Int):=by
 unfold zaD at h
 rw [List.getElem?_map] at h
 cases hz:ns[i]? with
 | none=>rw [hz] at h;cases h
 | some j=>rw [hz] at h;cases h;exact ⟨j,rfl,rfl⟩
theorem zeV (j:Nat)(ns:List Nat):inV (.int (j:Int)) (zaD ns)=decide (j∈ns):=by
 unfold inV zaD
 rw [List.any_map,Bool.eq_iff_iff,List.any_eq_true,decide_eq_true_eq]
 constructor
 ·rintro ⟨i,hi,e⟩
  have e':((i:Int)==(j:Int))=true:=e
  have:i=j:=Int.ofNat.inj (eq_of_beq e')
  rw [← this];exact hi
 ·intro h
  exact ⟨j,h,show ((j:Int)==(j:Int))=true by simp⟩
theorem zec (ns:List Nat):(zaD ns).all zfF=true:=by
 unfold zaD
 rw [List.all_map,List.all_eq_true]
 exact fun _ _=>rfl
noncomputable def zbt (ns ts:List Nat):Bool:=ns.any fun j=>decide (j∈ts)
noncomputable def sp_mt (K:PySem.W.Frag):Sp:=fun vs H Q _=>∃ (a b:Addr) (ns ts:List Nat),vs= [.ref a,.ref b]∧SqL K H a (zaD ns)∧SqL K H b (zaD ts)∧ns.length≤1000∧∀ H',Same H H'→Q (.bl (zbt ns ts)) H'
noncomputable abbrev zk3 (H:Hp):List (List Key×V)→List (List Nat)→Prop:=Paired fun kv ns=>∃ l,kv.2= .ref l∧H l=some (.lst (zaD ns))
noncomputable def sp_meR (K:PySem.W.Frag):Sp:=fun vs H Q _=>∃ (a d:Addr) (ts:List Nat) (kvs:List (List Key×V)) (nss:List (List Nat)),vs= [.ref a,.ref d]∧SqL K H a (zaD ts)∧H d=some (.dT kvs)∧zk3 H kvs nss∧nss.length≤1000∧(∀ ns∈nss,ns.length≤1000)∧
 ∀ (ob:PySem.Obj) (H':Hp),Same (hole d H) H'→H' d=some (.frz ob (.dT kvs))→Q (.bl (nss.all fun ns=>zbt ns ts)) H'
noncomputable def sp_me (K:PySem.W.Frag):Sp:=fun vs H Q _=>∃ (a d:Addr) (ts:List Nat) (kvs:List (List Key×V)) (nss:List (List Nat)),vs= [.ref a,.ref d]∧SqL K H a (zaD ts)∧H d=some (.dT kvs)∧zk3 H kvs nss∧nss.length≤1000∧(∀ ns∈nss,ns.length≤1000)∧
 ∀ (H':Hp),Same H H'→Q (.bl (nss.all fun ns=>zbt ns ts)) H'
noncomputable def zaM (w:zat) (f:Flt):List Nat:=ziB (zcS (zcu w [f]) (zcu w []))
noncomputable def zck (w:zat):List Flt:=(allF w).filter fun f=>decide (zaM w f≠[])
noncomputable abbrev zbJ (H:Hp) (w:zat):List (List Key×V)→List Flt→Prop:=Paired fun kv f=>kv.1=fkK f∧∃ l,kv.2= .ref l∧H l=some (.lst (zaD (zaM w f)))
theorem zbJ.mono {H H':Hp}{w:zat}{kvs:List (List Key×V)}{fs:List Flt}(h:zbJ H w kvs fs)(s:Same H H'):zbJ H' w kvs fs:=Paired.mapP h fun _ _ ⟨a,l,b,c⟩=>⟨a,l,b,s _ _ c⟩
theorem zbJ.put {H:Hp}{w:zat}{kvs kvs':List (List Key×V)}{fs:List Flt}{d:Addr}(h:zbJ H w kvs fs)(e:H d=some (.dT kvs'))(o:HO):zbJ (upd H d o) w kvs fs:=
 Paired.mapP h fun _ _ ⟨a,l,b,c⟩=>⟨a,l,b,by rw [zai (fun z=>by rw [z,e] at c;cases c)];exact c⟩
theorem zbJ.miss {H:Hp}{w:zat}{f:Flt}:∀ {kvs:List (List Key×V)} {fs:List Flt},zbJ H w kvs fs→f∉fs→valV kvs (fkK f)=none
 | _,_,.nil,_=>rfl
 | _,_,.cons h r,n=>by
  rw [zcX (fun z=>n (by rw [ze0 (h.1.symm.trans z)];exact .head _))]
  exact zbJ.miss r fun z=>n (.tail _ z)
theorem zbJ.nums {H:Hp}{w:zat}:∀ {kvs:List (List Key×V)} {fs:List Flt},zbJ H w kvs fs→zk3 H kvs (fs.map (zaM w))
 | _,_,.nil=>.nil
 | _,_,.cons h r=>.cons h.2 (zbJ.nums r)
noncomputable def sp_fr (K:PySem.W.Frag):Sp:=fun vs H Q _=>∃ (x:V) (w:zat),vs= [x]∧Rep K H x (zb4 w)∧WF 20 w∧∀ (d:Addr) (kvs:List (List Key×V)) (H':Hp),Same H H'→H d=none→H' d=some (.dT kvs)→zbJ H' w kvs (zck w)→Q (.ref d) H'
noncomputable def zeM (n:Nat) (rs:List (List Int)):List Nat:=(List.range (zaX n).length).filter fun j=>decide ((zaX n).getD j []∈rs)
noncomputable def sp_fa (K:PySem.W.Frag):Sp:=fun vs H Q _=>∃ (x y:V) (w:zat) (rs:List (List Int)),vs= [x,y]∧Rep K H x (zb4 w)∧WF 20 w∧Rep K H y (.list (rs.map rowD))∧(∀ row∈rs,(row.length:Int)=w.ins∧Bits row)∧rs.length≤1000∧
 ∀ H',Same H H'→Q (.bl ((zck w).all fun f=>zbt (zaM w f) (zeM w.ins.toNat rs))) H'
noncomputable def zbk (w:zat) (fs:List Flt):List (List Int):=(zaX w.ins.toNat).map fun row=>zdX w (zbs fs w.gates row w.gates.length)
theorem zdE {p:Nat→Bool}{B:Nat}(h:∀ j,B≤j→p j=false):∀ k,(List.range (B+k)).filter p=(List.range B).filter p
 | 0=>rfl
 | k+1=>by
  rw [← Nat.add_assoc,List.range_succ,List.filter_append,zdE h k,List.filter_cons_of_neg (by rw [h _ (Nat.le_add_right _ _)];exact Bool.false_ne_true)]
  simp
noncomputable def zk8 (w:zat) (f:Flt):List Nat:=(List.range (2 ^ w.ins.toNat)).filter fun j=>decide ((zbk w [f]).getD j []≠(zbk w []).getD j [])
theorem zdx {w:zat}{f:Flt}(gf:zed w f)(wf:WF 20 w):zaM w f=zk8 w f:=by
 have fb1:∀ h∈[f],h.worth=0∨h.worth=1:=fun h hh=>by rw [List.mem_singleton.mp hh];exact gf.2
 obtain ⟨f1,f2,f3⟩:=zer fb1 wf
 obtain ⟨g1,g2,g3⟩:=zer (fs:=[]) (fun f hf=>nomatch hf) wf
 obtain ⟨u1,u2⟩:=zdU (R:=2 ^ w.ins.toNat) (zcu w [f]) (zcu w []) (f2.trans g2.symm) f1 g1 (zdc _)
 unfold zaM zk8
 obtain ⟨u,eu⟩:∃ u,zcS (zcu w [f]) (zcu w [])=u:=⟨_,rfl⟩
 have b0:za0 (2 ^ w.ins.toNat) u:=by rw [← eu];exact u1
 have hi:∀ j,2 ^ w.ins.toNat≤j→decide (bitI j u=1)=false:=fun j h=>by
  obtain ⟨k,rfl,hk⟩:=zbF b0
  rw [za8,Nat.testBit_lt_two_pow (Nat.lt_of_lt_of_le hk (Nat.pow_le_pow_right (by decide) h))]
  rfl
 have hb:∀ j,Builtin.Int.intBits u≤j→decide (bitI j u=1)=false:=fun j h=>by
  obtain ⟨k,rfl,hk⟩:=zbF b0
  rw [za8,Nat.testBit_lt_two_pow (Nat.lt_of_lt_of_le (zms k) (Nat.pow_le_pow_right (by decide) h))]
  rfl
 rw [eu]
 unfold ziB
 rw [← zdE hb (2 ^ w.ins.toNat),Nat.add_comm,zdE hi]
 refine List.filter_congr fun j hj=>?_
 have lj:=List.mem_range.mp hj
 obtain ⟨row,hrow⟩:∃ row,(zaX w.ins.toNat)[j]? =some row:=⟨_,List.getElem?_eq_getElem (by rw [zaZ];exact lj)⟩
 have z:bitI j (zcS (zcu w [f]) (zcu w []))=1↔_:=u2 j
 rw [eu,zeX,f3 j row hrow,g3 j row hrow] at z
 have e1:∀ fs,(zbk w fs).getD j []=zdX w (zbs fs w.gates row w.gates.length):=fun fs=>by
  unfold zbk
  rw [List.getD_eq_getElem?_getD,List.getElem?_map,hrow]
  rfl
 rw [e1,e1,decide_eq_decide]
 refine z.trans ?_
 simp
theorem zgu {w:zat}{f:Flt}(gf:zed w f)(wf:WF 20 w):(zaM w f).length≤1000:=by
 rw [zdx gf wf]
 unfold zk8
 have:=List.length_filter_le (fun j=>decide ((zbk w [f]).getD j []≠(zbk w []).getD j [])) (List.range (2 ^ w.ins.toNat))
 rw [List.length_range] at this
 have h64:=pow6 (n:=w.ins.toNat) (by have:=wf.i6;omega)
 omega
noncomputable def sp_dg:Sp:=fun vs H Q _=>∃ (c:Int) (many:Nat) (top:Int),vs= [.int c,.int many,.int top]∧many≤100∧0 < top∧top≤1000000000000∧
 ∀ (r:Addr) (row:List Int) (H':Hp),Same H H'→H r=none→H' r=some (.lst (row.map V.int))→row.length=many→(∀ z∈row,0≤z∧z < top)→Q (.ref r) H'
noncomputable def sp_gt:Sp:=fun vs H Q _=>∃ (c wires:Int),vs= [.int c,.int wires]∧1≤wires∧wires < 1073741824∧
 ∀ (r la:Addr) (x:Str) (ls:List Int) (H':Hp),Same H H'→H r=none→H la=none→H' r=some (.tup [.str x,.ref la])→H' la=some (.tup (ls.map V.int))→zcD x ls.length→(∀ l∈ls,0≤l∧l < wires)→Q (.ref r) H'
noncomputable def sp_wko (K:PySem.W.Frag):Sp:=fun vs H Q _=>∃ (a:Addr) (ns:List Int) (inp:Int) (most:Nat),vs= [.ref a,.int inp,.int most]∧SqL K H a (ns.map V.int)∧1≤inp∧inp≤6∧most≤20∧
 ∀ (r:Addr) (w:zat) (H':Hp),Same H H'→Rep K H' (.ref r) (zb4 w)→WF 20 w→w.ins=inp→Q (.ref r) H'
theorem zj9 (ns:List Int){m:Nat}:∃ ms:List Int,cutV (ns.map V.int) (some 3) (some (3+(m:Int)))=ms.map V.int∧ms.length≤m:=by
 have e1:HT.sIx (ns.map V.int).length 0 (some 3)=min 3 ns.length:=by
  simp only [HT.sIx,List.length_map]
  rw [if_neg (by decide)]
  omega
 have e2:HT.sIx (ns.map V.int).length (ns.map V.int).length (some (3+(m:Int)))=min (3+m) ns.length:=by
  simp only [HT.sIx,List.length_map]
  rw [if_neg (by omega)]
  omega
 refine ⟨(ns.drop (min 3 ns.length)).take (min (3+m) ns.length - min 3 ns.length),?_,?_⟩
 ·unfold cutV
  rw [e1,e2,List.map_take,List.map_drop]
 ·rw [List.length_take]
  omega
theorem bits40 {n:Int}(h: 0≤n∧n < 2 ^ 40):Builtin.Int.intBits n≤2 ^ 20:=zgx (k:=40) (by decide) (by omega) (by omega)
noncomputable def zll (cc j:Int):Int:=(cc+977 * j+1) * 48271 % 2147483647
noncomputable def stirB (cc j:Int):Int:=(zll cc j * zll cc j % 2147483629+40692 * (j+3)) * 69621 % 2147483423 / 8
theorem kindsD {c:Int}(h0: 0≤c)(h1:c < 10):∃ x,atI [V.str "and",V.str "or",V.str "and",V.str "or",V.str "odd",V.str "not",V.str "choose",V.str "odd",V.str "zero",V.str "one"] c=some (.str x)∧zjL x:=by
 have:c=0∨c=1∨c=2∨c=3∨c=4∨c=5∨c=6∨c=7∨c=8∨c=9:=by omega
 unfold zjL
 rcases this with rfl | rfl | rfl | rfl | rfl | rfl | rfl | rfl | rfl | rfl
 ·exact ⟨_,rfl,.inl rfl⟩
 ·exact ⟨_,rfl,.inr (.inl rfl)⟩
 ·exact ⟨_,rfl,.inl rfl⟩
 ·exact ⟨_,rfl,.inr (.inl rfl)⟩
 ·exact ⟨_,rfl,.inr (.inr (.inl rfl))⟩
 ·exact ⟨_,rfl,.inr (.inr (.inr (.inl rfl)))⟩
 ·exact ⟨_,rfl,.inr (.inr (.inr (.inr (.inl rfl))))⟩
 ·exact ⟨_,rfl,.inr (.inr (.inl rfl))⟩
 ·exact ⟨_,rfl,.inr (.inr (.inr (.inr (.inr (.inl rfl)))))⟩
 ·exact ⟨_,rfl,.inr (.inr (.inr (.inr (.inr (.inr rfl)))))⟩
theorem manyD {x:Str}(k:zjL x){m:Int}(h0: 2≤m∧m≤4):∃ n:Nat,(valV (zdS [] [(Sum.inr "not",V.int 1),(Sum.inr "choose",.int 3),(Sum.inr "zero",.int 0),(Sum.inr "one",.int 0)]:List (Key×V)) (Sum.inr x)).getD (.int m)= .int (n:Int)∧zcD x n:=by
 unfold zcD
 rcases k with rfl | rfl | rfl | rfl | rfl | rfl | rfl
 ·exact ⟨m.toNat,by rw [Int.toNat_of_nonneg (by omega)];rfl,.inl ⟨.inl rfl,by omega,by omega⟩⟩
 ·exact ⟨m.toNat,by rw [Int.toNat_of_nonneg (by omega)];rfl,.inl ⟨.inr (.inl rfl),by omega,by omega⟩⟩
 ·exact ⟨m.toNat,by rw [Int.toNat_of_nonneg (by omega)];rfl,.inl ⟨.inr (.inr rfl),by omega,by omega⟩⟩
 ·exact ⟨1,rfl,.inr (.inl ⟨rfl,rfl⟩)⟩
 ·exact ⟨3,rfl,.inr (.inr (.inl ⟨rfl,rfl⟩))⟩
 ·exact ⟨0,rfl,.inr (.inr (.inr ⟨.inl rfl,rfl⟩))⟩
 ·exact ⟨0,rfl,.inr (.inr (.inr ⟨.inr rfl,rfl⟩))⟩
theorem zlU {ns:List Int}(b:Bits ns):(if (!inV (.int 0) (ns.map V.int))=true then (1:Int) else 0)=zcH "and" ns:=by
 rw [zj0]
 have e:(!inV (.int 0) (ns.map V.int))=ns.all (· ==1):=by
  unfold inV
  rw [List.any_map,Bool.eq_iff_iff,Bool.not_eq_true',List.any_eq_false,List.all_eq_true]
  constructor
  ·intro h n hn
   have:¬((n==(0:Int))=true):=h n hn
   rcases b n hn with e | e
   ·rw [e] at this;exact absurd rfl this
   ·rw [e];rfl
  ·intro h n hn
   have:=h n hn
   show ¬((n==(0:Int))=true)
   rw [eq_of_beq this]
   decide
 rw [e]
theorem int_or {ns:List Int}:(if (inV (.int 1) (ns.map V.int))=true then (1:Int) else 0)=zcH "or" ns:=by
 rw [zl0]
 have e:inV (.int 1) (ns.map V.int)=ns.any (· ==1):=by
  unfold inV
  rw [List.any_map]
  rfl
 rw [e]
theorem zhg (ns:List Int):(ns.map V.int).all zfF=true:=by
 rw [List.all_map,List.all_eq_true]
 exact fun _ _=>rfl
noncomputable def sp_lf (K:PySem.W.Frag):Sp:=fun vs H Q _=>∃ (x:V) (w:zat),vs= [x]∧Rep K H x (zb4 w)∧WF 20 w∧∀ (r:Addr) (xs:List V) (H':Hp),Same H H'→H r=none→H' r=some (.lst xs)→FAll H' xs (allF w)→Q (.ref r) H'
noncomputable def sp_cpy (K:PySem.W.Frag):Sp:=fun vs H Q _=>∃ (x:V) (w:zat),vs= [x]∧Rep K H x (zb4 w)∧WF 20 w∧∀ (r:Addr) (H':Hp),Same H H'→Rep K H' (.ref r) (zb4 w)→Q (.ref r) H'
theorem ze2:∀ n,zaX (n+1)=(zaX n).flatMap (fun r=>[r++ [0],r++ [1]])
 | 0=>rfl
 | n+1=>by
  have e:∀ (c:Int) (rs:List (List Int)),(rs.map (c:: ·)).flatMap (fun r=>[r++ [0],r++ [1]])=(rs.flatMap (fun r=>[r++ [0],r++ [1]])).map (c:: ·):=fun c rs=>by
   induction rs with
   | nil=>rfl
   | cons r rs ih=>simp only [List.map_cons,List.flatMap_cons,List.map_append,ih];rfl
  rw [zaX,ze2 n]
  conv=>rhs;rw [← ze2 n,zaX,List.flatMap_append,e,e]
noncomputable def zes (ps:List (List Key)):List Flt:=ps.flatMap fun p=>[⟨p,0⟩,⟨p,1⟩]
theorem zd1 (ps:List (List Key))(p:List Key):zes (ps++ [p])=zes ps++ [⟨p,0⟩,⟨p,1⟩]:=by unfold zes;rw [List.flatMap_append];simp
theorem FAll.two {H:Hp}{xs:List V}{fs:List Flt}{a b:Addr}{p:List Key}(h:FAll H xs fs)(ha:H a=some (.tup (p.map kV++ [.int 0])))(hb:H b=some (.tup (p.map kV++ [.int 1]))):FAll H (xs++ [.ref a,.ref b]) (fs++ [⟨p,0⟩,⟨p,1⟩]):=
 FAll.app h (.cons ⟨a,rfl,ha⟩ (.cons ⟨b,rfl,hb⟩ .nil))
theorem zf0:∀ ps:List (List Key),(zes ps).length=2 * ps.length
 | []=>rfl
 | p::ps=>by
  have:=zf0 ps
  unfold zes at *
  rw [List.flatMap_cons,List.length_append,this]
  simp only [List.length_cons,List.length_nil]
  omega
theorem W_in (fs:List Flt)(gs:List (Str×List Int))(row:List Int){i:Nat}(h:i < row.length)(L:Nat):(zbs fs gs row L)[i]? =some (pick fs (zb2 i) (row.getD i 0)):=by
 rw [zd2 fs gs row (n:=0) (by omega) L (Nat.zero_le _)]
 show (rowS fs row)[i]? =_
 unfold rowS
 rw [List.getElem?_mapIdx,List.getD_eq_getElem?_getD,List.getElem?_eq_getElem h]
 rfl
theorem zlC (fs:List Flt){gs:List (Str×List Int)}{row:List Int}{k L:Nat}{g:Str×List Int}(hg:gs[k]? =some g)(hk:k < L)(lb:∀ l∈g.2,0≤l∧l < ((row.length+k:Nat):Int)):
  (zbs fs gs row L)[row.length+k]? =some (pick fs (zb2 ((row.length+k:Nat):Int)) (zcH g.1 (zcK fs k (g.2.map fun l=>(zbs fs gs row L).getD l.toNat 0)))):=by
 rw [zd2 fs gs row (n:=k+1) (by omega) L (by omega),zbs,hg,List.getElem?_append_right (by rw [zci];exact Nat.le_refl _),zci,Nat.sub_self]
 have e:(g.2.map fun l=>(zbs fs gs row k).getD l.toNat 0)=g.2.map fun l=>(zbs fs gs row L).getD l.toNat 0:=List.map_congr_left fun l hl=>by
  have:=lb l hl
  rw [List.getD_eq_getElem?_getD,List.getD_eq_getElem?_getD,zd2 fs gs row (i:=l.toNat) (n:=k) (by omega) L (by omega)]
 simp only [List.getElem?_cons_zero,Option.some.injEq]
 rw [← e]
noncomputable def FC (K:PySem.W.Frag) (H:Hp) (w:zat) (b:Addr) (fs:List Flt):Prop:=(fs= []∧SqT K H b [.str "well"])∨
 (∃ (i0:Nat) (u:Int),fs= [⟨zb2 i0,u⟩]∧(u=0∨u=1)∧SqT K H b [.str "wire",.int i0,.int u])∨
 ∃ (g0 p0:Nat) (u:Int) (gt:Str×List Int),fs= [⟨legK g0 p0,u⟩]∧(u=0∨u=1)∧w.gates[g0]? =some gt∧p0 < gt.2.length∧SqT K H b [.str "leg",.int g0,.int p0,.int u]
theorem FC.bits {K:PySem.W.Frag}{H:Hp}{w:zat}{b:Addr}{fs:List Flt}(h:FC K H w b fs):∀ f∈fs,f.worth=0∨f.worth=1:=by
 rcases h with ⟨a,c⟩ | ⟨i0,u,a,d,c⟩ | ⟨g0,p0,u,gt,a,d,e,f,c⟩ <;> subst a <;> intro x hx
 ·cases hx
 ·rw [List.mem_singleton.mp hx];exact d
 ·rw [List.mem_singleton.mp hx];exact d
theorem FC.of {K:PySem.W.Frag}{H:Hp}{w:zat}{b:Addr}{f:Flt}(gf:zed w f)(h:H b=some (.tup (f.place.map kV++ [.int f.worth]))):FC K H w b [f]:=by
 obtain ⟨p,u⟩:=f
 rcases ziR gf with ⟨i,_,e⟩ | ⟨g,p',gt,e1,e2,e⟩
 ·cases e
  exact .inr (.inl ⟨i,u,rfl,gf.2,.of h⟩)
 ·cases e
  exact .inr (.inr ⟨g,p',u,gt,rfl,gf.2,e1,e2,.of h⟩)
noncomputable def sp_lou (K:PySem.W.Frag):Sp:=fun vs H Q _=>∃ (x:V) (b p:Addr) (w:zat) (fs:List Flt) (row:List Int),vs= [x,.ref b,.ref p]∧Rep K H x (zb4 w)∧WF 20 w∧FC K H w b fs∧SqL K H p (row.map V.int)∧(row.length:Int)=w.ins∧Bits row∧
 ∀ (r:Addr) (H':Hp),Same H H'→H r=none→H' r=some (.lst ((zdX w (zbs fs w.gates row w.gates.length)).map V.int))→Q (.ref r) H'
noncomputable def zfm (H:Hp) (m:Addr) (rows:List (List Int)):Prop:=∃ xs,H m=some (.lst xs)∧Paired (fun v row=>∃ q,v= .ref q∧H q=some (.lst (row.map V.int))) xs rows
theorem zfm.mono {H H':Hp}{m:Addr}{rows:List (List Int)}(h:zfm H m rows)(s:Same H H'):zfm H' m rows:=by
 obtain ⟨xs,a,b⟩:=h
 exact ⟨xs,s _ _ a,Paired.mapP b fun _ _ ⟨q,c,d⟩=>⟨q,c,s _ _ d⟩⟩
noncomputable def zjN (H:Hp) (w:zat) (v:V) (f:Flt):Prop:=∃ t b m,v= .ref t∧H t=some (.tup [.ref b,.ref m])∧H b=some (.tup (f.place.map kV++ [.int f.worth]))∧zfm H m (zbk w [f])
theorem zjN.mono {H H':Hp}{w:zat}{v:V}{f:Flt}(h:zjN H w v f)(s:Same H H'):zjN H' w v f:=by
 obtain ⟨t,b,m,e,a,c,d⟩:=h
 exact ⟨t,b,m,e,s _ _ a,s _ _ c,d.mono s⟩
noncomputable def sp_la (K:PySem.W.Frag):Sp:=fun vs H Q _=>∃ (x:V) (w:zat),vs= [x]∧Rep K H x (zb4 w)∧WF 20 w∧∀ (r t0 b0 m0:Addr) (xs:List V) (H':Hp),Same H H'→H r=none→H' r=some (.lst (.ref t0::xs))→H' t0=some (.tup [.ref b0,.ref m0])→zfm H' m0 (zbk w [])→Paired (zjN H' w) xs (allF w)→Q (.ref r) H'
theorem zhi {F:Addr}{H H':Hp}{o:HO}(s:Same H H')(e:H F=some o)(o':HO):Same (hole F H) (hole F (upd H' F o')):=fun b v h=>by
 by_cases z:b=F
 ·unfold hole at h
  rw [if_pos z] at h
  cases h
 ·rw [zaT z] at h ⊢
  rw [zai z]
  exact s _ _ h
theorem zfY {w:zat}{fs:List Flt}{i:Nat}{row:List Int}(hrow:(zaX w.ins.toNat)[i]? =some row):(zbk w fs).take (i+1)=(zbk w fs).take i++ [zdX w (zbs fs w.gates row w.gates.length)]:=by
 unfold zbk
 rw [List.take_add_one,List.getElem?_map,hrow]
 rfl
theorem zjK (v:V)(xs:List V):cutV (v::xs) (some 1) none=xs:=by
 have e1:HT.sIx (v::xs).length 0 (some 1)=1:=by
  simp only [HT.sIx]
  rw [if_neg (by decide),List.length_cons]
  exact Nat.min_eq_left (Nat.le_add_left _ _)
 have e2:HT.sIx (v::xs).length (v::xs).length none=(v::xs).length:=rfl
 unfold cutV
 rw [e1,e2,List.drop_one,List.tail_cons]
 exact List.take_of_length_le (by simp)
noncomputable def sp_lfd (K:PySem.W.Frag):Sp:=fun vs H Q _=>∃ (x:V) (w:zat),vs= [x]∧Rep K H x (zb4 w)∧WF 20 w∧∀ (d:Addr) (kvs:List (List Key×V)) (H':Hp),Same H H'→H d=none→H' d=some (.dT kvs)→zbJ H' w kvs (allF w)→Q (.ref d) H'
theorem zjj (w:zat)(fs:List Flt):(zbk w fs).length=2 ^ w.ins.toNat:=by unfold zbk;rw [List.length_map,zaZ]
noncomputable def zg9 (w:zat) (ts:List Nat):List Flt:=(allF w).filter fun f=>decide (zaM w f≠[]) && !zbt (zaM w f) ts
theorem zlw (w:zat)(ts:List Nat):zg9 w ts= []↔((zck w).all fun f=>zbt (zaM w f) ts)=true:=by
 unfold zg9 zck
 rw [List.filter_eq_nil_iff,List.all_eq_true]
 constructor
 ·intro h f hf
  obtain ⟨h1,h2⟩:=List.mem_filter.mp hf
  have:=h f h1
  rw [h2,Bool.true_and,Bool.not_eq_true',Bool.not_eq_false] at this
  exact this
 ·intro h f hf z
  rw [Bool.and_eq_true] at z
  have:=h f (List.mem_filter.mpr ⟨hf,z.1⟩)
  rw [this] at z
  exact absurd z.2 (by decide)
noncomputable def sp_som:Sp:=fun vs H Q _=>∃ (n:Int) (many:Nat),vs= [.int n,.int many]∧0≤n∧n < 1000000000000∧many≤64∧
 ∀ (r:Addr) (ts:List Nat) (H':Hp),Same H H'→H r=none→H' r=some (.lst (zaD ts))→(∀ j∈ts,j < many)→ts.length≤128→Q (.ref r) H'
theorem zbJ.hit {H:Hp}{w:zat}{f:Flt}{p:List Key×V}:∀ {kvs:List (List Key×V)} {fs:List Flt} {i:Nat},zbJ H w kvs fs→fs.Nodup→kvs[i]? =some p→fs[i]? =some f→valV kvs (fkK f)=some p.2
 | _,_,0,.cons h _,_,e1,e2=>by
  cases e1
  cases e2
  exact zdL h.1
 | _,_,i+1,.cons (a:=a) (b:=b) h r,nd,e1,e2=>by
  have nd':=List.nodup_cons.mp nd
  rw [zcX (fun z=>nd'.1 (by rw [ze0 (h.1.symm.trans z)];exact List.mem_of_getElem? e2))]
  exact zbJ.hit r nd'.2 e1 e2
theorem zdd {K:PySem.W.Frag}{H:Hp}(ns:List Nat):Reps K H (zaD ns) ((ns.map fun j:Nat=>(j:Int)).map Dat.int):=by
 have:=Reps.ints (K:=K) (H:=H) (ns.map fun j:Nat=>(j:Int))
 rw [List.map_map] at this
 exact this
theorem zb7 (ns:List Nat):(Dat.list ((ns.map fun j:Nat=>(j:Int)).map Dat.int)=Dat.list [])↔ns= []:=by
 constructor
 ·intro e
  have:=Dat.list.inj e
  cases ns with
  | nil=>rfl
  | cons a b=>cases this
 ·rintro rfl;rfl
noncomputable def FAtR (H:Hp) (f:Flt) (v:V):Prop:=∃ b,v= .ref b∧RdT H b (f.place.map kV++ [.int f.worth])
noncomputable abbrev zda (H:Hp):List V→List Flt→Prop:=Paired fun v f=>FAtR H f v
theorem FAtR.mono {H H':Hp}{f:Flt}{v:V}(h:FAtR H f v)(s:Same H H'):FAtR H' f v:=let ⟨b,e,q⟩:=h;⟨b,e,q.same s⟩
theorem FAtR.write {H:Hp}{f:Flt}{v:V}{p:Addr}{xs:List V}(h:FAtR H f v)(e:H p=some (.lst xs))(o:HO):FAtR (upd H p o) f v:=let ⟨b,e1,q⟩:=h;⟨b,e1,q.write e⟩
theorem zda.mono {H H':Hp}{vs:List V}{fs:List Flt}(h:zda H vs fs)(s:Same H H'):zda H' vs fs:=Paired.mapP h fun _ _ z=>z.mono s
theorem zda.write {H:Hp}{vs:List V}{fs:List Flt}{p:Addr}{xs:List V}(h:zda H vs fs)(e:H p=some (.lst xs))(o:HO):zda (upd H p o) vs fs:=Paired.mapP h fun _ _ z=>z.write e o
theorem FAtR.rep {K:PySem.W.Frag}{H:Hp}{f:Flt}{v:V}(h:FAtR H f v):Rep K H v (fltD f):=by
 obtain ⟨b,rfl,q⟩:=h
 exact zmV q.tup
theorem zda.reps {K:PySem.W.Frag}{H:Hp}:∀ {vs:List V} {fs:List Flt},zda H vs fs→Reps K H vs (fs.map fltD)
 | _,_,.nil=>.nil
 | _,_,.cons a r=>.cons a.rep (zda.reps r)
inductive Pap where
 | none (f:List Key)
 | of (f:List Key) (ps:List Pap)
noncomputable def zdr (H:Hp):Nat→V→Pap→Prop
 | 0,_,_=>False
 | _+1,v,.none f=>∃ a b:Addr,v= .ref a∧H a=some (.tup [.str "none",.ref b])∧RdT H b (f.map kV)
 | n+1,v,.of f ps=>∃ (a b l:Addr) (xs:List V),v= .ref a∧H a=some (.tup [.str "of",.ref b,.ref l])∧RdT H b (f.map kV)∧H l=some (.lst xs)∧Paired (zdr H n) xs ps∧xs.length≤200+n
theorem zdr.mono {H H':Hp}(s:Same H H'):∀ {n:Nat} {v:V} {p:Pap},zdr H n v p→zdr H' n v p
 | _+1,_,.none _,⟨a,b,e,h1,h2⟩=>⟨a,b,e,s _ _ h1,h2.same s⟩
 | _+1,_,.of _ _,⟨a,b,l,xs,e,h1,h2,h3,p,z⟩=>⟨a,b,l,xs,e,s _ _ h1,h2.same s,s _ _ h3,Paired.mapP p fun _ _ q=>zdr.mono s q,z⟩
theorem zdr.up {H:Hp}:∀ {n:Nat} {v:V} {p:Pap},zdr H n v p→zdr H (n+1) v p
 | _+1,_,.none _,h=>h
 | _+1,_,.of _ _,⟨a,b,l,xs,e,h1,h2,h3,p,z⟩=>⟨a,b,l,xs,e,h1,h2,h3,Paired.mapP p fun _ _ q=>zdr.up q,by omega⟩
theorem zdr.upto {H:Hp}{n:Nat}{v:V}{p:Pap}(h:zdr H n v p):∀ {m:Nat},n≤m→zdr H m v p
 | m,hm=>by
  obtain ⟨k,rfl⟩:∃ k,m=n+k:=⟨m - n,by omega⟩
  clear hm
  induction k with
  | zero=>exact h
  | succ k ih=>exact ih.up
noncomputable def zcE (fd:List Key→List Nat):Nat→List Nat→Int→Pap→Bool
 | 0,_,_,_=>false
 | _+1,tk,k,.none f=>decide (fd f≠[]) && !zbt (fd f) tk && decide (k=0)
 | n+1,tk,k,.of f ps=>decide (fd f≠[]) && !zbt (fd f) tk && decide (1≤k) && decide (ps.length=(fd f).length) && ((fd f).zip ps).all fun jp=>zcE fd n (tk++ [jp.1]) (k - 1) jp.2
noncomputable def fdW (w:zat) (f:List Key):List Nat:=match (allF w).find? (fun g=>decide (fkK g=f)) with | some g=>zaM w g | none=>[]
theorem zeU {w:zat}{g:Flt}(h:g∈allF w):fdW w (fkK g)=zaM w g:=by
 unfold fdW
 cases e:(allF w).find? (fun x=>decide (fkK x=fkK g)) with
 | none=>exact absurd (List.find?_eq_none.mp e g h) (by simp)
 | some x=>
  have z:=List.find?_some e
  have:fkK x=fkK g:=of_decide_eq_true z
  rw [ze0 this]
theorem zgq {w:zat}{f:List Key}(h:∀ g∈allF w,fkK g≠f):fdW w f= []:=by
 unfold fdW
 rw [List.find?_eq_none.mpr fun g hg=>by simpa using h g hg]
theorem zbJ.look {H:Hp}{w:zat}(f:List Key):∀ {kvs:List (List Key×V)} {fs:List Flt},zbJ H w kvs fs→(valV kvs f=none∧∀ g∈fs,fkK g≠f)∨∃ g∈fs,fkK g=f∧∃ l,valV kvs f=some (.ref l)∧H l=some (.lst (zaD (zaM w g)))
 | _,_,.nil=>.inl ⟨rfl,fun _ z=>nomatch z⟩
 | _,_,.cons (a:=a) (b:=g) h r=>by
  obtain ⟨h1,l,h2,h3⟩:=h
  by_cases c:fkK g=f
  ·exact .inr ⟨g,.head _,c,l,by rw [zdL (h1.trans c),h2],h3⟩
  ·rw [zcX (fun z=>c (h1.symm.trans z))]
   rcases zbJ.look f r with ⟨e,n⟩ | ⟨g',hg',e⟩
   ·exact .inl ⟨e,fun x hx=>by
     rcases List.mem_cons.mp hx with z | z
     ·rw [z];exact c
     ·exact n x z⟩
   ·exact .inr ⟨g',.tail _ hg',e⟩
theorem zfU {H:Hp}{w:zat}{kvs:List (List Key×V)}(h:zbJ H w kvs (zck w))(f:List Key):(valV kvs f=none∧fdW w f= [])∨(fdW w f≠[]∧∃ l,valV kvs f=some (.ref l)∧H l=some (.lst (zaD (fdW w f)))):=by
 rcases zbJ.look f h with ⟨e,n⟩ | ⟨g,hg,e,l,h1,h2⟩
 ·refine .inl ⟨e,?_⟩
  by_cases c:∃ g∈allF w,fkK g=f
  ·obtain ⟨g,hg,e2⟩:=c
   rw [← e2,zeU hg]
   cases z:zaM w g with
   | nil=>rfl
   | cons a b=>exact absurd e2 (n g (List.mem_filter.mpr ⟨hg,decide_eq_true (by rw [z];exact fun q=>nomatch q)⟩))
  ·exact zgq fun g hg z=>c ⟨g,hg,z⟩
 ·have hm:=List.mem_filter.mp hg
  have ef:fdW w f=zaM w g:=by rw [← e];exact zeU hm.1
  rw [ef]
  exact .inr ⟨of_decide_eq_true hm.2,l,h1,h2⟩
theorem zhS {H:Hp}{w:zat}{kvs:List (List Key×V)}(h:zbJ H w kvs (allF w))(f:List Key):(valV kvs f=none∧fdW w f= [])∨∃ l,valV kvs f=some (.ref l)∧H l=some (.lst (zaD (fdW w f))):=by
 rcases zbJ.look f h with ⟨e,n⟩ | ⟨g,hg,e,l,h1,h2⟩
 ·exact .inl ⟨e,zgq n⟩
 ·refine .inr ⟨l,h1,?_⟩
  rw [← e,zeU hg]
  exact h2
theorem zj7 {w:zat}(wf:WF 20 w)(f:List Key):(fdW w f).length≤1000:=by
 by_cases c:∃ g∈allF w,fkK g=f
 ·obtain ⟨g,hg,e⟩:=c
  rw [← e,zeU hg]
  exact zgu (zbM hg) wf
 ·rw [zgq fun g hg z=>c ⟨g,hg,z⟩]
  exact Nat.zero_le _
noncomputable def zkN (n:Nat):Sp:=fun vs H Q _=>∃ (d ta:Addr) (k:Int) (v:V) (w:zat) (kvs:List (List Key×V)) (ts:List Nat) (p:Pap),vs= [.ref d,.ref ta,.int k,v]∧H d=some (.dT kvs)∧zbJ H w kvs (zck w)∧WF 20 w∧H ta=some (.lst (zaD ts))∧ts.length+n≤1000∧zdr H n v p∧
 ∀ H',Same H H'→Q (.bl (zcE (fdW w) n ts k p)) H'
noncomputable def zhW (n:Nat):Sp:=fun vs H Q _=>∃ (d ta:Addr) (k:Int) (v:V) (w:zat) (kvs:List (List Key×V)) (ts:List Nat) (p:Pap),vs= [.ref d,.ref ta,.int k,v]∧H d=some (.dT kvs)∧zbJ H w kvs (allF w)∧WF 20 w∧H ta=some (.lst (zaD ts))∧ts.length+n≤1000∧zdr H n v p∧
 ∀ H',Same H H'→Q (.bl (zcE (fdW w) n ts k p)) H'
noncomputable def sp_ns (K:PySem.W.Frag):Sp:=fun vs H Q _=>∃ (x v:V) (k:Int) (w:zat) (p:Pap),vs= [x,.int k,v]∧Rep K H x (zb4 w)∧WF 20 w∧zdr H 5 v p∧∀ H',Same H H'→Q (.bl (zcE (fdW w) 5 [] k p)) H'
theorem zfp {α β :Type}{r: α→β→Prop}:∀ {xs:List α} {ys:List β} (n:Nat),Paired r xs ys→Paired r (xs.drop n) (ys.drop n)
 | _,_,n,.nil=>by rw [List.drop_nil,List.drop_nil];exact .nil
 | _,_,0,.cons a t=>.cons a t
 | _,_,n+1,.cons _ t=>zfp n t
theorem zfV {α β :Type}{r: α→β→Prop}:∀ {xs us:List α} {ys vs:List β},Paired r xs ys→Paired r us vs→Paired r (xs++us) (ys++vs)
 | _,_,_,_,.nil,h=>h
 | _,_,_,_,.cons a t,h=>.cons a (zfV t h)
theorem zf1 {xs:List V}{n:Int}(h: 0≤n):cutV xs (some n) none=xs.drop n.toNat:=by
 have e1:HT.sIx xs.length 0 (some n)=min n.toNat xs.length:=by
  simp only [HT.sIx]
  rw [if_neg (by omega)]
 have e2:HT.sIx xs.length xs.length none=xs.length:=rfl
 unfold cutV
 rw [e1,e2,List.take_of_length_le (by rw [List.length_drop];omega)]
 rcases Nat.le_total n.toNat xs.length with z | z
 ·rw [Nat.min_eq_left z]
 ·rw [Nat.min_eq_right z,List.drop_length,List.drop_of_length_le z]
theorem zh6 {xs:List V}{n:Int}(h: 0≤n):cutV xs none (some n)=xs.take n.toNat:=by
 have e1:HT.sIx xs.length 0 none=0:=rfl
 have e2:HT.sIx xs.length xs.length (some n)=min n.toNat xs.length:=by
  simp only [HT.sIx]
  rw [if_neg (by omega)]
 unfold cutV
 rw [e1,e2,List.drop_zero,Nat.sub_zero]
 rw [List.take_eq_take_min (l:=xs) (i:=n.toNat)]
noncomputable def ziU (H:Hp) (v:V):Prop:=∃ (b:Addr) (f:List Key),v= .ref b∧RdT H b (f.map kV)
theorem ziU.mono {H H':Hp}{v:V}(h:ziU H v)(s:Same H H'):ziU H' v:=let ⟨b,f,e,h⟩:=h;⟨b,f,e,h.same s⟩
theorem zda.keys {H:Hp}:∀ {xs:List V} {fs:List Flt},zda H xs fs→∀ v∈xs,ziU H v
 | _,_,.cons ⟨b,e,h⟩ r,v,hv=>by
  rcases List.mem_cons.mp hv with rfl | hv
  ·exact ⟨b,_,e,by rw [← zhy] at h;exact h⟩
  ·exact zda.keys r v hv
theorem zda.app {H:Hp}{xs ys:List V}{fs gs:List Flt}(h:zda H xs fs)(q:zda H ys gs):zda H (xs++ys) (fs++gs):=zfV h q
theorem DGet.r {H:Hp}{a b:Addr}{kvs:List (List Key×V)}{k:List Key}(e:H a=some (.dT kvs))(eb:RdT H b (k.map kV)):DGet H a (.ref b) (valV kvs k):=.inr ⟨kvs,k,b,.inl e,rfl,eb,rfl⟩
noncomputable def zlu (K:PySem.W.Frag):Sp:=fun vs H Q _=>∃ (d a:Addr) (w:zat) (kvs:List (List Key×V)) (ts:List Nat),vs= [.ref d,.ref a]∧H d=some (.dT kvs)∧zbJ H w kvs (allF w)∧WF 20 w∧SqL K H a (zaD ts)∧
 ∀ (r:Addr) (ob:PySem.Obj) (ys:List V) (H':Hp),Same (hole d H) H'→H' d=some (.frz ob (.dT kvs))→H r=none→H' r=some (.lst ys)→zda H' ys (zg9 w ts)→Q (.ref r) H'
noncomputable def zmT (K:PySem.W.Frag):Sp:=fun vs H Q _=>∃ (d a:Addr) (w:zat) (kvs:List (List Key×V)) (ts:List Nat),vs= [.ref d,.ref a]∧H d=some (.dT kvs)∧zbJ H w kvs (allF w)∧WF 20 w∧SqL K H a (zaD ts)∧
 ∀ (r:Addr) (ys:List V) (H':Hp),Same H H'→H' r=some (.lst ys)→zda H' ys (zg9 w ts)→Q (.ref r) H'
theorem zf2:∀ n,(zaX n).Nodup
 | 0=>by simp [zaX]
 | n+1=>by
  rw [zaX,List.nodup_append]
  have h:=zf2 n
  refine ⟨List.Pairwise.map _ (fun a b ne e=>ne (List.cons.inj e).2) h,List.Pairwise.map _ (fun a b ne e=>ne (List.cons.inj e).2) h,fun a ha b hb e=>?_⟩
  obtain ⟨x,_,rfl⟩:=List.mem_map.mp ha
  obtain ⟨y,_,rfl⟩:=List.mem_map.mp hb
  cases (List.cons.inj e).1
noncomputable def zeu (w:zat) (k:Nat):List Int:=(zaX w.ins.toNat).getD k []
theorem zi9 {w:zat}{j k:Nat}(hj:j < 2 ^ w.ins.toNat)(hk:k < 2 ^ w.ins.toNat)(e:zeu w j=zeu w k):j=k:=by
 have hj':j < (zaX w.ins.toNat).length:=by rw [zaZ];exact hj
 have hk':k < (zaX w.ins.toNat).length:=by rw [zaZ];exact hk
 unfold zeu at e
 rw [List.getD_eq_getElem?_getD,List.getD_eq_getElem?_getD,List.getElem?_eq_getElem hj',List.getElem?_eq_getElem hk'] at e
 exact (List.getElem_inj (zf2 _)).mp e
theorem ziT {w:zat}{f:Flt}(gf:zed w f)(wf:WF 20 w){j:Nat}(h:j∈zaM w f):j < 2 ^ w.ins.toNat:=by
 rw [zdx gf wf] at h
 exact List.mem_range.mp (List.mem_filter.mp h).1
theorem zfS {w:zat}{f:Flt}(gf:zed w f)(wf:WF 20 w){ts:List Nat}(ht:∀ j∈ts,j < 2 ^ w.ins.toNat):zbt (zaM w f) (zeM w.ins.toNat (ts.map (zeu w)))=zbt (zaM w f) ts:=by
 unfold zbt
 rw [Bool.eq_iff_iff,List.any_eq_true,List.any_eq_true]
 have key:∀ j∈zaM w f,(j∈zeM w.ins.toNat (ts.map (zeu w))↔j∈ts):=fun j hj=>by
  have lj:=ziT gf wf hj
  unfold zeM
  rw [List.mem_filter,List.mem_range,zaZ,decide_eq_true_eq]
  constructor
  ·rintro ⟨_,h⟩
   obtain ⟨k,hk,e⟩:=List.mem_map.mp h
   rw [← zi9 (ht k hk) lj e]
   exact hk
  ·intro h
   exact ⟨lj,List.mem_map.mpr ⟨j,h,rfl⟩⟩
 constructor
 ·rintro ⟨j,hj,e⟩
  exact ⟨j,hj,decide_eq_true ((key j hj).mp (of_decide_eq_true e))⟩
 ·rintro ⟨j,hj,e⟩
  exact ⟨j,hj,decide_eq_true ((key j hj).mpr (of_decide_eq_true e))⟩
theorem zkq {w:zat}(wf:WF 20 w){ts:List Nat}(ht:∀ j∈ts,j < 2 ^ w.ins.toNat):((zck w).all fun f=>zbt (zaM w f) (zeM w.ins.toNat (ts.map (zeu w))))=((zck w).all fun f=>zbt (zaM w f) ts):=by
 rw [Bool.eq_iff_iff,List.all_eq_true,List.all_eq_true]
 constructor
 ·intro h f hf
  rw [← zfS (zbM (List.mem_filter.mp hf).1) wf ht]
  exact h f hf
 ·intro h f hf
  rw [zfS (zbM (List.mem_filter.mp hf).1) wf ht]
  exact h f hf
theorem zha {K:PySem.W.Frag}{H:Hp}:∀ {xs:List V} {rs:List (List Int)},Paired (fun v row=>∃ q,v= .ref q∧H q=some (.lst (row.map V.int))) xs rs→Reps K H xs (rs.map rowD)
 | _,_,.nil=>.nil
 | _,_,.cons ⟨_,e,h⟩ r=>by
  subst e
  exact .cons (.lst (.of h) (Reps.ints _)) (zha r)
theorem zla {w:zat}{f:Flt}(h:zed w f):f∈allF w:=by
 obtain ⟨p,u⟩:=f
 refine List.mem_flatMap.mpr ⟨p,h.1,?_⟩
 rcases h.2 with e | e
 ·have e':u=0:=e
  rw [e'];exact .head _
 ·have e':u=1:=e
  rw [e'];exact .tail _ (.head _)
theorem ziV {w:zat}(wf:WF 20 w){row:List Int}(hl:(row.length:Int)=w.ins){i:Nat}(hi:i < w.ins.toNat+w.gates.length)(u:Int):(zbs [⟨zb2 i,u⟩] w.gates row w.gates.length).getD i 0=u:=by
 rw [List.getD_eq_getElem?_getD]
 by_cases c:i < row.length
 ·rw [W_in _ _ _ c,ze6]
  rfl
 ·obtain ⟨k,ek⟩:∃ k,i=row.length+k:=⟨i - row.length,by omega⟩
  subst ek
  have hk:k < w.gates.length:=by omega
  have hg:w.gates[k]? =some w.gates[k]:=List.getElem?_eq_getElem hk
  rw [zlC _ hg hk (fun l hl'=>by have:=(wf.legs k _ hg).2 l hl';omega),ze6]
  rfl
theorem zim {w:zat}(wf:WF 20 w):zck w≠[]:=by
 obtain ⟨o,os,eo⟩:∃ o os,w.outs=o::os:=by
  cases e:w.outs with
  | nil=>have:=wf.o1;rw [e] at this;exact absurd this (by decide)
  | cons o os=>exact ⟨o,os,rfl⟩
 have bo:=wf.outs o (by rw [eo];exact .head _)
 have i1:=wf.i1
 have p0: 0 < 2 ^ w.ins.toNat:=Nat.pow_pos (by decide)
 obtain ⟨row,hrow⟩:∃ row,(zaX w.ins.toNat)[0]? =some row:=⟨_,List.getElem?_eq_getElem (by rw [zaZ];exact p0)⟩
 obtain ⟨l1,b1⟩:=zcB _ _ (List.mem_of_getElem? hrow)
 have hl:(row.length:Int)=w.ins:=by rw [l1];omega
 have bits:=zdh (fs:=[]) (fun f hf=>nomatch hf) wf hl b1 _ (Nat.le_refl _)
 have lw:=zci [] w.gates row w.gates.length
 have hb:=zb6 bits (i:=o.toNat) (by omega)
 obtain ⟨b,eb⟩:∃ b,(zbs [] w.gates row w.gates.length).getD o.toNat 0=b:=⟨_,rfl⟩
 rw [eb] at hb
 have ho:o.toNat < w.ins.toNat+w.gates.length:=by omega
 have gf:zed w ⟨zb2 o.toNat,1 - b⟩:=zkl ho (by omega)
 have st:=ziV wf hl ho (1 - b)
 have e1:∀ fs,(zbk w fs).getD 0 []=zdX w (zbs fs w.gates row w.gates.length):=fun fs=>by
  unfold zbk
  rw [List.getD_eq_getElem?_getD,List.getElem?_map,hrow]
  rfl
 have hin: 0∈zaM w ⟨zb2 o.toNat,1 - b⟩:=by
  rw [zdx gf wf]
  refine List.mem_filter.mpr ⟨List.mem_range.mpr p0,decide_eq_true fun z=>?_⟩
  rw [e1,e1] at z
  unfold zdX at z
  rw [eo,List.map_cons,List.map_cons] at z
  have:=(List.cons.inj z).1
  rw [st,eb] at this
  omega
 have:(⟨zb2 o.toNat,1 - b⟩:Flt)∈zck w:=List.mem_filter.mpr ⟨zla gf,decide_eq_true fun z=>by rw [z] at hin;cases hin⟩
 exact List.ne_nil_of_mem this
theorem zlF {α :Type}{l:List α}{r:Int}(h0: 0≤r)(h1:r < l.length):∃ c,atI l r=some c∧l[r.toNat]? =some c:=by
 have hj:r.toNat < l.length:=by omega
 refine ⟨l[r.toNat],?_,List.getElem?_eq_getElem hj⟩
 have:=zc9 (xs:=l) (j:=r.toNat) (List.getElem?_eq_getElem hj)
 rw [Int.toNat_of_nonneg h0] at this
 exact this
noncomputable def Rz (H:Hp) (E:XK):Prop:=∀ (H':Hp) (x:Addr),Same H H'→H' x=none→E (.ref x) (some x) H'
noncomputable def zhX (K:PySem.W.Frag):Sp:=fun vs H _ E=>∃ (a ga oa:Addr) (i:Int),vs= [.ref a]∧SqT K H a [.int i,.ref ga,.ref oa]∧3 < i∧Rz H E
noncomputable def zmD (K:PySem.W.Frag):Sp:=fun vs H Q _=>∃ (n:Int) (a ga oa:Addr) (i:Int),vs= [.int n,.ref a]∧SqT K H a [.int i,.ref ga,.ref oa]∧3 < i∧∀ H',Same H H'→Q (.bl true) H'
noncomputable def zmO (K:PySem.W.Frag):Sp:=fun vs H Q _=>∃ (d a:Addr) (w:zat) (kvs:List (List Key×V)) (ts:List Nat),vs= [.ref d,.ref a]∧H d=some (.dT kvs)∧zbJ H w kvs (allF w)∧WF 20 w∧SqL K H a (zaD ts)∧∀ H',Same H H'→Q (.bl ((zck w).all fun f=>zbt (zaM w f) ts)) H'
noncomputable def zmY:Sp:=fun vs H Q _=>∃ (d X:Addr) (w:zat) (kvs:List (List Key×V)) (row:List Int),vs= [.ref d,.ref X]∧H d=some (.dT kvs)∧zbJ H w kvs (allF w)∧WF 20 w∧H X=some (.lst (row.map V.int))∧3≤row.length∧(∀ z∈row,0≤z)∧
 ∀ (a:Addr) (f:List Key) (ps:List Pap) (H':Hp),Same H H'→zdr H' 2 (.ref a) (.of f ps)→Q (.ref a) H'
theorem ziP (w:zat):zg9 w []=zck w:=by
 unfold zg9 zck
 refine List.filter_congr fun f _=>?_
 have:zbt (zaM w f) []=false:=by unfold zbt;rw [List.any_eq_false];intro x _;simp
 rw [this]
 simp
theorem zl9 {w:zat}{f:Flt}(gf:zed w f)(wf:WF 20 w):(zaM w f).length≤64:=by
 rw [zdx gf wf]
 unfold zk8
 have:=List.length_filter_le (fun j=>decide ((zbk w [f]).getD j []≠(zbk w []).getD j [])) (List.range (2 ^ w.ins.toNat))
 rw [List.length_range] at this
 have i1:=wf.i1
 have i6:=wf.i6
 have h64:=pow6 (n:=w.ins.toNat) (by omega)
 omega
section
variable {P:Program} {w:World} {K:PySem.W.Frag} {mg:Str→Option Value} {base:Heap} {t:Adr}
theorem zbZ:zax ["kind","worths","ones","told","worth"] ["kind","worths","ones"] (zag zbR):=⟨rfl,rfl,rfl,by decide+kernel,rfl,by decide+kernel,by decide+kernel⟩
theorem zfJ (T:Txt K mg t):FnOk P w K mg base CX0 1 t.f_gate_worth t.fd_gate_worth ["kind","worths","ones"] (sp_gwI K):=by
 refine T.d_gate_worth.F.okB zbZ (fun vs H Q E h=>?_) (fun cdv A outer s H vs Q E hr h=>?_)
 ·obtain ⟨x,p,ns,o,rfl,_⟩:=h
  rfl
 obtain ⟨x,p,ns,o,rfl,hS,lk,q⟩:=h
 refine ⟨_,(zad (zaW (zas zcQ (bpv 0) zav (zaF _)) (zah (zar (zam zil (bpv 2) (zao zaH (bpv 1) zae (fun _ _=>rfl))))) zaA)
  (zad (zaW (zas zcQ (bpv 0) zav (zaF _)) (zah (zar (zam zmd (zam zhV (zao zaH (bpv 1) zae (fun _ _=>rfl)) (zao zaH (bpv 1) zae (fun _ _=>rfl))) (zam zhV (zam zil (bpv 2) (zao zaH (bpv 1) zae (fun _ _=>rfl))) (zao zaH (bpv 1) zae (fun _ _=>rfl)))))) zaA)
  (zad (zak (k:=3) zbZ.nd rfl (Or.inl rfl) (zka (zas ze3 (bpv 0) (zaJ (zaa zav (zaa zav (zac)))) rfl) (bpv 2) zae))
  (zad (zaK PassesOwn.never rfl (zaI (bpv 1)) (zaj (k:=4) zbZ.nd rfl (Or.inl rfl)) (zah (zaW (zas zcQ (bpv 0) zav (zaF _)) (zah (zak (k:=3) zbZ.nd rfl (Or.inl rfl) (zam zhV (bpv 3) (bpv 4)))) (zah (zaW (zas zcQ (bpv 0) zav (zaF _)) (zah (zak (k:=3) zbZ.nd rfl (Or.inl rfl) (zam zmd (bpv 3) (bpv 4)))) (zah (zak (k:=3) zbZ.nd rfl (Or.inl rfl) (zam zil (bpv 3) (bpv 4)))))))))
  (zah (zar (bpv 3))))))),?_⟩
 by_cases hn:x="not"
 ·subst hn
  have l1:=zls lk
  refine ⟨_,rfl,rfl,_,rfl,ifY rfl ⟨_,rfl,_,rfl,p,_,0,_,rfl,rfl,hS,zbT (Int.le_refl 0) (by omega),_,_,rfl,rfl,?_⟩⟩
  rw [gi_not] at q
  exact q H (.refl H)
 refine ⟨_,rfl,rfl,_,rfl,ifN hn ?_⟩
 by_cases hc:x="choose"
 ·subst hc
  have l1:=zhB lk
  refine ⟨_,rfl,rfl,_,rfl,ifY rfl ?_⟩
  rw [zkk] at q
  exact ⟨_,rfl,p,_,0,_,rfl,rfl,hS,zbT (Int.le_refl 0) (by omega),_,rfl,p,_,1,_,rfl,rfl,hS,zbT (by decide) (by omega),_,_,rfl,rfl,_,rfl,_,rfl,p,_,0,_,rfl,rfl,hS,zbT (Int.le_refl 0) (by omega),_,_,rfl,rfl,
   _,rfl,p,_,2,_,rfl,rfl,hS,zbT (by decide) (by omega),_,_,rfl,rfl,_,_,rfl,rfl,q H (.refl H)⟩
 refine ⟨_,rfl,rfl,_,rfl,ifN hc ?_⟩
 rw [zmo hn hc] at q
 refine ⟨_,rfl,(by show 2≤sizeLine;decide),fun T1 h1=>⟨T1,_,rfl,.inr (.of zab),rfl,rfl,?_⟩⟩
 have s1:=zaf h1 (.tup [.str "and",.str "one"])
 refine ⟨_,rfl,?_⟩
 have hin:(if false=true then !inV (V.str x) [.str "and",.str "one"] else inV (V.str x) [.str "and",.str "one"])=decide (x="and"∨x="one"):=in_two x "and" "one"
 rw [hin]
 generalize hf:(fun a b:Int=>if x="and" then Builtin.bitAnd a b else if x="or" then Builtin.bitOr a b else Builtin.bitXor a b)=f at q
 have hf1:x="and"→∀ a b,f a b=Builtin.bitAnd a b:=fun e a b=>by rw [← hf];exact if_pos e
 have hf2:x≠"and"→x="or"→∀ a b,f a b=Builtin.bitOr a b:=fun e e2 a b=>by rw [← hf];show (if x="and" then _ else _)=_;rw [if_neg e,if_pos e2]
 have hf3:x≠"and"→x≠"or"→∀ a b,f a b=Builtin.bitXor a b:=fun e e2 a b=>by rw [← hf];show (if x="and" then _ else _)=_;rw [if_neg e,if_neg e2]
 refine ite2 (fun c=>?_) (fun c=>?_)
 ·rw [if_pos (of_decide_eq_true c)] at q
  refine ⟨_,rfl,?_⟩
  refine ⟨_,rfl,p,rfl,⟨_,s1.seq hS⟩,zb0 (K:=K) (a:=p) (xs:=ns.map V.int)
   (fun i σ H3=>∃ o4:Option V,σ = [some (.str x),some (.ref p),some (.int o),some (.int ((ns.take i).foldl f o)),o4]∧Same H H3) ⟨_,rfl,s1⟩ (fun i σ H3 _ ⟨_,_,s3⟩=>s3.seq hS) ?_ ?_⟩
  ·rintro i y σ H3 hy ⟨o4,rfl,s3⟩
   rw [List.getElem?_map] at hy
   cases hz:ns[i]? with
   | none=>rw [hz] at hy;cases hy
   | some n=>
    rw [hz] at hy
    cases hy
    have ef:(ns.take (i+1)).foldl f o=f ((ns.take i).foldl f o) n:=by rw [List.take_add_one,hz];show (ns.take i++ [n]).foldl f o=_;rw [List.foldl_append];rfl
    rw [ef]
    refine ⟨_,rfl,rfl,_,rfl,?_⟩
    by_cases e1:x="and"
    ·rw [hf1 e1]
     exact ifY e1 ⟨_,rfl,_,rfl,_,_,rfl,rfl,_,rfl,s3⟩
    ·refine ifN e1 ⟨_,rfl,rfl,_,rfl,?_⟩
     by_cases e2:x="or"
     ·rw [hf2 e1 e2]
      exact ifY e2 ⟨_,rfl,_,rfl,_,_,rfl,rfl,_,rfl,s3⟩
     ·rw [hf3 e1 e2]
      exact ifN e2 ⟨_,rfl,_,rfl,_,_,rfl,rfl,_,rfl,s3⟩
  ·rintro σ H3 ⟨o4,rfl,s3⟩
   have et:ns.take (ns.map V.int).length=ns:=by rw [List.length_map,List.take_length]
   rw [et]
   exact ⟨_,rfl,q H3 s3⟩
 ·rw [if_neg (fun z=>c (decide_eq_true z))] at q
  refine ⟨_,rfl,p,rfl,⟨_,s1.seq hS⟩,zb0 (K:=K) (a:=p) (xs:=ns.map V.int)
   (fun i σ H3=>∃ o4:Option V,σ = [some (.str x),some (.ref p),some (.int o),some (.int ((ns.take i).foldl f 0)),o4]∧Same H H3) ⟨_,rfl,s1⟩ (fun i σ H3 _ ⟨_,_,s3⟩=>s3.seq hS) ?_ ?_⟩
  ·rintro i y σ H3 hy ⟨o4,rfl,s3⟩
   rw [List.getElem?_map] at hy
   cases hz:ns[i]? with
   | none=>rw [hz] at hy;cases hy
   | some n=>
    rw [hz] at hy
    cases hy
    have ef:(ns.take (i+1)).foldl f 0=f ((ns.take i).foldl f 0) n:=by rw [List.take_add_one,hz];show (ns.take i++ [n]).foldl f 0=_;rw [List.foldl_append];rfl
    rw [ef]
    refine ⟨_,rfl,rfl,_,rfl,?_⟩
    by_cases e1:x="and"
    ·rw [hf1 e1]
     exact ifY e1 ⟨_,rfl,_,rfl,_,_,rfl,rfl,_,rfl,s3⟩
    ·refine ifN e1 ⟨_,rfl,rfl,_,rfl,?_⟩
     by_cases e2:x="or"
     ·rw [hf2 e1 e2]
      exact ifY e2 ⟨_,rfl,_,rfl,_,_,rfl,rfl,_,rfl,s3⟩
     ·rw [hf3 e1 e2]
      exact ifN e2 ⟨_,rfl,_,rfl,_,_,rfl,rfl,_,rfl,s3⟩
  ·rintro σ H3 ⟨o4,rfl,s3⟩
   have et:ns.take (ns.map V.int).length=ns:=by rw [List.length_map,List.take_length]
   rw [et]
   exact ⟨_,rfl,q H3 s3⟩
theorem zgY:zax ["works","row"] ["works","row"] (zag zcc):=⟨rfl,rfl,rfl,by decide+kernel,rfl,by decide+kernel,by decide+kernel⟩
theorem zhk (T:Txt K mg t):FnOk P w K mg base CX0 1 t.f_check_row t.fd_check_row ["works","row"] (sp_cr K):=by
 refine T.d_check_row.F.okB zgY (fun vs H Q E h=>?_) (fun cdv A outer s H vs Q E hr h=>?_)
 ·obtain ⟨a,ga,oa,p,i,row,rfl,_⟩:=h
  rfl
 obtain ⟨a,ga,oa,p,i,row,rfl,ha,hS,hl,b,few,q⟩:=h
 refine ⟨_,(zad (zaW (zas zjo (zaw zau rfl T.z_len PySem.boot_len (zaa (bpv 1) (zac))) (zao zaB (bpv 0) zae (fun _ _=>rfl)) (zaF _)) (zah zgN) zaA)
  (zah (zaW (zex (zdV (zaw (zgQ rfl) rfl T.z_all PyProof.Rows.boot_all (zaa (zaQ rfl (N:=["worth"]) (n:=1) (cap:=[]) (zbU rfl rfl) (zaI (bpv 1)) (zaL (by decide)) (fun _ _ _ _=>(zaj (k:=0) (show (["worth"]:List Str).Nodup by decide+kernel) rfl (Or.inl rfl))) (fun _ _ _ _=>za3) (fun _ _ _ _=>(zcw (zdK (K:=K)) (bpv 0) (zaJ (zaa zae (zaa zae (zac)))) rfl))) (zac))))) (zah zgN) zaA))),?_⟩
 have el:(((row.map V.int).length:Nat):Int)=i:=by rw [List.length_map];exact hl
 refine ⟨_,rfl,p,_,rfl,.inl hS,_,rfl,a,_,_,_,rfl,rfl,ha,rfl,rfl,_,rfl,iteNS (congrArg V.int el) ?_⟩
 refine ⟨_,rfl,p,rfl,⟨_,hS⟩,fun D hD=>zbo (K:=K) (a:=p) (xs:=row.map V.int) (fun j H2=>Same H H2∧H2 D=some (.lst ((List.replicate j true).map V.bl))) ⟨zaf hD _,zab⟩
  (fun j H2 _ z=>z.1.seq hS) ?_ ?_⟩
 ·rintro j x H2 hx ⟨s2,eD⟩
  obtain ⟨n,hn,rfl⟩:∃ n,n∈row∧x= .int n:=by
   obtain ⟨n,h1,h2⟩:=List.mem_map.mp (List.mem_of_getElem? hx)
   exact ⟨n,h1,h2.symm⟩
  have hj:j < (row.map V.int).length:=(List.getElem?_eq_some_iff.mp hx).1
  rw [List.length_map] at hj
  refine ⟨_,rfl,(by show 2≤sizeLine;decide),fun T1 h1=>⟨T1,_,rfl,.inr (.of zab),rfl,rfl,?_⟩⟩
  have dT:D≠T1:=zal eD h1
  refine ⟨_,by rw [zai dT];exact eD,big (by simp;omega),(s2.upd h1 _).write hD _,?_⟩
  have e1:(if false=true then !inV (V.int n) [.int 0,.int 1] else inV (V.int n) [.int 0,.int 1])=true:=by
   rcases b n hn with e | e <;> (rw [e];decide)
  rw [zab,e1,List.replicate_succ',List.map_append]
  rfl
 ·rintro H2 ⟨s2,eD⟩
  refine ⟨D,List.replicate (row.map V.int).length true,rfl,.of eD,_,rfl,?_⟩
  have e2:(List.replicate (row.map V.int).length true).all id=true:=by
   refine List.all_eq_true.mpr fun z hz=>?_
   rw [(List.mem_replicate.mp hz).2]
   rfl
  rw [e2]
  exact iteF (q H2 s2)
theorem zc7:zax ["works","rows","place"] ["works"] (zag zca):=⟨rfl,rfl,rfl,by decide+kernel,rfl,by decide+kernel,by decide+kernel⟩
theorem zgV (T:Txt K mg t):FnOk P w K mg base CX0 1 t.f_every_row t.fd_every_row ["works"] (sp_er K):=by
 refine T.d_every_row.F.okB zc7 (fun vs H Q E h=>?_) (fun cdv A outer s H vs Q E hr h=>?_)
 ·obtain ⟨a,ga,oa,i,rfl,_⟩:=h
  rfl
 obtain ⟨a,ga,oa,i,rfl,ha,i0,i6,q⟩:=h
 refine ⟨_,(zad (zak (k:=1) zc7.nd rfl (Or.inl rfl) (zay (zaa (zay zac) (zac))))
  (zad (zaK PassesOwn.never rfl (zaO rfl T.z_range (zaa (zao zaB (bpv 0) zae (fun _ _=>rfl)) (zac))) (zaj (k:=2) zc7.nd rfl (Or.inl rfl)) (zah (zak (k:=1) zc7.nd rfl (Or.inl rfl) (zam zc0 (zaQ rfl (N:=["row"]) (n:=1) (cap:=[]) (zbU rfl rfl) (zaI (bpv 1)) (zaL (by decide)) (fun _ _ _ _=>(zaj (k:=0) (show (["row"]:List Str).Nodup by decide+kernel) rfl (Or.inl rfl))) (fun _ _ _ _=>za3) (fun _ _ _ _=>(zam zc0 (zay (zaa zae (zac))) (bpv 0)))) (zaQ rfl (N:=["row"]) (n:=1) (cap:=[]) (zbU rfl rfl) (zaI (bpv 1)) (zaL (by decide)) (fun _ _ _ _=>(zaj (k:=0) (show (["row"]:List Str).Nodup by decide+kernel) rfl (Or.inl rfl))) (fun _ _ _ _=>za3) (fun _ _ _ _=>(zam zc0 (zay (zaa zae (zac))) (bpv 0))))))))
  (zah (zar (bpv 1))))),?_⟩
 refine ⟨(by show 0≤sizeLine;decide),fun e0 he0=>⟨(by show 1≤sizeLine;decide),fun R0 hR0=>?_⟩⟩
 have s0:Same H (upd H e0 (.lst [])):=zaf he0 _
 have start:Rows H R0 [e0] (zaX 0) (upd (upd H e0 (.lst [])) R0 (.lst [.ref e0])):=by
  have ne:e0≠R0:=zal zab hR0
  refine ⟨s0.upd hR0 _,s0.free hR0,zab,.cons (by rw [zai ne,zab];rfl) .nil,List.nodup_cons.mpr ⟨(fun z=>nomatch z),List.nodup_nil⟩,fun z hz=>?_⟩
  rw [List.mem_singleton.mp hz]
  exact ⟨he0,ne⟩
 refine ⟨_,rfl,a,_,_,_,rfl,rfl,start.same.seqT ha,rfl,_,rfl,by omega,by omega,zcC (fun j σ H3=>∃ (R:Addr) (qs:List Addr) (o2:Option V),σ = [some (.ref a),some (.ref R),o2]∧Rows H R qs (zaX j) H3) ⟨_,_,_,rfl,start⟩ ?_ ?_⟩
 ·rintro i σ H3 hi ⟨R,qs,o2,rfl,rw3⟩
  have few:(zaX i).length≤64:=zh9 (by omega)
  have lq:=rw3.rows.len
  have comp:∀ (c:Int) (Ha:Hp) (D:Addr) (j:Nat) (x:V) (H4:Hp),Same H3 Ha→(qs.map V.ref)[j]? =some x→(∃ ps,Rows Ha D ps (((zaX i).take j).map (c:: ·)) H4)→∃ (q:Addr) (row:List Int) (ps:List Addr),x= .ref q∧H4 q=some (.lst (row.map V.int))∧row.length=i∧Rows Ha D ps (((zaX i).take j).map (c:: ·)) H4∧ps.length≤64∧(∀ (T r':Addr) (vs:List V),H4 T=none→(upd H4 T (.lst [.int c])) r'=none→vs= .int c::row.map V.int→Rows Ha D (ps++ [r']) (((zaX i).take (j+1)).map (c:: ·)) (upd (upd (upd H4 T (.lst [.int c])) r' (.lst vs)) D (.lst (ps.map V.ref++ [.ref r'])))):=by
   rintro c Ha D j x H4 sa hx ⟨ps,rw4⟩
   rw [List.getElem?_map] at hx
   cases hz:qs[j]? with
   | none=>rw [hz] at hx;cases hx
   | some q=>
    rw [hz] at hx
    cases hx
    obtain ⟨row,hrow,hq⟩:=rw3.rows.get hz
    have lp:=rw4.rows.len
    refine ⟨q,row,ps,rfl,rw4.same _ _ (sa _ _ hq),(zcB i row (List.mem_of_getElem? hrow)).1,rw4,?_,fun T r' vs hT hr' e=>?_⟩
    ·rw [lp,List.length_map,List.length_take]
     omega
    ·rw [zgz _ hrow]
     exact rw4.push hT hr' e
  refine ⟨_,rfl,R,rfl,⟨_,rw3.sq⟩,fun D hD=>zbo (K:=K) (a:=R) (xs:=qs.map V.ref) (fun j H4=>∃ ps,Rows H3 D ps (((zaX i).take j).map (0:: ·)) H4) ⟨[],Rows.start (Same.refl _) hD⟩ (fun j H4 _ ⟨ps,z⟩=>z.same.seq rw3.sq) ?_ ?_⟩
  ·intro j x H4 hx h4
   obtain ⟨q,row,ps,rfl,hq,lr,rw4,lp,push⟩:=comp 0 H3 D j x H4 (Same.refl _) hx h4
   refine ⟨(by show 1≤sizeLine;decide),fun T hT=>⟨_,rfl,T,q,_,_,rfl,rfl,zab,by rw [zai (zal hq hT)];exact hq,bigE (by rw [List.length_singleton,List.length_map];omega),fun r' hr'=>?_⟩⟩
   have eD:(upd (upd H4 T (.lst [.int 0])) r' (.lst ([.int 0]++row.map V.int))) D=some (.lst (ps.map V.ref)):=(((zaf hT _).upd hr' _) _ _ rw4.at_)
   exact ⟨_,eD,big (by rw [List.length_map];omega),_,push T r' _ hT hr' rfl⟩
  rintro H4 ⟨ps,rw4⟩
  have et:(zaX i).take (qs.map V.ref).length=zaX i:=by rw [List.length_map,lq,List.take_length]
  rw [et] at rw4
  refine ⟨_,rfl,R,rfl,⟨_,rw4.same.seq rw3.sq⟩,fun D2 hD2=>zbo (K:=K) (a:=R) (xs:=qs.map V.ref) (fun j H5=>∃ ps',Rows H4 D2 ps' (((zaX i).take j).map (1:: ·)) H5) ⟨[],Rows.start (Same.refl _) hD2⟩ (fun j H5 _ ⟨ps',z⟩=>(rw4.same.trans z.same).seq rw3.sq) ?_ ?_⟩
  ·intro j x H5 hx h5
   obtain ⟨q,row,ps',rfl,hq,lr,rw5,lp,push⟩:=comp 1 H4 D2 j x H5 rw4.same hx h5
   refine ⟨(by show 1≤sizeLine;decide),fun T hT=>⟨_,rfl,T,q,_,_,rfl,rfl,zab,by rw [zai (zal hq hT)];exact hq,bigE (by rw [List.length_singleton,List.length_map];omega),fun r' hr'=>?_⟩⟩
   have eD:(upd (upd H5 T (.lst [.int 1])) r' (.lst ([.int 1]++row.map V.int))) D2=some (.lst (ps'.map V.ref)):=(((zaf hT _).upd hr' _) _ _ rw5.at_)
   exact ⟨_,eD,big (by rw [List.length_map];omega),_,push T r' _ hT hr' rfl⟩
  rintro H5 ⟨ps',rw5⟩
  rw [et] at rw5
  have l1:=rw4.rows.len
  have l2:=rw5.rows.len
  rw [List.length_map] at l1 l2
  refine ⟨D,D2,_,_,rfl,rfl,rw5.same _ _ rw4.at_,rw5.at_,bigE (by rw [List.length_map,List.length_map];omega),fun R' hR'=>?_⟩
  have c:=rw4.cat rw5 hR'
  exact ⟨R',ps++ps',_,rfl,⟨rw3.same.trans c.same,rw3.same.free c.out,c.at_,c.rows,c.nd,fun q hq=>⟨rw3.same.free (c.new q hq).1,(c.new q hq).2⟩⟩⟩
 ·rintro σ H3 ⟨R,qs,o2,rfl,rw3⟩
  exact ⟨_,rfl,q R qs H3 rw3⟩
theorem zgi:zax ["stuck","gate","worths"] ["stuck","gate","worths"] (zag zbL):=⟨rfl,rfl,rfl,by decide+kernel,rfl,by decide+kernel,by decide+kernel⟩
theorem zgw (T:Txt K mg t):FnOk P w K mg base CX0 1 t.f_leg_worths t.fd_leg_worths ["stuck","gate","worths"] (sp_lgw K):=by
 refine T.d_leg_worths.F.okB zgi (fun vs H Q E h=>?_) (fun cdv A outer s H vs Q E hr h=>?_)
 ·obtain ⟨d,p,k,fs,ns,rfl,_⟩:=h
  rfl
 obtain ⟨d,p,k,fs,ns,rfl,hd,hS,l4,q⟩:=h
 have hu1:=zfP hr
 refine ⟨_,(zah (zar (zaQ rfl (N:=["leg","worth","stuck","gate"]) (n:=2) (cap:=[0,1]) (zbU rfl rfl) (zea rfl T.z_enumerate (zaa (bpv 2) (zac))) (zd9 (by decide) (by decide)) (fun _ _ _ _=>(zeT (K:=K) (n:=2) rfl (zaz (zaj (k:=0) (show (["leg","worth","stuck","gate"]:List Str).Nodup by decide+kernel) rfl (Or.inl rfl)) (zaz (zaj (k:=1) (show (["leg","worth","stuck","gate"]:List Str).Nodup by decide+kernel) rfl (Or.inl rfl)) zbW)))) (fun _ _ _ _=>za3) (fun _ _ _ _=>(zds hu1 (bpv 2) (zaJ (zaa zav (zaa (bpv 3) (zaa (bpv 0) (zac))))) (bpv 1) ⟨rfl,rfl,rfl,rfl⟩))))),?_⟩
 refine ⟨_,rfl,p,rfl,⟨_,hS⟩,fun D hD=>ze7 (K:=K) (a:=p) (xs:=ns.map V.int) (fun j H2=>Same H H2∧H2 D=some (.lst ((zcK fs k (ns.take j)).map V.int))) ⟨zaf hD _,zab⟩ (fun j H2 _ z=>z.1.seq hS) ?_ ?_⟩
 ·rintro j y H2 T1 hy ⟨s2,eD⟩ h1
  rw [List.getElem?_map] at hy
  cases hz:ns[j]? with
  | none=>rw [hz] at hy;cases hy
  | some n=>
   rw [hz] at hy
   cases hy
   have lj:j < ns.length:=(List.getElem?_eq_some_iff.mp hz).1
   have s3:=s2.upd h1 (.tup [.int j,.int n])
   refine ⟨T1,_,rfl,.of zab,rfl,_,_,rfl,_,_,rfl,rfl,?_⟩
   refine ⟨_,rfl,d,rfl,.inr ⟨_,.inl (s3 _ _ hd)⟩,_,rfl,_,rfl,(by show 3≤sizeLine;decide),fun T2 h2=>?_⟩
   have s4:=s3.upd h2 (.tup [.str "leg",.int k,.int j])
   refine ⟨_,rfl,_,DGet.t (k:=legK k j) (s4 _ _ hd) zab,?_⟩
   have eD4:=((zaf h1 (.tup [.int j,.int n])).upd h2 (.tup [.str "leg",.int k,.int j])) _ _ eD
   refine ⟨_,eD4,big (by rw [List.length_map,zdB,List.length_take];omega),s4.write hD _,?_⟩
   have lt:(ns.take j).length=j:=by rw [List.length_take];omega
   rw [zab,List.take_add_one,hz]
   show _=some (HO.lst ((zcK fs k (ns.take j++ [n])).map V.int))
   rw [ziG,List.map_append,lt,zgh]
   rfl
 ·rintro H2 ⟨s2,eD⟩
  have et:ns.take (ns.map V.int).length=ns:=by rw [List.length_map,List.take_length]
  rw [et] at eD
  exact q D H2 s2 hD eD
theorem zbH:zax ["works","stuck","row","ones","worths","gate","body","read","worth"] ["works","stuck","row","ones"] (zag zby):=⟨rfl,rfl,rfl,by decide+kernel,rfl,by decide+kernel,by decide+kernel⟩
theorem zfl (T:Txt K mg t):FnOk P w K mg base CX0 2 t.f_worths_with t.fd_worths_with ["works","stuck","row","ones"] (sp_wwG K):=by
 refine T.d_worths_with.F.okB zbH (fun vs H Q E h=>?_) (fun cdv A outer s H vs Q E hr h=>?_)
 ·obtain ⟨x,d,p,w,fs,row,o,rfl,_⟩:=h
  rfl
 obtain ⟨x,d,p,w,fs,row,o,rfl,hx,wf,hd,hS,hl,q⟩:=h
 obtain ⟨a,ga,oa,gs,os,rfl,ha,hg,ho,rg,ro⟩:=zcl hx
 have hu1:=zfP hr
 have lg:gs.length=w.gates.length:=by rw [rg.length,List.length_map]
 have i1:=wf.i1
 have i6:=wf.i6
 have few:=wf.few
 refine ⟨_,(zad (zak (k:=4) zbH.nd rfl (Or.inr rfl) (zaQ rfl (N:=["wire","worth","stuck"]) (n:=2) (cap:=[1]) (zbU rfl rfl) (zea rfl T.z_enumerate (zaa (bpv 2) (zac))) (zd9 (by decide) (by decide)) (fun _ _ _ _=>(zeT (K:=K) (n:=2) rfl (zaz (zaj (k:=0) (show (["wire","worth","stuck"]:List Str).Nodup by decide+kernel) rfl (Or.inl rfl)) (zaz (zaj (k:=1) (show (["wire","worth","stuck"]:List Str).Nodup by decide+kernel) rfl (Or.inl rfl)) zbW)))) (fun _ _ _ _=>za3) (fun _ _ _ _=>(zds hu1 (bpv 2) (zaJ (zaa zav (zaa (bpv 0) (zac)))) (bpv 1) ⟨rfl,rfl,rfl,rfl⟩))))
  (zad (zaK PassesOwn.never rfl (zea rfl T.z_enumerate (zaa (zao zaB (bpv 0) zae (fun _ _=>rfl)) (zac))) (zdi rfl (zaz (zaj (k:=5) zbH.nd rfl (Or.inl rfl)) (zaz (zaj (k:=6) zbH.nd rfl (Or.inl rfl)) zbW))) (zad (zak (k:=7) zbH.nd rfl (Or.inl rfl) (zan (zgw T) (hr.mono (by decide)) rfl T.d_leg_worths.m T.d_leg_worths.F.kp T.d_leg_worths.b .nil zaU (zaa (bpv 1) (zaa (bpv 5) (zaa (zaQ rfl (N:=["leg","worths"]) (n:=1) (cap:=[4]) (zbU rfl rfl) (zjZ (zao zaB (bpv 6) zae (fun _ _=>rfl))) (zaL (by decide)) (fun _ _ _ _=>(zaj (k:=0) (show (["leg","worths"]:List Str).Nodup by decide+kernel) rfl (Or.inl rfl))) (fun _ _ _ _=>za3) (fun _ _ _ _=>(zao (zcU (K:=K)) (bpv 1) (bpv 0) (fun _ _=>rfl)))) (zac))))))
  (zad (zak (k:=8) zbH.nd rfl (Or.inl rfl) (zan (zfJ T) (hr.mono (by decide)) rfl T.d_gate_worth.m T.d_gate_worth.F.kp T.d_gate_worth.b .nil zaU (zaa (zao zaB (bpv 6) zae (fun _ _=>rfl)) (zaa (bpv 7) (zaa (bpv 3) (zac))))))
  (zah (zbl (zdq PySem.F.plainAttrs_list PySem.F.slot_list_append PySem.F.type_list_append zbn (bpv 4) (zaa (zds hu1 (bpv 1) (zaJ (zaa zav (zaa (zam zcj (zao zaB (bpv 0) zae (fun _ _=>rfl)) (bpv 5)) (zac)))) (bpv 8) ⟨rfl,rfl,rfl,rfl⟩) (zac))))))))
  (zah (zar (bpv 4))))),?_⟩
 refine ⟨_,rfl,p,rfl,⟨_,hS⟩,fun r hr1=>ze7 (K:=K) (a:=p) (xs:=row.map V.int) (fun j H2=>Same H H2∧H2 r=some (.lst ((rowS fs (row.take j)).map V.int))) ⟨zaf hr1 _,zab⟩ (fun j H2 _ z=>z.1.seq hS) ?_ ?_⟩
 ·rintro j y H2 T1 hy ⟨s2,eD⟩ h1
  rw [List.getElem?_map] at hy
  cases hz:row[j]? with
  | none=>rw [hz] at hy;cases hy
  | some n=>
   rw [hz] at hy
   cases hy
   have lj:j < row.length:=(List.getElem?_eq_some_iff.mp hz).1
   have s3:=s2.upd h1 (.tup [.int j,.int n])
   refine ⟨T1,_,rfl,.of zab,rfl,_,_,rfl,_,_,rfl,rfl,?_⟩
   refine ⟨_,rfl,d,rfl,.inr ⟨_,.inl (s3 _ _ hd)⟩,_,rfl,(by show 2≤sizeLine;decide),fun T2 h2=>?_⟩
   have s4:=s3.upd h2 (.tup [.str "wire",.int j])
   refine ⟨_,rfl,_,DGet.t (k:=zb2 j) (s4 _ _ hd) zab,?_⟩
   have eD4:=((zaf h1 (.tup [.int j,.int n])).upd h2 (.tup [.str "wire",.int j])) _ _ eD
   refine ⟨_,eD4,big (by rw [List.length_map,zgI,List.length_take];omega),s4.write hr1 _,?_⟩
   have lt:(row.take j).length=j:=by rw [List.length_take];omega
   rw [zab,List.take_add_one,hz]
   show _=some (HO.lst ((rowS fs (row.take j++ [n])).map V.int))
   rw [zj2,List.map_append,lt,zgh]
   rfl
 rintro H1 ⟨s1,e1⟩
 have et:row.take (row.map V.int).length=row:=by rw [List.length_map,List.take_length]
 rw [et] at e1
 refine ⟨_,rfl,a,_,_,_,rfl,rfl,s1.seqT ha,rfl,ga,rfl,⟨_,s1.seq hg⟩,zic (K:=K) (a:=ga) (xs:=gs)
  (fun i σ H3=>∃ (o4 o5 o6 o7:Option V),σ = [some (.ref a),some (.ref d),some (.ref p),some (.int o),some (.ref r),o4,o5,o6,o7]∧Same H H3∧H3 r=some (.lst ((zcA o fs w.gates row i).map V.int)))
  ⟨_,_,_,_,rfl,s1,e1⟩ (fun i σ H3 _ ⟨_,_,_,_,_,s3,_⟩=>s3.seq hg) ?_ ?_⟩
 ·rintro i x σ H3 T1 hx ⟨o4,o5,o6,o7,rfl,s3,e3⟩ h1
  have hi:i < gs.length:=(List.getElem?_eq_some_iff.mp hx).1
  obtain ⟨g,hgk⟩:∃ g,w.gates[i]? =some g:=⟨_,List.getElem?_eq_getElem (by omega)⟩
  obtain ⟨dd,hdd,rv⟩:=rg.get hx
  rw [List.getElem?_map,hgk] at hdd
  cases hdd
  obtain ⟨a1,la,rfl,hA,hL⟩:=zga rv
  obtain ⟨lk,lb⟩:=wf.legs i g hgk
  have lw:=zeH o fs w.gates row i
  have l4:=lk.le
  refine ⟨T1,_,rfl,.of zab,rfl,_,_,rfl,_,_,rfl,rfl,?_⟩
  have k1:=zaf h1 (.tup [.int i,.ref a1])
  have s4:=s3.trans k1
  have e4:=k1 _ _ e3
  generalize upd H3 T1 (.tup [.int i,.ref a1])=H4 at k1 s4 e4
  refine ⟨_,rfl,_,rfl,_,rfl,a1,_,_,_,rfl,rfl,s4.seqT hA,rfl,la,rfl,⟨_,s4.seqT hL⟩,fun D hD=>zhT (K:=K) (a:=la) (xs:=g.2.map V.int)
   (fun j H5=>Same H4 H5∧H5 D=some (.lst (((g.2.take j).map fun l=>(zcA o fs w.gates row i).getD l.toNat 0).map V.int))) ⟨zaf hD _,zab⟩ (fun j H5 _ z=>(s4.trans z.1).seqT hL) ?_ ?_⟩
  ·rintro j y H5 hy ⟨s5,eD⟩
   rw [List.getElem?_map] at hy
   cases hz:g.2[j]? with
   | none=>rw [hz] at hy;cases hy
   | some l=>
    rw [hz] at hy
    cases hy
    have lj:j < g.2.length:=(List.getElem?_eq_some_iff.mp hz).1
    have bl:=lb l (List.mem_of_getElem? hz)
    refine ⟨_,rfl,_,rfl,r,_,_,_,rfl,rfl,.of (s5 _ _ e4),zbT bl.1 (by rw [lw];omega),?_⟩
    refine ⟨_,eD,big (by simp;omega),s5.write hD _,?_⟩
    rw [zab,List.take_add_one,hz]
    simp
  rintro H5 ⟨s5,eD⟩
  have et:g.2.take (g.2.map V.int).length=g.2:=by rw [List.length_map,List.take_length]
  rw [et] at eD
  have s45:=s4.trans s5
  refine ⟨d,D,_,fs,g.2.map fun l=>(zcA o fs w.gates row i).getD l.toNat 0,rfl,s45 _ _ hd,.of eD,by rw [List.length_map];exact l4,fun R H6 s6 nR eR=>?_⟩
  have s46:=s45.trans s6
  refine ⟨_,rfl,a1,_,_,_,rfl,rfl,s46.seqT hA,rfl,_,rfl,_,rfl,g.1,R,_,o,rfl,.of eR,by rw [zdB,List.length_map];exact lk,fun H7 s7=>?_⟩
  replace s46:=s46.trans s7
  have e6:=((s5.trans s6).trans s7) _ _ e4
  refine ⟨_,rfl,.inl ⟨rfl,_,.of e6⟩,_,rfl,d,rfl,.inr ⟨_,.inl (s46 _ _ hd)⟩,_,rfl,a,_,_,_,rfl,rfl,s46.seqT ha,rfl,_,rfl,_,_,rfl,rfl,(by show 2≤sizeLine;decide),fun T2 h2=>?_⟩
  have rT:r≠T2:=zal e6 h2
  have ei:w.ins+(i:Int)=((row.length+i:Nat):Int):=by omega
  refine ⟨_,rfl,_,DGet.t (k:=zb2 ((row.length+i:Nat):Int)) ((s46.upd h2 _) _ _ hd) (by rw [zab];show some (HO.tup [V.str "wire",V.int (w.ins+(i:Int))])=_;rw [ei];rfl),?_⟩
  refine ⟨r,_,_,rfl,rfl,by rw [zai rT];exact e6,big (by rw [List.length_map,lw];omega),_,_,_,_,rfl,(s46.upd h2 _).write hr1 _,?_⟩
  rw [zab,zcA,hgk,List.map_append,zgh]
  rfl
 ·rintro σ H3 ⟨o4,o5,o6,o7,rfl,s3,e3⟩
  rw [lg] at e3
  exact ⟨_,rfl,q r H3 s3 hr1 e3⟩
theorem zdD:zax ["works","stuck","row","ones","worths"] ["works","stuck","row","ones"] (zag zbd):=⟨rfl,rfl,rfl,by decide+kernel,rfl,by decide+kernel,by decide+kernel⟩
theorem zeO (T:Txt K mg t):FnOk P w K mg base CX0 3 t.f_outputs_with t.fd_outputs_with ["works","stuck","row","ones"] (sp_owG K):=by
 refine T.d_outputs_with.F.okB zdD (fun vs H Q E h=>?_) (fun cdv A outer s H vs Q E hr h=>?_)
 ·obtain ⟨x,d,p,w,fs,row,o,rfl,_⟩:=h
  rfl
 obtain ⟨x,d,p,w,fs,row,o,rfl,hx,wf,hd,hS,hl,q⟩:=h
 refine ⟨_,(zad (zak (k:=4) zdD.nd rfl (Or.inr rfl) (zan (zfl T) (hr.mono (by decide)) rfl T.d_worths_with.m T.d_worths_with.F.kp T.d_worths_with.b .nil zaU (zaa (bpv 0) (zaa (bpv 1) (zaa (bpv 2) (zaa (bpv 3) (zac)))))))
  (zah (zar (zaQ rfl (N:=["wire","worths"]) (n:=1) (cap:=[4]) (zbU rfl rfl) (zaI (zao zaB (bpv 0) zae (fun _ _=>rfl))) (zaL (by decide)) (fun _ _ _ _=>(zaj (k:=0) (show (["wire","worths"]:List Str).Nodup by decide+kernel) rfl (Or.inl rfl))) (fun _ _ _ _=>za3) (fun _ _ _ _=>(zao (zcU (K:=K)) (bpv 1) (bpv 0) (fun _ _=>rfl))))))),?_⟩
 refine ⟨_,rfl,_,rfl,_,rfl,_,rfl,x,d,p,w,fs,row,o,rfl,hx,wf,hd,hS,hl,fun r H1 s1 n1 e1=>?_⟩
 obtain ⟨a,ga,oa,gs,os,rfl,ha,hg,ho,rg,ro⟩:=zcl (hx.mono s1)
 have eo:=zd5 ro
 subst eo
 have lw:=zeH o fs w.gates row w.gates.length
 have o3:=wf.o3
 refine ⟨_,rfl,a,_,_,_,rfl,rfl,ha,rfl,oa,rfl,⟨_,ho⟩,fun D hD=>zbo (K:=K) (a:=oa) (xs:=w.outs.map V.int)
   (fun j H4=>Same H1 H4∧H4 D=some (.lst (((w.outs.take j).map fun u=>(zcA o fs w.gates row w.gates.length).getD u.toNat 0).map V.int))) ⟨zaf hD _,zab⟩ (fun j H4 _ z=>z.1.seq ho) ?_ ?_⟩
 ·rintro j y H4 hy ⟨s4,eD⟩
  rw [List.getElem?_map] at hy
  cases hz:w.outs[j]? with
  | none=>rw [hz] at hy;cases hy
  | some ou=>
   rw [hz] at hy
   cases hy
   have lj:j < w.outs.length:=(List.getElem?_eq_some_iff.mp hz).1
   have bo:=wf.outs ou (List.mem_of_getElem? hz)
   refine ⟨_,rfl,_,rfl,r,_,_,_,rfl,rfl,.of (s4 _ _ e1),zbT bo.1 (by rw [lw];omega),?_⟩
   refine ⟨_,eD,big (by simp;omega),s4.write hD _,?_⟩
   rw [zab,List.take_add_one,hz]
   simp
 ·rintro H4 ⟨s4,eD⟩
  have et:w.outs.take (w.outs.map V.int).length=w.outs:=by rw [List.length_map,List.take_length]
  rw [et] at eD
  exact q D H4 (s1.trans s4) (s1.free hD) eD
theorem zfE:zax ["script","k"] ["script","k"] (zag zbB):=⟨rfl,rfl,rfl,by decide+kernel,rfl,by decide+kernel,by decide+kernel⟩
theorem zb3 (T:Txt K mg t):FnOk P w K mg base CX0 1 t.f_law_cell_at t.fd_law_cell_at ["script","k"] (sp_ca K):=by
 refine T.d_law_cell_at.F.okB zfE (fun vs H Q E h=>?_) (fun cdv A outer s H vs Q E hr h=>?_)
 ·obtain ⟨a,ns,k,rfl,_⟩:=h
  rfl
 obtain ⟨a,ns,k,rfl,hS,q⟩:=h
 refine ⟨_,(zad (zaW (zas zjx (bpv 1) (zaw zau rfl T.z_len PySem.boot_len (zaa (bpv 0) (zac))) (zaF _)) (zah (zar (zao zaH (bpv 0) (bpv 1) (fun _ _=>rfl)))) zaA)
  (zah (zar zae))),?_⟩
 refine ⟨_,rfl,_,rfl,a,_,rfl,.inl hS,_,_,rfl,rfl,_,rfl,ite2 (fun c=>?_) (fun c=>q _)⟩
 have c':=of_decide_eq_true c
 rw [List.length_map] at c'
 exact ⟨_,rfl,_,rfl,a,_,_,_,rfl,rfl,hS,zbT (by omega) (by omega),q _⟩
theorem za2:zax ["inputs","worths","ones","place","behind"] ["inputs"] (zag zbe):=⟨rfl,rfl,rfl,by decide+kernel,rfl,by decide+kernel,by decide+kernel⟩
theorem zfv (T:Txt K mg t):FnOk P w K mg base CX0 1 t.f_rows_at_once t.fd_rows_at_once ["inputs"] sp_rao:=by
 refine T.d_rows_at_once.F.okB za2 (fun vs H Q E h=>?_) (fun cdv A outer s H vs Q E hr h=>?_)
 ·obtain ⟨n,rfl,_⟩:=h
  rfl
 obtain ⟨n,rfl,n6,q⟩:=h
 refine ⟨_,(zad (zak (k:=1) za2.nd rfl (Or.inl rfl) (zay zac))
  (zad (zak (k:=2) za2.nd rfl (Or.inl rfl) zae)
  (zad (zaK PassesOwn.never rfl (zaO rfl T.z_range (zaa (bpv 0) (zac))) (zaj (k:=3) za2.nd rfl (Or.inl rfl)) (zad (zak (k:=4) za2.nd rfl (Or.inr rfl) (zam zcj (bpv 2) zae))
  (zad (zak (k:=1) za2.nd rfl (Or.inl rfl) (zam zc0 (zay (zaa (zam zfb (bpv 2) (bpv 4)) (zac))) (zaQ rfl (N:=["worth","behind"]) (n:=1) (cap:=[4]) (zbU rfl rfl) (zaI (bpv 1)) (zaL (by decide)) (fun _ _ _ _=>(zaj (k:=0) (show (["worth","behind"]:List Str).Nodup by decide+kernel) rfl (Or.inl rfl))) (fun _ _ _ _=>za3) (fun _ _ _ _=>(zam zcj (bpv 0) (zam zfb (bpv 0) (bpv 1)))))))
  (zah (zak (k:=2) za2.nd rfl (Or.inl rfl) (zam zcj (bpv 2) (zam zfb (bpv 2) (bpv 4))))))))
  (zah (zar (zaJ (zaa (bpv 1) (zaa (bpv 2) (zac))))))))),?_⟩
 refine ⟨(by show 0≤sizeLine;decide),fun L0 hL0=>?_⟩
 refine ⟨_,rfl,_,rfl,by omega,by omega,?_⟩
 refine zcC (fun i σ H3=>∃ (L:Addr) (o3 o4:Option V),σ = [some (.int n),some (.ref L),some (.int (zaP (2 ^ i))),o3,o4]∧Same H H3∧H L=none∧H3 L=some (.lst ((zdj i).map V.int)))
  ⟨L0,_,_,rfl,zaf hL0 _,hL0,zab⟩ ?_ ?_
 ·rintro i σ H3 hi ⟨L,o3,o4,rfl,s3,nL,eL⟩
  have hi6:i < 6:=by omega
  have h64:=pow6 (n:=i) (by omega)
  obtain ⟨c1,c2,c3⟩:=zd4 i
  have bo:=zhQ (zcN (2 ^ i)) h64
  have bb:Builtin.Int.intBits (zaP (2 ^ i)+1)≤2 ^ 20:=by
   rw [zej]
   have hq: 2 ^ 2 ^ i≤2 ^ 64:=Nat.pow_le_pow_right (by decide) h64
   generalize 2 ^ 2 ^ i=q2 at hq
   exact zgx (k:=65) (by decide) (by omega) (by omega)
  refine ⟨_,rfl,_,_,rfl,rfl,?_⟩
  refine ⟨_,rfl,_,rfl,_,_,rfl,rfl,⟨bo,bb⟩,(by show 1≤sizeLine;decide),fun A1 hA1=>?_⟩
  have k1:=zaf hA1 (.lst [.int (zaP (2 ^ i) * (zaP (2 ^ i)+1))])
  refine ⟨_,rfl,L,rfl,⟨_,.of (k1 _ _ eL)⟩,fun D hD=>zbo (K:=K) (a:=L) (xs:=(zdj i).map V.int) (fun j H4=>Same (upd H3 A1 (.lst [.int (zaP (2 ^ i) * (zaP (2 ^ i)+1))])) H4∧H4 D=some (.lst ((((zdj i).take j).map fun v=>v+v * (zaP (2 ^ i)+1)).map V.int))) ⟨zaf hD _,zab⟩ (fun j H4 _ z=>.of (z.1 _ _ (k1 _ _ eL))) ?_ ?_⟩
  ·rintro j y H4 hy ⟨s4,eD⟩
   rw [List.getElem?_map] at hy
   cases hz:(zdj i)[j]? with
   | none=>rw [hz] at hy;cases hy
   | some v=>
    rw [hz] at hy
    cases hy
    have lj:j < (zdj i).length:=(List.getElem?_eq_some_iff.mp hz).1
    refine ⟨_,rfl,_,rfl,_,rfl,_,_,rfl,rfl,⟨zhQ (c1 v (List.mem_of_getElem? hz)) h64,bb⟩,_,_,rfl,rfl,?_⟩
    refine ⟨_,eD,big (by simp;omega),s4.write hD _,?_⟩
    rw [zab,List.take_add_one,hz,List.map_append,List.map_append]
    rfl
  rintro H4 ⟨s4,eD⟩
  rw [List.length_map,List.take_length] at eD
  refine ⟨A1,D,_,_,rfl,rfl,s4 _ _ zab,eD,bigE (by simp;omega),fun A2 hA2=>?_⟩
  have k2:=zaf hA2 (.lst ([.int (zaP (2 ^ i) * (zaP (2 ^ i)+1))]++((zdj i).map fun v=>v+v * (zaP (2 ^ i)+1)).map V.int))
  have s34:=k1.trans s4
  refine ⟨_,rfl,_,rfl,_,rfl,_,_,rfl,rfl,⟨bo,bb⟩,_,_,rfl,rfl,A2,some (.int (0+(i:Int))),some (.int (zaP (2 ^ i)+1)),?_,(s3.trans s34).trans k2,(s3.trans s34).free hA2,zab⟩
  show [_,_,some (V.int (zaP (2 ^ i)+zaP (2 ^ i) * (zaP (2 ^ i)+1))),_,_]=_
  rw [zkh]
 ·rintro σ H3 ⟨L,o3,o4,rfl,s3,nL,eL⟩
  have en:((n:Int)).toNat=n:=by omega
  rw [en] at eL
  refine ⟨_,rfl,_,rfl,(by show 2≤sizeLine;decide),fun r hr'=>q r L _ (s3.upd hr' _) (s3.free hr') nL ?_ (zaf hr' _ _ _ eL)⟩
  rw [zab,en]
theorem zbp:zax ["seen","others","unlike","worth","other"] ["seen","others"] (zag zaR):=⟨rfl,rfl,rfl,by decide+kernel,rfl,by decide+kernel,by decide+kernel⟩
theorem zeC (T:Txt K mg t):FnOk P w K mg base CX0 1 t.f_unlike_numbers t.fd_unlike_numbers ["seen","others"] sp_un:=by
 refine T.d_unlike_numbers.F.okB zbp (fun vs H Q E h=>?_) (fun cdv A outer s H vs Q E hr h=>?_)
 ·obtain ⟨a,b,xs,ys,R,rfl,_⟩:=h
  rfl
 obtain ⟨a,b,xs,ys,R,rfl,ha,hb,hl,l1,h64,bx,by',q⟩:=h
 refine ⟨_,(zad (zak (k:=2) zbp.nd rfl (Or.inr rfl) zae)
  (zad (zaK PassesOwn.never rfl (zhO rfl T.z_zip (zaa (bpv 0) (zaa (bpv 1) (zac)))) (zdi rfl (zaz (zaj (k:=3) zbp.nd rfl (Or.inl rfl)) (zaz (zaj (k:=4) zbp.nd rfl (Or.inl rfl)) zbW))) (zah (zak (k:=2) zbp.nd rfl (Or.inr rfl) (zam zmd (bpv 2) (zam zil (bpv 3) (bpv 4))))))
  (zah (zar (zaQ rfl (N:=["number","unlike"]) (n:=1) (cap:=[2]) (zbU rfl rfl) (zaO rfl T.z_range (zaa (zme PySem.F.plainAttrs_int PyProof.Rows.slot_int_bit_length PyProof.Rows.type_int_bit_length zke (bpv 2)) (zac))) (zaL (by decide)) (fun _ _ _ _=>(zaj (k:=0) (show (["number","unlike"]:List Str).Nodup by decide+kernel) rfl (Or.inl rfl))) (fun _ _ _ _=>(zem (zas zcQ (zam zhV (zam op_shr (bpv 1) (bpv 0)) zae) zae (zaF _)))) (fun _ _ _ _=>(bpv 0))))))),?_⟩
 refine ⟨_,rfl,_,rfl,a,b,_,_,rfl,ha,hb,zhN (a:=a) (b:=b) (xs:=xs.map V.int) (ys:=ys.map V.int) (by simp [hl])
  (fun i σ H3=>∃ (o3 o4:Option V),σ = [some (.ref a),some (.ref b),some (.int (((xs.take i).zip (ys.take i)).foldl (fun u p=>Builtin.bitOr u (Builtin.bitXor p.1 p.2)) 0)),o3,o4]∧Same H H3)
  ⟨_,_,rfl,Same.refl _⟩ (fun i σ H3 _ ⟨_,_,_,s3⟩=>⟨s3 _ _ ha,s3 _ _ hb⟩) ?_ ?_⟩
 ·rintro i x y σ H3 T1 hx hy ⟨o3,o4,rfl,s3⟩ h1
  rw [List.getElem?_map] at hx hy
  cases hzx:xs[i]? with
  | none=>rw [hzx] at hx;cases hx
  | some u=>
   cases hzy:ys[i]? with
   | none=>rw [hzy] at hy;cases hy
   | some v=>
    rw [hzx] at hx
    rw [hzy] at hy
    cases hx
    cases hy
    refine ⟨T1,_,rfl,.of zab,rfl,_,_,rfl,_,_,rfl,rfl,?_⟩
    refine ⟨_,rfl,_,rfl,_,rfl,_,_,rfl,rfl,_,_,rfl,rfl,some (.int u),some (.int v),?_,s3.upd h1 _⟩
    have li:i < xs.length:=(List.getElem?_eq_some_iff.mp hzx).1
    have e:(xs.take (i+1)).zip (ys.take (i+1))=(xs.take i).zip (ys.take i)++ [(u,v)]:=by
     rw [List.take_add_one,List.take_add_one,hzx,hzy]
     show (xs.take i++ [u]).zip (ys.take i++ [v])=_
     rw [List.zip_append (by rw [List.length_take,List.length_take];omega)]
     rfl
    rw [e,List.foldl_append]
    rfl
 ·rintro σ H3 ⟨o3,o4,rfl,s3⟩
  have e1:xs.take (xs.map V.int).length=xs:=by rw [List.length_map,List.take_length]
  have e2:ys.take (xs.map V.int).length=ys:=by rw [List.length_map,hl,List.take_length]
  obtain ⟨u1,u2⟩:=zdU (R:=R) xs ys hl bx by' (zdc R)
  obtain ⟨un,eun⟩:∃ un,zcS xs ys=un:=⟨_,rfl⟩
  have b0:za0 R un:=by rw [← eun];exact u1
  have few:Builtin.Int.intBits un≤2 ^ 20:=zhQ b0 h64
  rw [e1,e2]
  refine ⟨_,rfl,rfl,_,rfl,rfl,_,rfl,?_,?_,fun D hD=>?_⟩
  ·omega
  ·show ((Builtin.Int.intBits (zcS xs ys):Nat):Int) < 2 ^ 62
   rw [eun]
   omega
  have ll:((Builtin.Int.intBits (zcS xs ys):Nat):Int).toNat=Builtin.Int.intBits un:=by rw [eun];omega
  show zdo (Itr 0 ((Builtin.Int.intBits (zcS xs ys):Nat):Int).toNat) _ _ _ _ _ _ _ _ _
  rw [ll]
  refine zdG (fun j H4=>Same H3 H4∧H4 D=some (.lst (((List.range j).filter fun k=>decide (bitI k un=1)).map fun k:Nat=>V.int (k:Int)))) ⟨zaf hD _,zab⟩ ?_ ?_
  ·rintro j H4 hj ⟨s4,eD⟩
   rw [Int.zero_add]
   have sb:=zmq (R:=R) b0 j
   rw [← eun] at sb
   have small:(((List.range j).filter fun k=>decide (bitI k un=1)).map fun k:Nat=>V.int (k:Int)).length≤2000000:=by
    rw [List.length_map]
    have:=List.length_filter_le (fun k=>decide (bitI k un=1)) (List.range j)
    rw [List.length_range] at this
    omega
   refine ⟨_,rfl,_,rfl,_,_,rfl,rfl,Int.natCast_nonneg j,_,_,rfl,rfl,rfl,_,rfl,ite2 (fun c=>⟨_,rfl,_,eD,?_,s4.write hD _,?_⟩) (fun c=>⟨s4,?_⟩)⟩
   ·have:sizeLine=16777216:=by decide
    omega
   ·rw [zab,List.range_succ,List.filter_append,List.map_append]
    have e:decide (bitI j un=1)=true:=by rw [← eun];exact decide_eq_true (sb.mp (of_decide_eq_true c))
    simp [e]
   ·rw [eD,List.range_succ,List.filter_append,List.map_append]
    have e:decide (bitI j un=1)=false:=by rw [← eun];exact decide_eq_false fun z=>c (decide_eq_true (sb.mpr z))
    simp [e]
  ·rintro H4 ⟨s4,eD⟩
   refine q D H4 (s3.trans s4) (s3.free hD) ?_
   rw [eD,eun]
   rfl
theorem zcm:zax ["works","stuck","rows","ones","stuck_at_once"] ["works","stuck"] (zag zbj):=⟨rfl,rfl,rfl,by decide+kernel,rfl,by decide+kernel,by decide+kernel⟩
theorem zeP (T:Txt K mg t):FnOk P w K mg base CX0 4 t.f_outputs_seen t.fd_outputs_seen ["works","stuck"] (sp_osR K):=by
 refine T.d_outputs_seen.F.okB zcm (fun vs H Q E h=>?_) (fun cdv A outer s H vs Q E hr h=>?_)
 ·obtain ⟨x,d,w,fs,G,rfl,_⟩:=h
  rfl
 obtain ⟨x,d,w,fs,G,rfl,off,hx,wf,hd,fb,ap,lf,q⟩:=h
 have hu64:=hr.units
 obtain ⟨a,ga,oa,gs,os,rfl,ha,hg,ho,rg,ro⟩:=zcl hx
 have i1:=wf.i1
 have i6:=wf.i6
 obtain ⟨n,en⟩:∃ n,w.ins.toNat=n:=⟨_,rfl⟩
 have n6:n≤6:=by omega
 have h64:=pow6 n6
 have c:=zd4 n
 refine ⟨_,(zad (zak (k:=2) zcm.nd rfl (Or.inl rfl) (zan (zfv T) (hr.mono (by decide)) rfl T.d_rows_at_once.m T.d_rows_at_once.F.kp T.d_rows_at_once.b .nil zaU (zaa (zao zaB (bpv 0) zae (fun _ _=>rfl)) (zac))))
  (zad (zak (k:=3) zcm.nd rfl (Or.inr rfl) (zao zaB (bpv 2) zae (fun _ _=>rfl)))
  (zad (zak (k:=4) zcm.nd rfl (Or.inl rfl) (zce (zir rfl hu64) rfl T.z_dict PyProof.Rows.boot_dict (zaa (zaQ rfl (N:=["place","worth","ones"]) (n:=2) (cap:=[3]) (zbU rfl rfl) (zhb (bpv 1)) (zd9 (by decide) (by decide)) (fun _ _ _ _=>(zeT (K:=K) (n:=2) rfl (zaz (zaj (k:=0) (show (["place","worth","ones"]:List Str).Nodup by decide+kernel) rfl (Or.inl rfl)) (zaz (zaj (k:=1) (show (["place","worth","ones"]:List Str).Nodup by decide+kernel) rfl (Or.inl rfl)) zbW)))) (fun _ _ _ _=>za3) (fun _ _ _ _=>(zaJ (zaa (bpv 0) (zaa (zam zfb (bpv 1) (bpv 2)) (zac)))))) (zac))))
  (zah (zar (zan (zeO T) (hr.mono (by decide)) rfl T.d_outputs_with.m T.d_outputs_with.F.kp T.d_outputs_with.b .nil zaU (zaa (bpv 0) (zaa (bpv 4) (zaa (zao zaB (bpv 2) zae (fun _ _=>rfl)) (zaa (bpv 3) (zac))))))))))),?_⟩
 refine ⟨_,rfl,a,_,_,_,rfl,rfl,off.same.seqT ha,rfl,n,by rw [← en,Int.toNat_of_nonneg (by omega)];rfl,n6,fun r L H1 s1 nr nL er eL=>?_⟩
 refine ⟨_,rfl,r,_,1,_,rfl,rfl,.of er,rfl,?_⟩
 have off1:=off.grow s1
 have rd:r≠d:=Ne.symm (zal hd nr)
 have Ld:L≠d:=Ne.symm (zal hd nL)
 refine ⟨_,rfl,d,_,rfl,s1 _ _ hd,fun ob D hD=>?_⟩
 have off2:=off1.write (.head _) (.frz ob (.dT (tabV fs)))
 have ed2:=zab (H:=H1) (a:=d) (o:=.frz ob (.dT (tabV fs)))
 have er2:(upd H1 d (.frz ob (.dT (tabV fs)))) r=some (.tup [.ref L,.int (zaP (2 ^ n))]):=by rw [zai rd];exact er
 have eL2:(upd H1 d (.frz ob (.dT (tabV fs)))) L=some (.lst ((zdj n).map V.int)):=by rw [zai Ld];exact eL
 generalize upd H1 d (.frz ob (.dT (tabV fs)))=H2 at hD off2 ed2 er2 eL2
 have gD:G D=none:=off2.same.free hD
 have Dd:d≠D:=zal ed2 hD
 have Dr:r≠D:=zal er2 hD
 have DL:L≠D:=zal eL2 hD
 refine ziK (d:=d) (ob:=ob) (kvs:=tabV fs) (fun j H5=>∃ xs,Off [d] G H5∧H5 d=some (.frz ob (.dT (tabV fs)))∧H5 r=some (.tup [.ref L,.int (zaP (2 ^ n))])∧H5 L=some (.lst ((zdj n).map V.int))∧H5 D=some (.lst xs)∧zeF H5 xs (tabV (zcG (2 ^ n) (fs.take j))))
  ⟨[],off2.new hD _,zaf hD _ _ _ ed2,zaf hD _ _ _ er2,zaf hD _ _ _ eL2,zab,.nil⟩ (fun j H5 _ ⟨_,_,e,_⟩=>e) ?_ ?_
 ·rintro j b p H5 T1 hp ⟨xs,off5,ed5,er5,eL5,eD5,pr⟩ hT1 hb
  have hp':(fs.map fun f=>(f.place,V.int f.worth))[j]? =some p:=hp
  rw [List.getElem?_map] at hp'
  cases hz:fs[j]? with
  | none=>rw [hz] at hp';cases hp'
  | some f=>
   rw [hz] at hp'
   cases hp'
   have lj:j < fs.length:=(List.getElem?_eq_some_iff.mp hz).1
   have et:fs.take (j+1)=fs.take j++ [f]:=by rw [List.take_add_one,hz];rfl
   have fw:=fb f (List.mem_of_getElem? hz)
   have k1:=zaf hT1 (.tup [.ref b,.int f.worth])
   refine ⟨T1,_,rfl,.of zab,rfl,_,_,rfl,_,_,rfl,rfl,?_⟩
   have b1:Builtin.Int.intBits f.worth≤2 ^ 20:=zgx (k:=2) (by decide) (by omega) (by omega)
   refine ⟨_,rfl,_,rfl,_,rfl,_,_,rfl,rfl,⟨b1,zhQ (zcN (2 ^ n)) h64⟩,(by show 2≤sizeLine;decide),fun T2 h2=>?_⟩
   have k2:=zaf h2 (.tup [.ref b,.int (f.worth * zaP (2 ^ n))])
   have k12:=k1.trans k2
   have lpr:=Paired.length pr
   unfold tabV zcG at lpr
   rw [List.length_map,List.length_map,List.length_take] at lpr
   refine ⟨xs,k12 _ _ eD5,big (by omega),xs++ [.ref T2],?_,by rw [zai Dd];exact k12 _ _ ed5,by rw [zai Dr];exact k12 _ _ er5,by rw [zai DL];exact k12 _ _ eL5,zab,?_⟩
   ·exact ⟨(off5.grow k12).same.write gD _,(off5.grow k12).out,fun m hm=>by rw [List.mem_singleton.mp hm,zai Dd];exact ⟨_,k12 _ _ ed5⟩⟩
   ·rw [et]
    have e1:tabV (zcG (2 ^ n) (fs.take j++ [f]))=tabV (zcG (2 ^ n) (fs.take j))++ [(f.place,V.int (f.worth * zaP (2 ^ n)))]:=by unfold tabV zcG;rw [List.map_append,List.map_append];rfl
    rw [e1]
    exact zhF (k12 _ _ eD5) (Paired.snoc (zi2 k12 pr) ⟨T2,b,rfl,zab,hb.same k12⟩)
 rintro H5 ⟨xs,off5,ed5,er5,eL5,eD5,pr⟩
 have lt:(tabV fs).length=fs.length:=by unfold tabV;rw [List.length_map]
 rw [lt,List.take_length] at pr
 refine ⟨D,xs,tabV (zcG (2 ^ n) fs),rfl,eD5,pr,big (by unfold tabV zcG;rw [List.length_map,List.length_map];omega),fun e he=>?_⟩
 rw [show zeK [] (tabV (zcG (2 ^ n) fs))=tabV (zcG (2 ^ n) fs) from zg7 (zcG (2 ^ n) fs) [] (ziD ap)]
 have k6:=zaf he (.dT (tabV (zcG (2 ^ n) fs)))
 have s6:=off5.same.trans k6
 refine ⟨_,rfl,_,rfl,_,rfl,r,_,0,_,rfl,rfl,.of (k6 _ _ er5),rfl,_,rfl,.ref a,e,L,w,zcG (2 ^ n) fs,zdj n,zaP (2 ^ n),rfl,hx.mono s6,wf,zab,.of (k6 _ _ eL5),by rw [c.2.1];omega,fun r2 H7 s7 n7 e7=>?_⟩
 exact q r2 ob H7 (s6.trans s7) (s6.free n7) ((k6.trans s7) _ _ ed5) (by rw [e7];unfold zcu;rw [en])
theorem zdA (T:Txt K mg t):FnOk P w K mg base CX0 4 t.f_outputs_seen t.fd_outputs_seen ["works","stuck"] (sp_osT K):=by
 refine (zeP T).thaw.imp fun vs H Q E h=>?_
 obtain ⟨x,d,w,fs,rfl,hx,wf,hd,fb,ap,lf,q⟩:=h
 obtain ⟨a,ga,oa,gs,os,rfl,ha,hg,ho,rg,ro⟩:=zcl hx
 refine ⟨.ref a,d,w,fs,hole d H,rfl,zcx hd,zif hd hx,wf,hd,fb,ap,lf,fun r ob H' s n e1 e2=>⟨d,ob,_,_,hd,e1,?_⟩⟩
 have rd:r≠d:=fun z=>by rw [z,e1] at e2;cases e2
 refine q r _ (fun b o hb=>?_) (by rw [zaT rd] at n;exact n) (by rw [zai rd];exact e2)
 by_cases z:b=d
 ·subst z
  rw [zab]
  rw [hd] at hb
  exact hb
 ·rw [zai z]
  exact s _ _ (by rw [zaT z];exact hb)
theorem zbi:zax ["works","places","faults","place","gate","body","leg"] ["works"] (zag zbA):=⟨rfl,rfl,rfl,by decide+kernel,rfl,by decide+kernel,by decide+kernel⟩
theorem zfI (T:Txt K mg t):FnOk P w K mg base CX0 1 t.f_every_fault t.fd_every_fault ["works"] (zi1 K):=by
 refine T.d_every_fault.F.okB zbi (fun vs H Q E h=>?_) (fun cdv A outer s H vs Q E hr h=>?_)
 ·obtain ⟨x,w,rfl,_⟩:=h
  rfl
 obtain ⟨x,w,rfl,hx,wf,q⟩:=h
 obtain ⟨a,ga,oa,gs,os,rfl,ha,hg,ho,rg,ro⟩:=zcl hx
 have lg:gs.length=w.gates.length:=by rw [rg.length,List.length_map]
 have i1:=wf.i1
 have i6:=wf.i6
 have few:=wf.few
 refine ⟨_,(zad (zgj (k:=1) rfl (N:=["wire"]) (n:=1) (cap:=[]) (zbU rfl rfl) zbi.nd rfl rfl (zaO rfl T.z_range (zaa (zam zcj (zao zaB (bpv 0) zae (fun _ _=>rfl)) (zaw zau rfl T.z_len PySem.boot_len (zaa (zao zaB (bpv 0) zae (fun _ _=>rfl)) (zac)))) (zac))) (zaL (by decide)) (fun _ _ _ _=>(zaj (k:=0) (show (["wire"]:List Str).Nodup by decide+kernel) rfl (Or.inl rfl))) (fun _ _ _ _=>za3) (fun _ _ _ _=>(zaJ (zaa zav (zaa (bpv 0) (zac))))) rfl)
  (zad (zaK PassesOwn.never rfl (zea rfl T.z_enumerate (zaa (zao zaB (bpv 0) zae (fun _ _=>rfl)) (zac))) (zdi rfl (zaz (zaj (k:=4) zbi.nd rfl (Or.inl rfl)) (zaz (zaj (k:=5) zbi.nd rfl (Or.inl rfl)) zbW))) (zah (zaK PassesOwn.never rfl (zaO rfl T.z_range (zaa (zaw zau rfl T.z_len PySem.boot_len (zaa (zao zaB (bpv 5) zae (fun _ _=>rfl)) (zac))) (zac))) (zaj (k:=6) zbi.nd rfl (Or.inl rfl)) (zah (zbl (zdq PySem.F.plainAttrs_list PySem.F.slot_list_append PySem.F.type_list_append zbn (bpv 1) (zaa (zaJ (zaa zav (zaa (bpv 4) (zaa (bpv 6) (zac))))) (zac))))))))
  (zad (zak (k:=2) zbi.nd rfl (Or.inl rfl) (zay zac))
  (zad (zaK PassesOwn.never rfl (zaI (bpv 1)) (zaj (k:=3) zbi.nd rfl (Or.inl rfl)) (zad (zbl (zdq PySem.F.plainAttrs_list PySem.F.slot_list_append PySem.F.type_list_append zbn (bpv 2) (zaa (zam zkb (bpv 3) (zaJ (zaa zae (zac)))) (zac))))
  (zah (zbl (zdq PySem.F.plainAttrs_list PySem.F.slot_list_append PySem.F.type_list_append zbn (bpv 2) (zaa (zam zkb (bpv 3) (zaJ (zaa zae (zac)))) (zac)))))))
  (zah (zar (bpv 2))))))),?_⟩
 refine ⟨_,rfl,a,_,_,_,rfl,rfl,ha,rfl,_,rfl,a,_,_,_,rfl,rfl,ha,rfl,ga,_,rfl,.inl hg,_,_,rfl,rfl,_,rfl,by omega,by omega,fun pl hpl=>?_⟩
 refine zdG (fun i H2=>∃ xs,Bld K H pl xs ((zc3 i).map .tuple) H2) ⟨[],.start hpl⟩ ?_ ?_
 ·rintro i H2 hi ⟨xs,b⟩
  rw [Int.zero_add]
  have lx:=b.len
  rw [List.length_map,zcM] at lx
  refine ⟨_,rfl,(by show 2≤sizeLine;decide),fun T1 h1=>⟨xs,(b.new h1 _).at_,big (by omega),xs++ [.ref T1],?_⟩⟩
  have:=b.pushT (es:=[.str "wire",.int i]) h1 (.cons (.str _) (.cons (.int _) .nil))
  simpa [zc3,zjP] using this
 rintro H2 ⟨xs,b⟩
 have e2:(w.ins+(gs.length:Int)).toNat=w.ins.toNat+w.gates.length:=by omega
 rw [e2] at b
 refine ⟨_,rfl,a,_,_,_,rfl,rfl,b.same.seqT ha,rfl,ga,rfl,⟨_,b.same.seq hg⟩,zic (K:=K) (a:=ga) (xs:=gs)
  (fun i σ H2=>∃ (xs:List V) (o1 o2 o3 o4 o5:Option V),σ = [some (.ref a),some (.ref pl),o1,o2,o3,o4,o5]∧Bld K H pl xs ((zc3 (w.ins.toNat+w.gates.length)++zc4 w.gates i).map .tuple) H2)
  ⟨xs,_,_,_,_,_,rfl,by simpa [zc4] using b⟩ (fun i σ H2 _ ⟨_,_,_,_,_,_,_,b⟩=>b.same.seq hg) ?_ ?_⟩
 ·rintro i x σ H2 T1 hx ⟨xs,o1,o2,o3,o4,o5,rfl,b⟩ h1
  have hi:i < gs.length:=(List.getElem?_eq_some_iff.mp hx).1
  obtain ⟨g,hgk⟩:∃ g,w.gates[i]? =some g:=⟨_,List.getElem?_eq_getElem (by omega)⟩
  obtain ⟨d,hd,rv⟩:=rg.get hx
  rw [List.getElem?_map,hgk] at hd
  cases hd
  obtain ⟨a1,la,rfl,hA,hL⟩:=zga rv
  have lk:=(wf.legs i g hgk).1.le
  have ll:((g.2.map V.int).length:Int)=g.2.length:=by rw [List.length_map]
  have b':=b.new h1 (.tup [.int i,.ref a1])
  refine ⟨T1,_,rfl,.of zab,rfl,_,_,rfl,_,_,rfl,rfl,?_⟩
  refine ⟨_,rfl,a1,_,_,_,rfl,rfl,b'.same.seqT hA,rfl,la,_,rfl,.inr (b'.same.seqT hL),_,rfl,by omega,by omega,?_⟩
  refine zcC (fun j σ H3=>∃ (xs:List V) (o1 o2 o5:Option V),σ = [some (.ref a),some (.ref pl),o1,o2,some (.int i),some (.ref a1),o5]∧
   Bld K H pl xs ((zc3 (w.ins.toNat+w.gates.length)++zc4 w.gates i++zeG i j).map .tuple) H3) ⟨xs,_,_,_,rfl,by simpa [zeG] using b'⟩ ?_ ?_
  ·rintro j σ H3 hj ⟨xs,o1,o2,o5,rfl,b⟩
   rw [Int.zero_add]
   have lx:=b.len
   have g1:=zdb wf i
   rw [List.length_map,List.length_append,List.length_append,zet,zcM] at lx
   refine ⟨_,rfl,.inl ⟨rfl,_,b.sq⟩,_,rfl,_,rfl,(by show 3≤sizeLine;decide),fun T2 h2=>?_⟩
   refine ⟨pl,xs,_,rfl,rfl,(b.new h2 _).at_,big (by omega),xs++ [.ref T2],_,_,_,rfl,?_⟩
   have:=b.pushT (es:=[.str "leg",.int i,.int j]) h2 (.cons (.str _) (.cons (.int _) (.cons (.int _) .nil)))
   simpa [zeG,legP] using this
  ·rintro σ H3 ⟨xs,o1,o2,o5,rfl,b⟩
   have e3:((g.2.map V.int).length:Int).toNat=g.2.length:=by omega
   rw [e3] at b
   exact ⟨xs,_,_,_,_,_,rfl,by simpa [zc4,hgk,List.append_assoc] using b⟩
 rintro σ H2 ⟨xs,o1,o2,o3,o4,o5,rfl,b⟩
 rw [lg] at b
 have lp:(za5 w).length≤200:=by
  have g1:=zdb wf w.gates.length
  unfold za5
  rw [List.length_append,zcM]
  omega
 have rp:Reps K H2 xs ((za5 w).map .tuple):=b.reps
 refine ⟨(by show 0≤sizeLine;decide),fun f hf=>?_⟩
 have s1:Same H2 (upd H2 f (.lst [])):=zaf hf _
 refine ⟨_,rfl,pl,rfl,⟨_,s1.seq b.sq⟩,zb0 (K:=K) (a:=pl) (xs:=xs)
  (fun i σ H3=>∃ (ys:List V) (o2 o3 o4 o5:Option V),σ = [some (.ref a),some (.ref pl),some (.ref f),o2,o3,o4,o5]∧Bld K H2 f ys (zdO ((za5 w).take i)) H3∧FAll H3 ys (((zco w).take i).flatMap fun p=>[⟨p,0⟩,⟨p,1⟩]))
  ⟨[],_,_,_,_,rfl,.start hf,.nil⟩ (fun i σ H3 _ ⟨_,_,_,_,_,_,b3,_⟩=>b3.same.seq b.sq) ?_ ?_⟩
 ·rintro i x σ H3 hx ⟨ys,o2,o3,o4,o5,rfl,b3,fa3⟩
  obtain ⟨d,hd,rx⟩:=rp.get hx
  rw [List.getElem?_map] at hd
  cases hp:(za5 w)[i]? with
  | none=>rw [hp] at hd;cases hd
  | some p=>
   rw [hp] at hd
   cases hd
   cases rx with
   | @tup a1 vs _ h1 r1=>
    have hi:i < (za5 w).length:=(List.getElem?_eq_some_iff.mp hp).1
    have et:(za5 w).take (i+1)=(za5 w).take i++ [p]:=by
     rw [List.take_add_one,hp]
     rfl
    have pne:vs≠[]:=by
     intro z
     subst z
     cases r1
     exact zkv hp
    have lv:vs.length≤3:=by
     rw [r1.length]
     exact zkw hp
    have ly:=b3.len
    rw [ze1,List.length_take] at ly
    obtain ⟨pk,hpk,epk⟩:∃ pk,(zco w)[i]? =some pk∧p=pk.map kD:=by
     rw [← zeq,List.getElem?_map] at hp
     cases hz:(zco w)[i]? with
     | none=>rw [hz] at hp;cases hp
     | some pk=>rw [hz] at hp;cases hp;exact ⟨pk,rfl,rfl⟩
    have ek:(zco w).take (i+1)=(zco w).take i++ [pk]:=by
     rw [List.take_add_one,hpk]
     rfl
    have ev0:vs++ [.int 0]=pk.map kV++ [.int 0]:=zef (K:=K) (H:=H2) (by rw [← epk];exact r1.snoc (.int 0))
    have ev1:vs++ [.int 1]=pk.map kV++ [.int 1]:=zef (K:=K) (H:=H2) (by rw [← epk];exact r1.snoc (.int 1))
    refine ⟨_,rfl,.inl ⟨rfl,_,b3.sq⟩,_,rfl,(by show 1≤sizeLine;decide),fun T1 n1=>?_⟩
    have c1:=b3.new n1 (.tup [.int 0])
    refine ⟨a1,T1,vs,_,rfl,rfl,c1.same.seqT h1,.of zab,pne,bigE (by simp;omega),(fun z=>nomatch z),fun _ T2 n2=>?_⟩
    have c2:=c1.pushT n2 (r1.snoc (.int 0))
    refine ⟨f,ys,_,rfl,rfl,(c1.new n2 _).at_,big (by omega),?_⟩
    refine ⟨_,rfl,.inl ⟨rfl,_,c2.sq⟩,_,rfl,(by show 1≤sizeLine;decide),fun T3 n3=>?_⟩
    have c3:=c2.new n3 (.tup [.int 1])
    refine ⟨a1,T3,vs,_,rfl,rfl,c3.same.seqT h1,.of zab,pne,bigE (by simp;omega),(fun z=>nomatch z),fun _ T4 n4=>?_⟩
    have c4:=c3.pushT n4 (r1.snoc (.int 1))
    refine ⟨f,_,_,rfl,rfl,(c3.new n4 _).at_,big (by simp;omega),ys++ [.ref T2]++ [.ref T4],_,_,_,_,rfl,?_⟩
    constructor
    ·rw [et,zch,zeb]
     simpa [List.append_assoc] using c4
    ·rw [ek,List.flatMap_append]
     have fa4:=((fa3.new n1 (.tup [.int 0])).new n2 (.tup (vs++ [.int 0]))).write (c1.new n2 _).at_ (.lst (ys++ [.ref T2]))
     have g0:FAt (upd (upd (upd H3 T1 (.tup [.int 0])) T2 (.tup (vs++ [.int 0]))) f (.lst (ys++ [.ref T2]))) ⟨pk,0⟩ (.ref T2):=FAt.write ⟨T2,rfl,by rw [zab,ev0]⟩ (c1.new n2 _).at_ _
     have fa5:=((((show FAll _ _ [_] from .cons g0 .nil)).new n3 (.tup [.int 1])).new n4 (.tup (vs++ [.int 1]))).write (c3.new n4 _).at_ (.lst (ys++ [.ref T2]++ [.ref T4]))
     have fa6:=((fa4.new n3 (.tup [.int 1])).new n4 (.tup (vs++ [.int 1]))).write (c3.new n4 _).at_ (.lst (ys++ [.ref T2]++ [.ref T4]))
     have g1:=FAt.write (f:=⟨pk,1⟩) (v:=.ref T4) ⟨T4,rfl,by rw [zab,ev1]⟩ (c3.new n4 (.tup (vs++ [.int 1]))).at_ (.lst (ys++ [.ref T2]++ [.ref T4]))
     cases fa5 with
     | cons z _=>
      have z2:=FAll.app fa6 (.cons z (.cons g1 .nil))
      rw [show ys++ [V.ref T2,V.ref T4]=ys++ [.ref T2]++ [.ref T4] by simp] at z2
      exact z2
 ·rintro σ H3 ⟨ys,o2,o3,o4,o5,rfl,b3,fa3⟩
  have e5:(za5 w).take xs.length=za5 w:=by
   rw [b.len]
   show (za5 w).take ((za5 w).map Dat.tuple).length=_
   rw [List.length_map,List.take_length]
  have e6:(zco w).take xs.length=zco w:=by
   rw [b.len]
   show (zco w).take ((za5 w).map Dat.tuple).length=_
   rw [List.length_map,← zeq,List.length_map,List.take_length]
  rw [e6] at fa3
  exact ⟨_,rfl,q f ys H3 (b.same.trans b3.same) (b.same.free hf) b3.at_ fa3⟩
theorem zcO:zax ["works","seen","fault"] ["works"] (zag zbg):=⟨rfl,rfl,rfl,by decide+kernel,rfl,by decide+kernel,by decide+kernel⟩
theorem zfi (T:Txt K mg t):FnOk P w K mg base CX0 5 t.f_seen_of_each t.fd_seen_of_each ["works"] (sp_soe K):=by
 refine T.d_seen_of_each.F.okB zcO (fun vs H Q E h=>?_) (fun cdv A outer s H vs Q E hr h=>?_)
 ·obtain ⟨x,w,rfl,_⟩:=h
  rfl
 obtain ⟨x,w,rfl,hx,wf,q⟩:=h
 have hu1:=zfP hr
 have hu64:=hr.units
 have lf:=zcV wf
 refine ⟨_,(zad (zak (k:=1) zcO.nd rfl (Or.inl rfl) zd3)
  (zad (zaK PassesOwn.never rfl (zaI (zan (zfI T) (hr.mono (by decide)) rfl T.d_every_fault.m T.d_every_fault.F.kp T.d_every_fault.b .nil zaU (zaa (bpv 0) (zac)))) (zaj (k:=2) zcO.nd rfl (Or.inl rfl)) (zah (zgt hu1 (bpv 1) (bpv 2) (zan (zdA T) (hr.mono (by decide)) rfl T.d_outputs_seen.m T.d_outputs_seen.F.kp T.d_outputs_seen.b .nil zaU (zaa (bpv 0) (zaa (zje hu1 (zcP sl_tup (bpv 2) zdI (zcZ (zlP zlQ zae))) (zao zaB (bpv 2) (zlP zlQ zae) (fun _ _=>rfl))) (zac)))) rfl)))
  (zah (zar (bpv 1))))),?_⟩
 refine fun d hd=>?_
 have s0:=zaf hd (.dT [])
 refine ⟨_,rfl,x,w,rfl,hx.mono s0,wf,fun r xs H1 s1 nr er fa=>?_⟩
 have s01:=s0.trans s1
 have lx:=Paired.length fa
 refine ⟨r,rfl,⟨_,.of er⟩,zb0 (K:=K) (a:=r) (xs:=xs)
  (fun i σ H3=>∃ (o2:Option V) (kvs:List (List Key×V)),σ = [some x,some (.ref d),o2]∧Same (hole d H1) H3∧H3 d=some (.dT kvs)∧zd6 H3 w kvs ((allF w).take i))
  ⟨_,[],rfl,(zcx (s1 _ _ zab)).same,s1 _ _ zab,.nil⟩ (fun i σ H3 _ ⟨_,_,_,s3,_⟩=>.of (s3 _ _ (by rw [zaT (fun z=>by rw [z,s1 _ _ zab] at er;cases er)];exact er))) ?_ ?_⟩
 ·rintro i v σ H3 hv ⟨o2,kvs,rfl,s3,e3,sd⟩
  have ed1:=s1 _ _ (zab (H:=H) (a:=d) (o:=.dT []))
  have offd:=zcx ed1
  have sH:=(zdg s01 hd).trans s3
  obtain ⟨f,hf,b,rfl,hb⟩:=zaY fa hv
  have bd:b≠d:=fun z=>by rw [z,ed1] at hb;cases hb
  have hb3:=s3 _ _ (show hole d H1 b=_ by rw [zaT bd];exact hb)
  have li:i < (allF w).length:=(List.getElem?_eq_some_iff.mp hf).1
  have et:(allF w).take (i+1)=(allF w).take i++ [f]:=by rw [List.take_add_one,hf];rfl
  have nf:f∉(allF w).take i:=fun z=>by
   have nd:=zdM w
   rw [← List.take_append_drop (i+1) (allF w),et] at nd
   exact (List.nodup_append.mp (List.nodup_append.mp nd).1).2.2 _ z _ (List.mem_singleton.mpr rfl) rfl
  have gf:=zbM (List.mem_of_getElem? hf)
  refine ⟨_,rfl,fun p hp=>?_⟩
  have k1:=zaf hp (.dT [])
  refine ⟨_,rfl,_,rfl,_,rfl,b,_,rfl,.of (k1 _ _ hb3),zkL _ _,fun T1 h1=>?_⟩
  rw [show (-(1:Int))= -1 from rfl,zkU]
  have k2:=zaf h1 (.tup (f.place.map kV))
  refine ⟨_,rfl,_,rfl,b,_,_,_,rfl,rfl,.of ((k1.trans k2) _ _ hb3),zmz _ _,k2 _ _ zab,T1,f.place,rfl,.inl zab,?_⟩
  have s36:=(k1.trans k2).write hp (.dT [(f.place,.int f.worth)])
  refine ⟨x,p,w,[f],rfl,hx.mono (sH.trans s36),wf,zab,fun g hg=>by rw [List.mem_singleton.mp hg];exact gf.2,(by unfold zgF;simp),by show 1≤1000;decide,fun r2 H7 s7 n7 e7=>?_⟩
  have s37:=s36.trans s7
  have ed7:=s37 _ _ e3
  have nv:=zd6.miss sd nf
  have lk:kvs.length≤400:=by
   have:=Paired.length sd
   rw [List.length_take] at this
   omega
  refine ⟨_,rfl,_,rfl,d,_,rfl,DPut.t (k:=fkK f) ed7 (by rw [zhy];exact s37 _ _ hb3) (big (by omega)),_,_,rfl,(s3.trans s37).write (offd.out d (.head _)) _,zab,?_⟩
  rw [zeR _ nv,et]
  have rd:r2≠d:=fun z=>by rw [z,ed7] at e7;cases e7
  exact zdZ ((sd.mono s37).put ed7 _) ⟨rfl,r2,rfl,by rw [zai rd];exact e7⟩
 ·rintro σ H3 ⟨o2,kvs,rfl,s3,e3,sd⟩
  rw [lx,List.take_length] at sd
  exact ⟨_,rfl,q d kvs H3 ((zdg s01 hd).trans s3) hd e3 sd⟩
theorem zmy:zax ["numbers","others"] ["numbers","others"] (zag zfz):=⟨rfl,rfl,rfl,by decide+kernel,rfl,by decide+kernel,by decide+kernel⟩
theorem zkx (T:Txt K mg t):FnOk P w K mg base CX0 1 t.f_meet t.fd_meet ["numbers","others"] (sp_mt K):=by
 refine T.d_meet.F.okB zmy (fun vs H Q E h=>?_) (fun cdv A outer s H vs Q E hr h=>?_)
 ·obtain ⟨a,b,ns,ts,rfl,_⟩:=h
  rfl
 obtain ⟨a,b,ns,ts,rfl,ha,hb,ln,q⟩:=h
 refine ⟨_,(zah (zar (zaw (zju rfl) rfl T.z_any PyProof.Rows.boot_any (zaa (zaQ rfl (N:=["number","others"]) (n:=1) (cap:=[1]) (zbU rfl rfl) (zaI (bpv 0)) (zaL (by decide)) (fun _ _ _ _=>(zaj (k:=0) (show (["number","others"]:List Str).Nodup by decide+kernel) rfl (Or.inl rfl))) (fun _ _ _ _=>za3) (fun _ _ _ _=>(zcw (zdK (K:=K)) (bpv 0) (bpv 1) rfl))) (zac))))),?_⟩
 refine ⟨_,rfl,a,rfl,⟨_,ha⟩,fun D hD=>zbo (K:=K) (a:=a) (xs:=zaD ns) (fun i H4=>Off [D] H H4∧H4 D=some (.lst (((ns.take i).map fun j=>decide (j∈ts)).map V.bl)))
  ⟨Off.start hD _,zab⟩ (fun i H4 _ ⟨off,_⟩=>off.same.seq ha) ?_ ?_⟩
 ·rintro i v H4 hv ⟨off,eD⟩
  obtain ⟨j,hj,rfl⟩:=zcF hv
  have li:i < ns.length:=(List.getElem?_eq_some_iff.mp hj).1
  refine ⟨_,rfl,_,rfl,b,_,rfl,.inl (off.same.seq hb),rfl,zec ts,?_⟩
  refine ⟨_,eD,big (by rw [List.length_map,List.length_map,List.length_take];omega),off.write (.head _) _,?_⟩
  rw [zab,List.take_add_one,hj,if_neg Bool.false_ne_true,zeV]
  simp
 ·rintro H4 ⟨off,eD⟩
  rw [zaN,List.take_length] at eD
  refine ⟨D,_,rfl,.of eD,?_⟩
  have:=q H4 off.same
  unfold zbt at this
  rw [List.any_map]
  exact this
theorem zgJ:zax ["taken","finding"] ["taken","finding"] (zag zbO):=⟨rfl,rfl,rfl,by decide+kernel,rfl,by decide+kernel,by decide+kernel⟩
theorem zfO (T:Txt K mg t):FnOk P w K mg base CX0 2 t.f_meets_each t.fd_meets_each ["taken","finding"] (sp_meR K):=by
 refine T.d_meets_each.F.okB zgJ (fun vs H Q E h=>?_) (fun cdv A outer s H vs Q E hr h=>?_)
 ·obtain ⟨a,d,ts,kvs,nss,rfl,_⟩:=h
  rfl
 obtain ⟨a,d,ts,kvs,nss,rfl,ha,hd,nd,ln,le,q⟩:=h
 refine ⟨_,(zah (zar (zaw (zgQ rfl) rfl T.z_all PyProof.Rows.boot_all (zaa (zaQ rfl (N:=["numbers","taken"]) (n:=1) (cap:=[0]) (zbU rfl rfl) (zlh (bpv 1)) (zaL (by decide)) (fun _ _ _ _=>(zaj (k:=0) (show (["numbers","taken"]:List Str).Nodup by decide+kernel) rfl (Or.inl rfl))) (fun _ _ _ _=>za3) (fun _ _ _ _=>(zan (zkx T) (hr.mono (by decide)) rfl T.d_meet.m T.d_meet.F.kp T.d_meet.b .nil zaU (zaa (bpv 0) (zaa (bpv 1) (zac)))))) (zac))))),?_⟩
 have lk:=Paired.length nd
 have sh:=zcx hd
 refine ⟨_,rfl,d,kvs,rfl,hd,fun ob D hD=>?_⟩
 have s1:Same (hole d H) (upd H d (.frz ob (.dT kvs))):=sh.same.write (sh.out d (.head _)) _
 have ed1:=zab (H:=H) (a:=d) (o:=.frz ob (.dT kvs))
 have nd1:zk3 (hole d H) kvs nss:=Paired.mapP nd fun _ _ ⟨l,b,c⟩=>⟨l,b,by rw [zaT (fun z=>by rw [z,hd] at c;cases c)];exact c⟩
 have ha1:SqL K (hole d H) a (zaD ts):=ze4 ha hd
 generalize upd H d (.frz ob (.dT kvs))=H1 at s1 ed1 hD
 have Dd:d≠D:=zal ed1 hD
 refine zkC (d:=d) (ob:=ob) (kvs:=kvs) (fun i H4=>Off [D] (hole d H) H4∧H4 d=some (.frz ob (.dT kvs))∧H4 D=some (.lst (((nss.take i).map fun ns=>zbt ns ts).map V.bl)))
  ⟨⟨s1.upd hD _,fun m hm=>by rw [List.mem_singleton.mp hm];exact s1.free hD,fun m hm=>by rw [List.mem_singleton.mp hm];exact ⟨_,zab⟩⟩,zaf hD _ _ _ ed1,zab⟩ (fun i H4 _ ⟨_,e,_⟩=>e) ?_ ?_
 ·rintro i p H4 hp ⟨off,ed,eD⟩
  obtain ⟨ns,hns,l,el,hl⟩:=zaY nd1 hp
  have li:i < nss.length:=(List.getElem?_eq_some_iff.mp hns).1
  rw [el]
  refine ⟨_,rfl,_,rfl,l,a,ns,ts,rfl,.of (off.same _ _ hl),off.same.seq ha1,le ns (List.mem_of_getElem? hns),fun H5 s5=>?_⟩
  refine ⟨_,s5 _ _ eD,big (by rw [List.length_map,List.length_map,List.length_take];omega),(off.grow s5).write (.head _) _,by rw [zai Dd];exact s5 _ _ ed,?_⟩
  rw [zab,List.take_add_one,hns]
  simp
 ·rintro H4 ⟨off,ed,eD⟩
  rw [lk,List.take_length] at eD
  refine ⟨D,_,rfl,.of eD,?_⟩
  have:=q ob H4 off.same ed
  rw [List.all_map]
  exact this
theorem zge (T:Txt K mg t):FnOk P w K mg base CX0 2 t.f_meets_each t.fd_meets_each ["taken","finding"] (sp_me K):=by
 refine (zfO T).thaw.imp fun vs H Q E h=>?_
 obtain ⟨a,d,ts,kvs,nss,rfl,ha,hd,nd,ln,le,q⟩:=h
 refine ⟨a,d,ts,kvs,nss,rfl,ha,hd,nd,ln,le,fun ob H' s e=>⟨d,ob,_,_,hd,e,q _ fun b o hb=>?_⟩⟩
 by_cases z:b=d
 ·rw [z,hd] at hb
  cases hb
  rw [z]
  exact zab
 ·rw [zai z]
  exact s _ _ (by rw [zaT z];exact hb)
theorem zbr:zax ["works","right","finding","fault","seen","numbers"] ["works"] (zag zbb):=⟨rfl,rfl,rfl,by decide+kernel,rfl,by decide+kernel,by decide+kernel⟩
theorem zdv (T:Txt K mg t):FnOk P w K mg base CX0 6 t.f_finding_rows t.fd_finding_rows ["works"] (sp_fr K):=by
 refine T.d_finding_rows.F.okB zbr (fun vs H Q E h=>?_) (fun cdv A outer s H vs Q E hr h=>?_)
 ·obtain ⟨x,w,rfl,_⟩:=h
  rfl
 obtain ⟨x,w,rfl,hx,wf,q⟩:=h
 have hu1:=zfP hr
 have hu64:=hr.units
 have lf:=zcV wf
 refine ⟨_,(zad (zak (k:=1) zbr.nd rfl (Or.inl rfl) (zan (zdA T) (hr.mono (by decide)) rfl T.d_outputs_seen.m T.d_outputs_seen.F.kp T.d_outputs_seen.b .nil zaU (zaa (bpv 0) (zaa zd3 (zac)))))
  (zad (zak (k:=2) zbr.nd rfl (Or.inl rfl) zd3)
  (zad (zaK PassesOwn.never rfl (zhb (zan (zfi T) (hr.mono (by decide)) rfl T.d_seen_of_each.m T.d_seen_of_each.F.kp T.d_seen_of_each.b .nil zaU (zaa (bpv 0) (zac)))) (zdi rfl (zaz (zaj (k:=3) zbr.nd rfl (Or.inl rfl)) (zaz (zaj (k:=4) zbr.nd rfl (Or.inl rfl)) zbW))) (zad (zak (k:=5) zbr.nd rfl (Or.inl rfl) (zan (zeC T) (hr.mono (by decide)) rfl T.d_unlike_numbers.m T.d_unlike_numbers.F.kp T.d_unlike_numbers.b .nil zaU (zaa (bpv 4) (zaa (bpv 1) (zac)))))
  (zah (zaW (zas op_gt (zaw zau rfl T.z_len PySem.boot_len (zaa (bpv 5) (zac))) zae (zaF _)) (zah (zgt hu1 (bpv 2) (bpv 3) (bpv 5) rfl)) zaA))))
  (zah (zar (bpv 2)))))),?_⟩
 refine ⟨_,rfl,fun e0 he0=>?_⟩
 have s0:=zaf he0 (.dT [])
 refine ⟨x,e0,w,[],rfl,hx.mono s0,wf,zab,(fun f hf=>nomatch hf),(by unfold zgF;simp),by show 0≤1000;decide,fun rt H1 s1 nrt ert=>?_⟩
 have s01:=s0.trans s1
 refine fun fd hfd=>?_
 have k2:=zaf hfd (.dT [])
 have s02:=s01.trans k2
 refine ⟨_,rfl,x,w,rfl,hx.mono s02,wf,fun d kvS H2 s2 nd ed sd=>?_⟩
 refine ⟨d,kvS,rfl,ed,fun ob=>?_⟩
 have ef2:=s2 _ _ (zab (H:=H1) (a:=fd) (o:=.dT []))
 have ert2:=s2 _ _ (k2 _ _ ert)
 have fd_d:=zal (zab (H:=H1) (a:=fd) (o:=.dT [])) nd
 have drt:d≠rt:=fun z=>by rw [z,ert2] at ed;cases ed
 have ed3:=zab (H:=H2) (a:=d) (o:=.frz ob (.dT kvS))
 have ef3:(upd H2 d (.frz ob (.dT kvS))) fd=some (.dT []):=by rw [zai fd_d];exact ef2
 have ert3:(upd H2 d (.frz ob (.dT kvS))) rt=some (.lst ((zcu w []).map V.int)):=by rw [zai (Ne.symm drt)];exact ert2
 have sd3:zd6 (upd H2 d (.frz ob (.dT kvS))) w kvS (allF w):=sd.put ed _
 have s03:Same H (upd H2 d (.frz ob (.dT kvS))):=fun b o e=>by
  rw [zai (fun z=>by rw [z] at e;have:=s02 _ _ e;rw [nd] at this;cases this)]
  exact s2 _ _ (s02 _ _ e)
 have hf0:=s01.free hfd
 generalize upd H2 d (.frz ob (.dT kvS))=H3 at ed3 ef3 ert3 sd3 s03 ⊢
 have off:=zcx ef3
 have out:∀ {c:Addr} {o:HO},H3 c=some o→(∀ k,o≠.dT k)→hole fd H3 c=some o:=fun {c o} e n=>by
  rw [zaT (fun z=>by rw [z,ef3] at e;exact n _ (Option.some.inj e).symm)]
  exact e
 have grt:=out ert3 (fun _ z=>by cases z)
 have ged:=out ed3 (fun _ z=>by cases z)
 have sG:Same H (hole fd H3):=zdg s03 hf0
 have sdG:zd6 (hole fd H3) w kvS (allF w):=Paired.mapP sd3 fun _ _ ⟨a,l,b,c⟩=>⟨a,l,b,out c (fun _ z=>by cases z)⟩
 have lkS:=Paired.length sd3
 generalize hole fd H3=G1 at off grt ged sG sdG
 refine zjB (d:=d) (ob:=ob) (kvs:=kvS) (fun i σ H4=>∃ (o3 o4 o5:Option V) (kvs:List (List Key×V)),σ = [some x,some (.ref rt),some (.ref fd),o3,o4,o5]∧Off [fd] G1 H4∧H4 fd=some (.dT kvs)∧zbJ H4 w kvs (((allF w).take i).filter fun f=>decide (zaM w f≠[])))
  ⟨_,_,_,[],rfl,off,ef3,.nil⟩ (fun i σ H4 _ ⟨_,_,_,_,_,o,_⟩=>o.same _ _ ged) ?_ ?_
 ·rintro i b p σ H4 T1 hp ⟨o3,o4,o5,kvs,rfl,of4,ef4,fd4⟩ hT hb
  obtain ⟨f,hf,ep,l,el,hl⟩:=zaY sdG hp
  have li:i < (allF w).length:=(List.getElem?_eq_some_iff.mp hf).1
  have et:(allF w).take (i+1)=(allF w).take i++ [f]:=by rw [List.take_add_one,hf];rfl
  have gf:=zbM (List.mem_of_getElem? hf)
  have fb1:∀ h∈[f],h.worth=0∨h.worth=1:=fun h hh=>by rw [List.mem_singleton.mp hh];exact gf.2
  rw [ep,zhy] at hb
  rw [el]
  have kT:=zaf hT (.tup [.ref b,.ref l])
  refine ⟨T1,_,rfl,.of zab,rfl,_,_,rfl,_,_,rfl,rfl,?_⟩
  obtain ⟨f1,f2,f3⟩:=zer fb1 wf
  obtain ⟨g1,g2,g3⟩:=zer (fs:=[]) (fun f hf=>nomatch hf) wf
  have o3':=wf.o3
  have h64:=pow6 (n:=w.ins.toNat) (by have:=wf.i6;omega)
  refine ⟨_,rfl,_,rfl,l,rt,zcu w [f],zcu w [],2 ^ w.ins.toNat,rfl,kT _ _ (of4.same _ _ hl),kT _ _ (of4.same _ _ grt),f2.trans g2.symm,by omega,h64,f1,g1,fun r H5 s5 n5 e5=>?_⟩
  have s45:=kT.trans s5
  refine ⟨_,rfl,r,_,rfl,.inl (.of e5),_,_,rfl,rfl,?_⟩
  have en:((ziB (zcS (zcu w [f]) (zcu w []))).map fun j:Nat=>V.int (j:Int)).length=(zaM w f).length:=by rw [List.length_map];rfl
  have off5:=of4.grow s45
  have ef5:=s45 _ _ ef4
  have lk:kvs.length≤400:=by
   have:=Paired.length fd4
   have h2:=List.length_filter_le (fun f=>decide (zaM w f≠[])) ((allF w).take i)
   rw [List.length_take] at h2
   omega
  have nf:f∉((allF w).take i).filter fun f=>decide (zaM w f≠[]):=fun z=>by
   have z:=(List.mem_filter.mp z).1
   have nd:=zdM w
   rw [← List.take_append_drop (i+1) (allF w),et] at nd
   exact (List.nodup_append.mp (List.nodup_append.mp nd).1).2.2 _ z _ (List.mem_singleton.mpr rfl) rfl
  refine ⟨_,rfl,ite2 (fun c=>?_) (fun c=>?_)⟩
  ·have c':(0:Int) < ((ziB (zcS (zcu w [f]) (zcu w []))).map fun j:Nat=>V.int (j:Int)).length:=of_decide_eq_true c
   have ne:zaM w f≠[]:=fun z=>by rw [en,z] at c';simp at c'
   have nv:=zbJ.miss fd4 nf
   have rd:r≠fd:=fun z=>by rw [z,ef5] at e5;cases e5
   refine ⟨_,rfl,_,rfl,_,rfl,fd,_,rfl,DPut.r (k:=fkK f) ef5 (by rw [zhy];exact hb.same s45) (big (by omega)),_,_,_,_,rfl,off5.write (.head _) _,zab,?_⟩
   rw [zeR _ nv,et,List.filter_append,List.filter_cons_of_pos (by simpa using ne)]
   exact zdZ ((fd4.mono s45).put ef5 _) ⟨rfl,r,rfl,by rw [zai rd];exact e5⟩
  ·have c':¬(0:Int) < ((ziB (zcS (zcu w [f]) (zcu w []))).map fun j:Nat=>V.int (j:Int)).length:=fun z=>c (decide_eq_true z)
   have ne:zaM w f= []:=by
    rw [en] at c'
    exact List.length_eq_zero_iff.mp (by omega)
   refine ⟨_,_,_,kvs,rfl,off5,ef5,?_⟩
   rw [et,List.filter_append,List.filter_cons_of_neg (by simp [ne]),List.filter_nil,List.append_nil]
   exact fd4.mono s45
 ·rintro σ H4 ⟨o3,o4,o5,kvs,rfl,of4,ef4,fd4⟩
  rw [lkS,List.take_length] at fd4
  exact ⟨_,rfl,q fd kvs H4 (sG.trans of4.same) hf0 ef4 fd4⟩
theorem zdz:zax ["works","rows","row","taken"] ["works","rows"] (zag zcb):=⟨rfl,rfl,rfl,by decide+kernel,rfl,by decide+kernel,by decide+kernel⟩
theorem zhm (T:Txt K mg t):FnOk P w K mg base CX0 7 t.f_finds_all t.fd_finds_all ["works","rows"] (sp_fa K):=by
 refine T.d_finds_all.F.okB zdz (fun vs H Q E h=>?_) (fun cdv A outer s H vs Q E hr h=>?_)
 ·obtain ⟨x,y,w,rs,rfl,_⟩:=h
  rfl
 obtain ⟨x,y,w,rs,rfl,hx,wf,hy,rows,lr,q⟩:=h
 have hu64:=hr.units
 have lf:=zcV wf
 obtain ⟨a,ga,oa,gs,os,rfl,ha,hg,ho,rg,ro⟩:=zcl hx
 have i1:=wf.i1
 have i6:=wf.i6
 refine ⟨_,(zad (zaK PassesOwn.never rfl (zaI (bpv 1)) (zaj (k:=2) zdz.nd rfl (Or.inl rfl)) (zah (zbl (zan (zhk T) (hr.mono (by decide)) rfl T.d_check_row.m T.d_check_row.F.kp T.d_check_row.b .nil zaU (zaa (bpv 0) (zaa (bpv 2) (zac)))))))
  (zad (zgj (k:=3) rfl (N:=["number","row","rows"]) (n:=2) (cap:=[1]) (zbU rfl rfl) zdz.nd rfl rfl (zea rfl T.z_enumerate (zaa (zan (zgV T) (hr.mono (by decide)) rfl T.d_every_row.m T.d_every_row.F.kp T.d_every_row.b .nil zaU (zaa (bpv 0) (zac))) (zac))) (zd9 (by decide) (by decide)) (fun _ _ _ _=>(zeT (K:=K) (n:=2) rfl (zaz (zaj (k:=0) (show (["number","row","rows"]:List Str).Nodup by decide+kernel) rfl (Or.inl rfl)) (zaz (zaj (k:=1) (show (["number","row","rows"]:List Str).Nodup by decide+kernel) rfl (Or.inl rfl)) zbW)))) (fun _ _ _ _=>(zem (zas (zml (K:=K) hu64) (bpv 1) (bpv 2) rfl))) (fun _ _ _ _=>(bpv 0)) rfl)
  (zah (zar (zan (zge T) (hr.mono (by decide)) rfl T.d_meets_each.m T.d_meets_each.F.kp T.d_meets_each.b .nil zaU (zaa (bpv 3) (zaa (zan (zdv T) (hr.mono (by decide)) rfl T.d_finding_rows.m T.d_finding_rows.F.kp T.d_finding_rows.b .nil zaU (zaa (bpv 0) (zac))) (zac)))))))),?_⟩
 cases hy with
 | @lst ra xs _ hq rq=>
 have lxs:xs.length=rs.length:=by rw [rq.length,List.length_map]
 refine ⟨_,rfl,ra,rfl,⟨_,hq⟩,zb0 (K:=K) (a:=ra) (xs:=xs) (fun i σ H3=>∃ (o2 o3:Option V),σ = [some (.ref a),some (.ref ra),o2,o3]∧Same H H3)
  ⟨_,_,rfl,Same.refl _⟩ (fun i σ H3 _ ⟨_,_,_,s3⟩=>s3.seq hq) ?_ ?_⟩
 ·rintro i v σ H3 hv ⟨o2,o3,rfl,s3⟩
  obtain ⟨dd,hdd,rv⟩:=rq.get hv
  rw [List.getElem?_map] at hdd
  cases hz:rs[i]? with
  | none=>rw [hz] at hdd;cases hdd
  | some row=>
   rw [hz] at hdd
   cases hdd
   obtain ⟨l1,b1⟩:=rows row (List.mem_of_getElem? hz)
   cases rv with
   | @lst rb ys _ hq2 rq2=>
    have e:=zd5 rq2
    subst e
    refine ⟨_,rfl,_,rfl,a,ga,oa,rb,w.ins,row,rfl,s3.seqT ha,s3.seq hq2,l1,b1,by omega,fun H4 s4=>⟨_,_,rfl,s3.trans s4⟩⟩
 ·rintro σ H3 ⟨o2,o3,rfl,s3⟩
  have many:=zaZ w.ins.toNat
  have h64:=pow6 (n:=w.ins.toNat) (by omega)
  refine ⟨_,rfl,a,ga,oa,w.ins,rfl,s3.seqT ha,by omega,i6,fun R qs H4 r4=>?_⟩
  have lq:=r4.rows.len
  have s4:=s3.trans r4.same
  have oks:∀ e∈rs.map rowD,kqdOk 8 e=true:=fun e he=>by
   obtain ⟨row,_,rfl⟩:=List.mem_map.mp he
   exact za9 row
  refine ⟨R,rfl,⟨_,.of r4.at_⟩,fun D hD=>ze7 (K:=K) (a:=R) (xs:=qs.map V.ref) (fun i H5=>Off [D] H4 H5∧H5 D=some (.lst (zaD ((List.range i).filter fun j=>decide ((zaX w.ins.toNat).getD j []∈rs)))))
   ⟨Off.start hD _,zab⟩ (fun i H5 _ ⟨off,_⟩=>.of (off.same _ _ r4.at_)) ?_ ?_⟩
  ·rintro i v H5 T1 hv ⟨off,eD⟩ hT
   rw [List.getElem?_map] at hv
   cases hz:qs[i]? with
   | none=>rw [hz] at hv;cases hv
   | some qq=>
    rw [hz] at hv
    cases hv
    obtain ⟨row,hrow,eq⟩:=r4.rows.get hz
    have li:i < qs.length:=(List.getElem?_eq_some_iff.mp hz).1
    have eg:(zaX w.ins.toNat).getD i []=row:=by rw [List.getD_eq_getElem?_getD,hrow];rfl
    have kT:=zaf hT (.tup [.int i,.ref qq])
    have off6:=off.grow kT
    have eD6:=kT _ _ eD
    have inj:rowD row∈rs.map rowD↔row∈rs:=⟨fun h=>by
     obtain ⟨r',hr',e⟩:=List.mem_map.mp h
     unfold rowD at e
     rw [← List.map_inj_right (fun x y e=>Dat.int.inj e) |>.mp (Dat.list.inj e)]
     exact hr',fun h=>List.mem_map.mpr ⟨row,h,rfl⟩⟩
    refine ⟨T1,_,rfl,.of zab,rfl,_,_,rfl,_,_,rfl,rfl,?_⟩
    refine ⟨_,rfl,_,rfl,rowD row,rs.map rowD,.lst (.of (off6.same _ _ eq)) (Reps.ints _),(Rep.lst hq rq).mono (s4.trans off6.same),za9 row,oks,fun hin=>⟨_,rfl,iteT ⟨_,rfl,_,eD6,?_,off6.write (.head _) _,?_⟩⟩,fun hno=>⟨_,rfl,iteF ⟨off6,?_⟩⟩⟩
    ·rw [zaN]
     have:=List.length_filter_le (fun j=>decide ((zaX w.ins.toNat).getD j []∈rs)) (List.range i)
     rw [List.length_range] at this
     exact big (by omega)
    ·rw [zab,List.range_succ,List.filter_append,List.filter_cons_of_pos (by rw [eg];exact decide_eq_true (inj.mp hin))]
     unfold zaD
     rw [List.map_append]
     rfl
    ·rw [eD6,List.range_succ,List.filter_append,List.filter_cons_of_neg (by rw [eg];simpa using fun h=>hno (inj.mpr h)),List.filter_nil,List.append_nil]
  rintro H5 ⟨off,eD⟩
  have s5:=s4.trans off.same
  refine ⟨_,rfl,_,rfl,.ref a,w,rfl,hx.mono s5,wf,fun d kvs H6 s6 nd ed fd=>?_⟩
  have e1:((List.range (qs.map V.ref).length).filter fun j=>decide ((zaX w.ins.toNat).getD j []∈rs))=zeM w.ins.toNat rs:=by
   unfold zeM
   rw [List.length_map,lq]
  rw [e1] at eD
  have lfo:(zck w).length≤400:=by
   have:=List.length_filter_le (fun f=>decide (zaM w f≠[])) (allF w)
   unfold zck
   omega
  refine ⟨D,d,zeM w.ins.toNat rs,kvs,(zck w).map (zaM w),rfl,.of (s6 _ _ eD),ed,fd.nums,by rw [List.length_map];omega,fun ns hns=>?_,fun H7 s7=>?_⟩
  ·obtain ⟨f,hf,rfl⟩:=List.mem_map.mp hns
   exact zgu (zbM (List.mem_filter.mp hf).1) wf
  ·have:=q H7 ((s5.trans s6).trans s7)
   rw [List.all_map]
   exact this
theorem zaV:zax ["cell","many","top","found","rest","k","stir"] ["cell","many","top"] (zag zbQ):=⟨rfl,rfl,rfl,by decide+kernel,rfl,by decide+kernel,by decide+kernel⟩
theorem zcJ (T:Txt K mg t):FnOk P w K mg base CX0 1 t.f_law_digits t.fd_law_digits ["cell","many","top"] sp_dg:=by
 refine T.d_law_digits.F.okB zaV (fun vs H Q E h=>?_) (fun cdv A outer s H vs Q E hr h=>?_)
 ·obtain ⟨c,many,b,rfl,_⟩:=h
  rfl
 obtain ⟨c,many,b,rfl,hm,b0,b1,q⟩:=h
 refine ⟨_,(zad (zak (k:=3) zaV.nd rfl (Or.inl rfl) (zay zac))
  (zad (zak (k:=4) zaV.nd rfl (Or.inl rfl) (bpv 0))
  (zad (zaK PassesOwn.never rfl (zaO rfl T.z_range (zaa (bpv 1) (zac))) (zaj (k:=5) zaV.nd rfl (Or.inl rfl)) (zad (zak (k:=6) zaV.nd rfl (Or.inl rfl) (zam zcd (zam zgX (zam zcj (zam zcj (bpv 0) (zam zgX zae (bpv 5))) zae) zae) zae))
  (zad (zak (k:=6) zaV.nd rfl (Or.inl rfl) (zam zcd (zam zfb (bpv 6) (bpv 6)) zae))
  (zad (zak (k:=6) zaV.nd rfl (Or.inl rfl) (zam zh4 (zam zcd (zam zgX (zam zcj (bpv 6) (zam zgX zae (zam zcj (bpv 5) zae))) zae) zae) zae))
  (zad (zaW (zas op_ge (bpv 0) (zam zks zae zae) (zaF _)) (zah (zak (k:=6) zaV.nd rfl (Or.inl rfl) (bpv 4))) zaA)
  (zad (zbl (zdq PySem.F.plainAttrs_list PySem.F.slot_list_append PySem.F.type_list_append zbn (bpv 3) (zaa (zam zcd (bpv 6) (bpv 2)) (zac))))
  (zah (zak (k:=4) zaV.nd rfl (Or.inl rfl) (zam zh4 (bpv 4) (bpv 2))))))))))
  (zah (zar (bpv 3)))))),?_⟩
 have pw:∀ i j:Int,i.natAbs < 2 ^ 64→0≤j→j≤1000000→CPow i j:=fun i j a b c=>⟨b,c,a⟩
 refine ⟨(by show 0≤sizeLine;decide),fun R hR=>?_⟩
 refine ⟨_,rfl,_,rfl,_,rfl,by omega,by omega,zcC (fun j σ H2=>∃ (rest:Int) (o5 o6:Option V) (row:List Int),σ = [some (.int c),some (.int many),some (.int b),some (.ref R),some (.int rest),o5,o6]∧row.length=j∧(∀ z∈row,0≤z∧z < b)∧Same H H2∧H2 R=some (.lst (row.map V.int)))
  ⟨_,_,_,[],rfl,rfl,(fun _ z=>nomatch z),zaf hR _,zab⟩ ?_ ?_⟩
 ·rintro j σ H2 hj ⟨rest,o5,o6,row,rfl,lr,br,s2,eR⟩
  rw [Int.zero_add]
  have j100:j < many:=by omega
  have last:∀ (st:Int),(∀ z∈row++ [st % b],0≤z∧z < b):=fun st z hz=>by
   rcases List.mem_append.mp hz with hz | hz
   ·exact br z hz
   ·rw [List.mem_singleton.mp hz]
    exact ⟨Int.emod_nonneg _ (by omega),Int.emod_lt_of_pos _ b0⟩
  refine ⟨_,rfl,_,rfl,_,_,rfl,rfl,.inl ⟨by decide,by decide⟩,_,_,rfl,rfl,_,_,rfl,rfl,_,_,rfl,rfl,.inr ⟨by decide,by decide⟩,_,_,rfl,rfl,(by show (0:Int) < 2147483647;decide),?_⟩
  have bs1:Builtin.Int.intBits (zll c j)≤2 ^ 20:=bits40 (by unfold zll;omega)
  refine ⟨_,rfl,_,rfl,_,_,rfl,rfl,⟨bs1,bs1⟩,_,_,rfl,rfl,(by show (0:Int) < 2147483629;decide),?_⟩
  refine ⟨_,rfl,_,rfl,_,_,rfl,rfl,_,_,rfl,rfl,.inl ⟨by decide,by decide⟩,_,_,rfl,rfl,_,_,rfl,rfl,.inr ⟨by decide,by decide⟩,_,_,rfl,rfl,(by show (0:Int) < 2147483423;decide),_,_,rfl,rfl,⟨by decide,by decide⟩,?_⟩
  refine' joinV (C:=fun v=>∃ st:Int,v= .int st) (st:=fun v=>[some (.int c),some (.int many),some (.int b),some (.ref R),some (.int rest),some (.int j),some v]) (H:=H2) (fun rest'=>_) _
  rotate_left
  ·refine ⟨_,rfl,_,_,rfl,rfl,pw _ _ (by decide) (by decide) (by decide),_,_,rfl,rfl,_,rfl,ite2 (fun _=>?_) (fun _=>rest' (.int (stirB c j)) ⟨_,rfl⟩)⟩
   exact ⟨_,rfl,rest' (.int rest) ⟨_,rfl⟩⟩
  ·rintro _ ⟨st,rfl⟩
   refine ⟨_,rfl,.inl ⟨rfl,_,.of eR⟩,_,rfl,_,rfl,_,_,rfl,rfl,b0,R,_,_,rfl,rfl,eR,big (by rw [List.length_map];omega),?_⟩
   refine ⟨_,rfl,_,rfl,_,_,rfl,rfl,⟨b0,by omega⟩,?_⟩
   exact ⟨_,_,_,row++ [st % b],rfl,by simp [lr],last st,s2.write hR _,by rw [zab,List.map_append];rfl⟩
 ·rintro σ H2 ⟨rest,o5,o6,row,rfl,lr,br,s2,eR⟩
  exact ⟨_,rfl,q R row H2 s2 hR eR (by omega) br⟩
theorem zcT:zax ["cell","wires","xs","kind","many","span"] ["cell","wires"] (zag zct):=⟨rfl,rfl,rfl,by decide+kernel,rfl,by decide+kernel,by decide+kernel⟩
theorem zht (T:Txt K mg t):FnOk P w K mg base CX0 2 t.f_law_gate t.fd_law_gate ["cell","wires"] sp_gt:=by
 refine T.d_law_gate.F.okB zcT (fun vs H Q E h=>?_) (fun cdv A outer s H vs Q E hr h=>?_)
 ·obtain ⟨c,wires,rfl,_⟩:=h
  rfl
 obtain ⟨c,wires,rfl,w1,w2,q⟩:=h
 have hu1:=zfP hr
 refine ⟨_,(zad (zak (k:=2) zcT.nd rfl (Or.inr rfl) (zan (zcJ T) (hr.mono (by decide)) rfl T.d_law_digits.m T.d_law_digits.F.kp T.d_law_digits.b .nil zaU (zaa (bpv 0) (zaa zae (zaa zae (zac))))))
  (zad (zak (k:=3) zcT.nd rfl (Or.inl rfl) (zao zaH (zay (zaa zav (zaa zav (zaa zav (zaa zav (zaa zav (zaa zav (zaa zav (zaa zav (zaa zav (zaa zav (zac)))))))))))) (zam zcd (zao zaH (bpv 2) zae (fun _ _=>rfl)) zae) (fun _ _=>rfl)))
  (zad (zak (k:=4) zcT.nd rfl (Or.inl rfl) (zds hu1 (zkZ (zen zav zae (zen zav zae (zen zav zae (zen zav zae zk5)))) rfl rfl (by simp) (by decide)) (bpv 3) (zao zaH (zay (zaa zae (zaa zae (zaa zae (zaa zae (zac)))))) (zam zcd (zam zdt (zao zaH (bpv 2) zae (fun _ _=>rfl)) zae) zae) (fun _ _=>rfl)) ⟨rfl,rfl,rfl,rfl⟩))
  (zad (zak (k:=5) zcT.nd rfl (Or.inr rfl) (zao zaH (zay (zaa (bpv 1) (zaa (zaw (zjq rfl) rfl T.z_min PyProof.Rows.boot_min (zaa (bpv 1) (zaa zae (zac)))) (zac)))) (zam zcd (zam zdt (zao zaH (bpv 2) zae (fun _ _=>rfl)) zae) zae) (fun _ _=>rfl)))
  (zah (zar (zaJ (zaa (bpv 3) (zaa (zce zgg rfl T.z_tuple PyProof.Rows.boot_tuple (zaa (zaQ rfl (N:=["p","wires","span","xs"]) (n:=1) (cap:=[1,5,2]) (zbU rfl rfl) (zaO rfl T.z_range (zaa (bpv 4) (zac))) (zaL (by decide)) (fun _ _ _ _=>(zaj (k:=0) (show (["p","wires","span","xs"]:List Str).Nodup by decide+kernel) rfl (Or.inl rfl))) (fun _ _ _ _=>za3) (fun _ _ _ _=>(zam zdC (zam zdC (bpv 1) zae) (zam zcd (zao (zcU (K:=K)) (bpv 3) (zam zcj zae (bpv 0)) (fun _ _=>rfl)) (bpv 2))))) (zac))) (zac)))))))))),?_⟩
 refine ⟨_,rfl,c,6,720720,rfl,by decide,by decide,by decide,fun R row H1 s1 nR eR lr br=>?_⟩
 have b0:∀ i:Nat,0≤row.getD i 0:=fun i=>by
  rw [List.getD_eq_getElem?_getD]
  cases e:row[i]? with
  | none=>exact Int.le_refl 0
  | some z=>exact (br z (List.mem_of_getElem? e)).1
 have atR:∀ (i:Nat),i < 6→atI (row.map V.int) (i:Int)=some (.int (row.getD i 0)):=fun i hi=>by
  have:=zbT (ns:=row) (i:=(i:Int)) (by omega) (by omega)
  simpa using this
 refine ⟨(by show 10≤sizeLine;decide),fun Kd hK=>?_⟩
 have k2:=zaf hK (.lst [.str "and",.str "or",.str "and",.str "or",.str "odd",.str "not",.str "choose",.str "odd",.str "zero",.str "one"])
 have eK:(upd H1 Kd (.lst [.str "and",.str "or",.str "and",.str "or",.str "odd",.str "not",.str "choose",.str "odd",.str "zero",.str "one"])) Kd=some (.lst [.str "and",.str "or",.str "and",.str "or",.str "odd",.str "not",.str "choose",.str "odd",.str "zero",.str "one"]):=zab
 generalize upd H1 Kd (.lst [.str "and",.str "or",.str "and",.str "or",.str "odd",.str "not",.str "choose",.str "odd",.str "zero",.str "one"])=H2 at k2 eK
 have r0:=b0 0
 obtain ⟨x,hx,kx⟩:=kindsD (c:=row.getD 0 0 % 10) (by omega) (by omega)
 have eR2:=k2 _ _ eR
 refine ⟨_,rfl,R,_,_,_,rfl,rfl,.of eR2,atR 0 (by decide),_,_,rfl,rfl,(by show (0:Int) < 10;decide),Kd,_,_,_,rfl,rfl,.of eK,hx,?_⟩
 refine fun p hp=>?_
 have k3:=zaf hp (.dK [])
 have eR3:=k3 _ _ eR2
 refine ⟨zab,[(Sum.inr "not",.int 1),(Sum.inr "choose",.int 3),(Sum.inr "zero",.int 0),(Sum.inr "one",.int 0)],rfl,(by decide),p,rfl,.inl ⟨_,.inl zab⟩,_,rfl,?_⟩
 have eR4:(upd (upd H2 p (.dK [])) p (.dK (zdS [] [(Sum.inr "not",.int 1),(Sum.inr "choose",.int 3),(Sum.inr "zero",.int 0),(Sum.inr "one",.int 0)]))) R=some (.lst (row.map V.int)):=by
  rw [zai (zal eR2 hp)];exact eR3
 have ed4:=zab (H:=upd H2 p (.dK [])) (a:=p) (o:=.dK (zdS [] [(Sum.inr "not",.int 1),(Sum.inr "choose",.int 3),(Sum.inr "zero",.int 0),(Sum.inr "one",.int 0)]))
 have s4:=((s1.trans k2).trans k3).write ((s1.trans k2).free hp) (.dK (zdS [] [(Sum.inr "not",.int 1),(Sum.inr "choose",.int 3),(Sum.inr "zero",.int 0),(Sum.inr "one",.int 0)]))
 generalize upd (upd H2 p (.dK [])) p (.dK (zdS [] [(Sum.inr "not",.int 1),(Sum.inr "choose",.int 3),(Sum.inr "zero",.int 0),(Sum.inr "one",.int 0)]))=H4 at eR4 ed4 s4
 obtain ⟨m0,em0,m2,m4⟩:∃ m0:Int,atI [V.int 2,.int 2,.int 3,.int 4] (row.getD 0 0 / 10 % 4)=some (.int m0)∧2≤m0∧m0≤4:=by
  have h5:row.getD 0 0 / 10 % 4=0∨row.getD 0 0 / 10 % 4=1∨row.getD 0 0 / 10 % 4=2∨row.getD 0 0 / 10 % 4=3:=by omega
  rcases h5 with e | e | e | e <;> rw [e]
  ·exact ⟨2,rfl,by decide,by decide⟩
  ·exact ⟨2,rfl,by decide,by decide⟩
  ·exact ⟨3,rfl,by decide,by decide⟩
  ·exact ⟨4,rfl,by decide,by decide⟩
 refine ⟨(by show 4≤sizeLine;decide),fun L hL=>?_⟩
 have k5:=zaf hL (.lst [.int 2,.int 2,.int 3,.int 4])
 obtain ⟨n,en,lk⟩:=manyD kx ⟨m2,m4⟩
 refine ⟨_,rfl,R,_,_,_,rfl,rfl,.of (k5 _ _ eR4),atR 0 (by decide),_,_,rfl,rfl,⟨by decide,by decide⟩,_,_,rfl,rfl,(by show (0:Int) < 4;decide),L,_,_,_,rfl,rfl,.of zab,em0,_,DGet.k (k:=Sum.inr x) (k5 _ _ ed4),?_⟩
 rw [en]
 have s5:=s4.trans k5
 have eR5:=k5 _ _ eR4
 generalize upd H4 L (.lst [.int 2,.int 2,.int 3,.int 4])=H5 at s5 eR5
 have n4:=lk.le
 refine ⟨_,rfl,_,rfl,_,_,rfl,(by show 2≤sizeLine;decide),fun L2 hL2=>?_⟩
 have k6:=zaf hL2 (.lst [.int wires,.int (if (3:Int) < wires then 3 else wires)])
 obtain ⟨sp,esp,sp1,sp2⟩:∃ sp:Int,atI [V.int wires,.int (if (3:Int) < wires then 3 else wires)] (row.getD 0 0 / 50 % 2)=some (.int sp)∧1≤sp∧sp≤wires:=by
  have h5:row.getD 0 0 / 50 % 2=0∨row.getD 0 0 / 50 % 2=1:=by omega
  rcases h5 with e | e <;> rw [e]
  ·exact ⟨wires,rfl,w1,Int.le_refl _⟩
  ·exact ⟨_,rfl,by split <;> omega,by split <;> omega⟩
 refine ⟨_,rfl,R,_,_,_,rfl,rfl,.of (k6 _ _ eR5),atR 0 (by decide),_,_,rfl,rfl,⟨by decide,by decide⟩,_,_,rfl,rfl,(by show (0:Int) < 2;decide),L2,_,_,_,rfl,rfl,.of zab,esp,?_⟩
 have s6:=s5.trans k6
 have eR6:=k6 _ _ eR5
 generalize upd H5 L2 (.lst [.int wires,.int (if (3:Int) < wires then 3 else wires)])=H6 at s6 eR6
 refine ⟨_,rfl,_,rfl,_,rfl,by omega,by omega,fun D hD=>?_⟩
 refine zdG (fun j H8=>∃ ls:List Int,Same H6 H8∧H8 D=some (.lst (ls.map V.int))∧ls.length=j∧∀ l∈ls,0≤l∧l < wires) ⟨[],zaf hD _,zab,rfl,fun _ z=>nomatch z⟩ ?_ ?_
 ·rintro j H8 hj ⟨ls,s8,eD,ll,bl⟩
  rw [Int.zero_add]
  have hj2:j < n:=by omega
  have at1:atI (row.map V.int) (1+(j:Int))=some (.int (row.getD (1+j) 0)):=by
   have e:(1:Int)+(j:Int)=((1+j:Nat):Int):=by omega
   rw [e]
   exact atR (1+j) (by omega)
  refine ⟨_,rfl,_,_,rfl,rfl,_,rfl,_,rfl,_,_,rfl,rfl,R,_,_,_,rfl,rfl,.of (s8 _ _ eR6),at1,_,rfl,_,_,rfl,rfl,(by show 0 < sp;omega),_,_,rfl,rfl,?_⟩
  have e1:=Int.emod_nonneg (row.getD (1+j) 0) (show sp≠0 by omega)
  have e2:=Int.emod_lt_of_pos (row.getD (1+j) 0) (show 0 < sp by omega)
  refine ⟨_,eD,big (by rw [List.length_map];omega),ls++ [wires - 1 - row.getD (1+j) 0 % sp],s8.write hD _,by rw [zab,List.map_append];rfl,by simp [ll],fun l hl=>?_⟩
  rcases List.mem_append.mp hl with hl | hl
  ·exact bl l hl
  ·rw [List.mem_singleton.mp hl];omega
 ·rintro H8 ⟨ls,s8,eD,ll,bl⟩
  have ln:ls.length=n:=by omega
  refine ⟨D,_,rfl,.inl ⟨.of eD,fun T1 h1=>⟨(by show 2≤sizeLine;decide),fun T2 h2=>?_⟩⟩⟩
  have j1:=zaf h1 (.tup (ls.map V.int))
  have j2:=zaf h2 (.tup [.str x,.ref T1])
  have s9:=s6.trans s8
  exact q T2 T1 x ls _ ((s9.trans j1).trans j2) ((s9.trans j1).free h2) (s9.free h1) zab (j2 _ _ zab) (by rw [ln];exact lk) bl
theorem zaC:zax ["script","inputs","most","first","many","cells","gates","cell","wires","xs","outputs","k"] ["script","inputs","most"] (zag zbf):=⟨rfl,rfl,rfl,by decide+kernel,rfl,by decide+kernel,by decide+kernel⟩
theorem zeZ (T:Txt K mg t):FnOk P w K mg base CX0 3 t.f_law_works_of t.fd_law_works_of ["script","inputs","most"] (sp_wko K):=by
 refine T.d_law_works_of.F.okB zaC (fun vs H Q E h=>?_) (fun cdv A outer s H vs Q E hr h=>?_)
 ·obtain ⟨a,ns,inp,most,rfl,_⟩:=h
  rfl
 obtain ⟨a,ns,inp,most,rfl,hS,i1,i6,m20,q⟩:=h
 refine ⟨_,(zad (zak (k:=3) zaC.nd rfl (Or.inl rfl) (zan (zb3 T) (hr.mono (by decide)) rfl T.d_law_cell_at.m T.d_law_cell_at.F.kp T.d_law_cell_at.b .nil zaU (zaa (bpv 0) (zaa zae (zac)))))
  (zad (zak (k:=4) zaC.nd rfl (Or.inl rfl) (zam zcd (zam zdt (bpv 3) zae) (zam zcj (bpv 2) zae)))
  (zad (zak (k:=5) zaC.nd rfl (Or.inl rfl) (zcP zeE (bpv 0) (zcZ zae) (zcZ (zam zcj zae (bpv 4)))))
  (zad (zak (k:=5) zaC.nd rfl (Or.inl rfl) (zam zc0 (bpv 5) (zan (zcJ T) (hr.mono (by decide)) rfl T.d_law_digits.m T.d_law_digits.F.kp T.d_law_digits.b .nil zaU (zaa (zan (zb3 T) (hr.mono (by decide)) rfl T.d_law_cell_at.m T.d_law_cell_at.F.kp T.d_law_cell_at.b .nil zaU (zaa (bpv 0) (zaa zae (zac)))) (zaa (zam zdC (bpv 4) (zaw zau rfl T.z_len PySem.boot_len (zaa (bpv 5) (zac)))) (zaa (zam zks zae zae) (zac)))))))
  (zad (zak (k:=6) zaC.nd rfl (Or.inl rfl) (zay zac))
  (zad (zaK PassesOwn.never rfl (zaI (bpv 5)) (zaj (k:=7) zaC.nd rfl (Or.inl rfl)) (zah (zbl (zdq PySem.F.plainAttrs_list PySem.F.slot_list_append PySem.F.type_list_append zbn (bpv 6) (zaa (zan (zht T) (hr.mono (by decide)) rfl T.d_law_gate.m T.d_law_gate.F.kp T.d_law_gate.b .nil zaU (zaa (bpv 7) (zaa (zam zcj (bpv 1) (zaw zau rfl T.z_len PySem.boot_len (zaa (bpv 6) (zac)))) (zac)))) (zac))))))
  (zad (zak (k:=8) zaC.nd rfl (Or.inl rfl) (zam zcj (bpv 1) (zaw zau rfl T.z_len PySem.boot_len (zaa (bpv 6) (zac)))))
  (zad (zak (k:=9) zaC.nd rfl (Or.inl rfl) (zan (zcJ T) (hr.mono (by decide)) rfl T.d_law_digits.m T.d_law_digits.F.kp T.d_law_digits.b .nil zaU (zaa (zan (zb3 T) (hr.mono (by decide)) rfl T.d_law_cell_at.m T.d_law_cell_at.F.kp T.d_law_cell_at.b .nil zaU (zaa (bpv 0) (zaa zae (zac)))) (zaa zae (zaa zae (zac))))))
  (zad (zak (k:=10) zaC.nd rfl (Or.inl rfl) (zay (zaa (zao zaH (zay (zaa (zam zdC (bpv 8) zae) (zaa (zam zcd (zao zaH (bpv 9) zae (fun _ _=>rfl)) (bpv 8)) (zac)))) (zam zdt (zam zcd (zam zdt (zao zaH (bpv 9) zae (fun _ _=>rfl)) zae) zae) zae) (fun _ _=>rfl)) (zac))))
  (zad (zaK PassesOwn.never rfl (zaO rfl T.z_range (zaa (zam zcd (zao zaH (bpv 9) zae (fun _ _=>rfl)) zae) (zac))) (zaj (k:=11) zaC.nd rfl (Or.inl rfl)) (zah (zbl (zdq PySem.F.plainAttrs_list PySem.F.slot_list_append PySem.F.type_list_append zbn (bpv 10) (zaa (zam zcd (zao zaH (bpv 9) (zam zcj zae (bpv 11)) (fun _ _=>rfl)) (bpv 8)) (zac))))))
  (zah (zar (zaJ (zaa (bpv 1) (zaa (bpv 6) (zaa (bpv 10) (zac))))))))))))))))),?_⟩
 have pw:∀ i j:Int,i.natAbs < 2 ^ 64→0≤j→j≤1000000→CPow i j:=fun i j a b c=>⟨b,c,a⟩
 refine ⟨_,rfl,a,ns,0,rfl,hS,fun first=>?_⟩
 obtain ⟨many,emany,hmany⟩:∃ many:Nat,first / 3 % ((most:Int)+1)=(many:Int)∧many≤most:=by
  have e1:=Int.emod_nonneg (first / 3) (show (most:Int)+1≠0 by omega)
  have e2:=Int.emod_lt_of_pos (first / 3) (show 0 < (most:Int)+1 by omega)
  exact ⟨(first / 3 % ((most:Int)+1)).toNat,by omega,by omega⟩
 refine ⟨_,rfl,_,_,rfl,rfl,⟨by decide,by decide⟩,_,rfl,_,_,rfl,rfl,_,_,rfl,rfl,(by show (0:Int) < (most:Int)+1;omega),?_⟩
 dsimp only
 rw [emany]
 refine ⟨_,rfl,_,rfl,_,rfl,_,_,rfl,rfl,_,rfl,a,_,rfl,hS,fun C hC=>?_⟩
 obtain ⟨cs,ecs,lcs⟩:=zj9 ns (m:=many)
 rw [ecs]
 have k1:=zaf hC (.lst (cs.map V.int))
 refine ⟨_,rfl,_,rfl,a,ns,1,rfl,k1.seq hS,fun c1=>?_⟩
 refine ⟨_,rfl,_,rfl,C,_,rfl,.inl (.of zab),_,_,rfl,rfl,_,_,rfl,rfl,pw _ _ (by decide) (by decide) (by decide),c1,many - cs.length,10 ^ (12:Int).toNat,?_,by omega,by decide,by decide,fun R row H1 s1 nR eR lr br=>?_⟩
 ·rw [List.length_map]
  show [V.int c1,V.int ((many:Int) - (cs.length:Int)),V.int (10 ^ (12:Int).toNat)]=_
  rw [show (many:Int) - (cs.length:Int)=((many - cs.length:Nat):Int) by omega]
 have s01:=k1.trans s1
 have eC1:=s1 _ _ (zab (H:=H) (a:=C) (o:=.lst (cs.map V.int)))
 refine ⟨C,R,_,_,rfl,rfl,eC1,eR,bigE (by rw [List.length_map,List.length_map];omega),fun D hD=>?_⟩
 have k2:=zaf hD (.lst (cs.map V.int++row.map V.int))
 obtain ⟨ds,eds⟩:∃ ds:List Int,cs++row=ds:=⟨_,rfl⟩
 have eD:(upd H1 D (.lst (cs.map V.int++row.map V.int))) D=some (.lst (ds.map V.int)):=by rw [zab,← eds,List.map_append]
 have lds:ds.length≤20:=by rw [← eds,List.length_append];omega
 have s02:=s01.trans k2
 generalize upd H1 D (.lst (cs.map V.int++row.map V.int))=H2 at eD s02
 refine ⟨(by show 0≤sizeLine;decide),fun g hg=>?_⟩
 have Dg:D≠g:=zal eD hg
 refine ⟨_,rfl,D,rfl,⟨_,.of (zaf hg _ _ _ eD)⟩,zb0 (K:=K) (a:=D) (xs:=ds.map V.int)
  (fun i σ H6=>∃ (G:Hp) (gs:List (Str×List Int)) (vs:List V) (o7:Option V),σ = [some (.ref a),some (.int inp),some (.int most),some (.int first),some (.int many),some (.ref D),some (.ref g),o7,none,none,none,none]∧
   Off [g] G H6∧Same H2 G∧H6 g=some (.lst vs)∧Reps K G vs (gs.map zfH)∧gs.length=i∧∀ (k:Nat) gt,gs[k]? =some gt→zcD gt.1 gt.2.length∧∀ l∈gt.2,0≤l∧l < inp+k)
  ⟨H2,[],[],_,rfl,Off.start hg _,Same.refl _,zab,.nil,rfl,(fun k gt e=>by simp at e)⟩ (fun i σ H6 _ ⟨_,_,_,_,_,o,s,_⟩=>.of ((s.trans o.same) _ _ eD)) ?_ ?_⟩
 ·rintro i y σ H6 hy ⟨G,gs,vs,o7,rfl,off,sG,eg,rgs,lgs,gd⟩
  rw [List.getElem?_map] at hy
  cases hz:ds[i]? with
  | none=>rw [hz] at hy;cases hy
  | some z=>
   rw [hz] at hy
   cases hy
   have iz:i < ds.length:=(List.getElem?_eq_some_iff.mp hz).1
   have lv:vs.length=i:=by rw [rgs.length,List.length_map,lgs]
   refine ⟨_,rfl,.inl ⟨rfl,_,.of eg⟩,_,rfl,_,rfl,_,rfl,g,_,rfl,.inl (.of eg),_,_,rfl,rfl,z,_,rfl,by omega,by omega,fun r la x ls H8 s8 nr nla er ela lk bl=>?_⟩
   have of8:=off.grow s8
   obtain ⟨of9,k9⟩:=of8.take ela (off.ne nla)
   obtain ⟨ofa,ka⟩:=of9.take er (off.ne nr)
   refine ⟨g,vs,_,rfl,rfl,s8 _ _ eg,big (by omega),_,gs++ [(x,ls)],vs++ [.ref r],_,rfl,ofa.write (.head _) _,sG.trans (k9.trans ka),zab,?_,by simp [lgs],fun k gt e=>?_⟩
   ·rw [List.map_append]
    exact (rgs.mono (k9.trans ka)).snoc (.tup (.of zab) (.cons (.str x) (.cons (Rep.tup (.of (ka _ _ zab)) (Reps.ints ls)) .nil)))
   ·by_cases hk:k < gs.length
    ·rw [List.getElem?_append_left hk] at e
     exact gd k gt e
    ·have hk2:k=gs.length:=by
      have:=(List.getElem?_eq_some_iff.mp e).1
      simp at this
      omega
     subst hk2
     rw [List.getElem?_append_right (Nat.le_refl _),Nat.sub_self] at e
     cases e
     refine ⟨lk,fun l hl=>?_⟩
     have:=bl l hl
     rw [lv] at this
     show 0≤l∧l < inp+((gs.length:Nat):Int)
     omega
 rintro σ H6 ⟨G,gs,vs,o7,rfl,off,sG,eg,rgs,lgs,gd⟩
 rw [List.length_map] at lgs
 have lv:vs.length=gs.length:=by rw [rgs.length,List.length_map]
 have of7:=off.close eg (fun z=>nomatch z)
 have kG:=off.cadd (.lst vs)
 have gg:(upd G g (.lst vs)) g=some (.lst vs):=zab
 have sG7:=sG.trans kG
 have rgs7:=rgs.mono kG
 generalize upd G g (.lst vs)=G7 at of7 kG gg sG7 rgs7
 have s6:=of7.same
 refine ⟨_,rfl,_,rfl,g,_,rfl,.inl (.of eg),_,_,rfl,rfl,?_⟩
 refine ⟨_,rfl,a,ns,2,rfl,(s02.trans (sG7.trans s6)).seq hS,fun c2=>?_⟩
 refine ⟨c2,4,720720,rfl,by decide,by decide,by decide,fun X xr H7 s7 nX eX lxr bxr=>?_⟩
 have b0:∀ i:Nat,0≤xr.getD i 0:=fun i=>by
  rw [List.getD_eq_getElem?_getD]
  cases e:xr[i]? with
  | none=>exact Int.le_refl 0
  | some z=>exact (bxr z (List.mem_of_getElem? e)).1
 have atX:∀ (i:Nat),i < 4→atI (xr.map V.int) (i:Int)=some (.int (xr.getD i 0)):=fun i hi=>by
  have:=zbT (ns:=xr) (i:=(i:Int)) (by omega) (by omega)
  simpa using this
 obtain ⟨wires,ew,w1⟩:∃ wires:Int,inp+(vs.length:Int)=wires∧1≤wires:=⟨_,rfl,by omega⟩
 dsimp only
 rw [ew]
 have md:∀ z:Int,0≤z % wires∧z % wires < wires:=fun z=>⟨Int.emod_nonneg _ (by omega),Int.emod_lt_of_pos _ (by omega)⟩
 refine ⟨_,rfl,_,_,rfl,rfl,_,rfl,X,_,_,_,rfl,rfl,.of eX,atX 1 (by decide),_,rfl,_,_,rfl,rfl,(by show 0 < wires;omega),(by show 2≤sizeLine;decide),fun L hL=>?_⟩
 have k8:=zaf hL (.lst [.int (wires - 1),.int (xr.getD 1 0 % wires)])
 have x0:=b0 0
 obtain ⟨o0,eo0,ho0⟩:∃ o0:Int,atI [V.int (wires - 1),.int (xr.getD 1 0 % wires)] (xr.getD 0 0 / 3 % 4 / 3)=some (.int o0)∧0≤o0∧o0 < wires:=by
  have h5:xr.getD 0 0 / 3 % 4 / 3=0∨xr.getD 0 0 / 3 % 4 / 3=1:=by omega
  rcases h5 with e | e <;> rw [e]
  ·exact ⟨wires - 1,rfl,by omega,by omega⟩
  ·exact ⟨_,rfl,md _⟩
 refine ⟨_,rfl,X,_,_,_,rfl,rfl,.of (k8 _ _ eX),atX 0 (by decide),_,_,rfl,rfl,⟨by decide,by decide⟩,_,_,rfl,rfl,(by show (0:Int) < 4;decide),_,_,rfl,rfl,⟨by decide,by decide⟩,L,_,_,_,rfl,rfl,.of zab,eo0,(by show 1≤sizeLine;decide),fun O hO=>?_⟩
 have s08:=(s6.trans s7).trans k8
 have eX8:=k8 _ _ eX
 generalize upd H7 L (.lst [.int (wires - 1),.int (xr.getD 1 0 % wires)])=H8 at s08 eX8 hO
 have kO:=zaf hO (.lst [.int o0])
 refine ⟨_,rfl,X,_,_,_,rfl,rfl,.of (kO _ _ eX8),atX 0 (by decide),_,_,rfl,rfl,(by show (0:Int) < 3;decide),_,rfl,by omega,by omega,zcC (fun j σ H9=>∃ (os:List Int) (o7 o11:Option V),σ = [some (.ref a),some (.int inp),some (.int most),some (.int first),some (.int many),some (.ref D),some (.ref g),o7,some (.int wires),some (.ref X),some (.ref O),o11]∧
   Same H8 H9∧H9 O=some (.lst (os.map V.int))∧os.length=1+j∧∀ o∈os,0≤o∧o < wires)
  ⟨[o0],_,_,rfl,zaf hO _,zab,rfl,fun o ho=>by rw [List.mem_singleton.mp ho];exact ho0⟩ ?_ ?_⟩
 ·rintro j σ H9 hj ⟨os,o7',o11,rfl,s9,eO,lo,bo⟩
  rw [Int.zero_add]
  have hj2:j < 2:=by omega
  have at2:atI (xr.map V.int) (2+(j:Int))=some (.int (xr.getD (2+j) 0)):=by
   have e:(2:Int)+(j:Int)=((2+j:Nat):Int):=by omega
   rw [e]
   exact atX (2+j) (by omega)
  refine ⟨_,rfl,.inl ⟨rfl,_,.of eO⟩,_,rfl,_,rfl,_,_,rfl,rfl,X,_,_,_,rfl,rfl,.of (s9 _ _ eX8),at2,_,rfl,_,_,rfl,rfl,(by show 0 < wires;omega),O,_,_,rfl,rfl,eO,big (by rw [List.length_map];omega),?_⟩
  refine ⟨os++ [xr.getD (2+j) 0 % wires],_,_,rfl,s9.write hO _,by rw [zab,List.map_append];rfl,by rw [List.length_append,List.length_singleton];omega,fun o ho=>?_⟩
  rcases List.mem_append.mp ho with ho | ho
  ·exact bo o ho
  ·rw [List.mem_singleton.mp ho];exact md _
 ·rintro σ H9 ⟨os,o7',o11,rfl,s9,eO,lo,bo⟩
  refine ⟨_,rfl,_,rfl,_,rfl,(by show 3≤sizeLine;decide),fun W hW=>?_⟩
  have kW:=zaf hW (.tup [.int inp,.ref g,.ref O])
  have s69:=(s08.trans s9).trans kW
  refine q W ⟨inp,gs,os⟩ _ ((s02.trans sG7).trans s69) (.tup (.of zab) (.cons (.int _) (.cons (.lst (.of (s69 _ _ gg)) (rgs7.mono s69)) (.cons (.lst (.of (kW _ _ eO)) (Reps.ints os)) .nil)))) ?_ rfl
  have hx3:xr.getD 0 0 % 3 < 3:=by omega
  exact ⟨i1,i6,by show gs.length≤20;omega,gd,by show 1≤os.length;omega,by show os.length≤20+20;omega,fun o ho=>by
   have:=bo o ho
   show 0≤o∧o < inp+((gs.length:Nat):Int)
   omega⟩
theorem zg4:zax ["kind","legs"] ["kind","legs"] (zag zb8):=⟨rfl,rfl,rfl,by decide+kernel,rfl,by decide+kernel,by decide+kernel⟩
theorem zg6 (T:Txt K mg t):FnOk P w K mg base CX0 1 t.f_law_worth t.fd_law_worth ["kind","legs"] (sp_gw2 K):=by
 refine T.d_law_worth.F.okB zg4 (fun vs H Q E h=>?_) (fun cdv A outer s H vs Q E hr h=>?_)
 ·obtain ⟨x,p,ns,rfl,_⟩:=h
  rfl
 obtain ⟨x,p,ns,rfl,hS,b,lk,q⟩:=h
 refine ⟨_,(zad (zaW (zdQ (zfa (zas zcQ (bpv 0) zav (zaF _)) (zd0 (zas zcQ (bpv 0) zav (zaF _))))) (zah (zar (zce zfs rfl T.z_int PyProof.Rows.boot_int (zaa (zcw zcQ (bpv 0) zav (zaF _)) (zac))))) zaA)
  (zad (zaW (zas zcQ (bpv 0) zav (zaF _)) (zah (zar (zam zdC zae (zao zaH (bpv 1) zae (fun _ _=>rfl))))) zaA)
  (zad (zaW (zas zcQ (bpv 0) zav (zaF _)) (zah (zar (zao zaH (bpv 1) (zam zdC zae (zao zaH (bpv 1) zae (fun _ _=>rfl))) (fun _ _=>rfl)))) zaA)
  (zad (zaW (zas zcQ (bpv 0) zav (zaF _)) (zah (zar (zce zfs rfl T.z_int PyProof.Rows.boot_int (zaa (zcw zg2 zae (bpv 1) rfl) (zac))))) zaA)
  (zad (zaW (zas zcQ (bpv 0) zav (zaF _)) (zah (zar (zce zfs rfl T.z_int PyProof.Rows.boot_int (zaa (zcw ze3 zae (bpv 1) rfl) (zac))))) zaA)
  (zah (zar (zam zcd (zaw (zjn rfl) rfl T.z_sum PyProof.Rows.boot_sum (zaa (bpv 1) (zac))) zae)))))))),?_⟩
 rcases lk with ⟨h | h | h,l1,l2⟩ | ⟨h,l1⟩ | ⟨h,l1⟩ | ⟨h | h,l1⟩
 ·subst h
  refine ⟨_,rfl,rfl,_,rfl,ifN (Ne.symm n_za) ⟨_,rfl,rfl,_,rfl,ifN (Ne.symm n_1a) ⟨_,rfl,rfl,_,rfl,ifN (Ne.symm n_na) ⟨_,rfl,rfl,_,rfl,ifN (Ne.symm n_ca) ⟨_,rfl,rfl,_,rfl,ifY rfl ⟨_,rfl,p,_,rfl,.inl hS,rfl,zhg ns,.inr ⟨_,rfl,?_⟩⟩⟩⟩⟩⟩⟩
  rw [← zlU b] at q
  exact q
 ·subst h
  refine ⟨_,rfl,rfl,_,rfl,ifN (Ne.symm n_zo) ⟨_,rfl,rfl,_,rfl,ifN (Ne.symm n_1o) ⟨_,rfl,rfl,_,rfl,ifN (Ne.symm n_no) ⟨_,rfl,rfl,_,rfl,ifN (Ne.symm n_co) ⟨_,rfl,rfl,_,rfl,ifN n_oa ⟨_,rfl,rfl,_,rfl,ifY rfl ⟨_,rfl,p,_,rfl,.inl hS,rfl,zhg ns,.inr ⟨_,rfl,?_⟩⟩⟩⟩⟩⟩⟩⟩
  rw [← int_or] at q
  exact q
 ·subst h
  refine ⟨_,rfl,rfl,_,rfl,ifN (Ne.symm n_zd) ⟨_,rfl,rfl,_,rfl,ifN (Ne.symm n_1d) ⟨_,rfl,rfl,_,rfl,ifN (Ne.symm n_nd) ⟨_,rfl,rfl,_,rfl,ifN (Ne.symm n_cd) ⟨_,rfl,rfl,_,rfl,ifN n_da ⟨_,rfl,rfl,_,rfl,ifN n_do ⟨_,rfl,p,ns,rfl,hS,_,_,rfl,rfl,(by show (0:Int) < 2;decide),?_⟩⟩⟩⟩⟩⟩⟩
  rw [zjX] at q
  exact q
 ·subst h
  refine ⟨_,rfl,rfl,_,rfl,ifN (Ne.symm n_zn) ⟨_,rfl,rfl,_,rfl,ifN (Ne.symm n_1n) ⟨_,rfl,rfl,_,rfl,ifY rfl ⟨_,rfl,p,_,0,_,rfl,rfl,hS,zbT (Int.le_refl 0) (by omega),_,_,rfl,rfl,?_⟩⟩⟩⟩
  rw [zji] at q
  exact q
 ·subst h
  refine ⟨_,rfl,rfl,_,rfl,ifN (Ne.symm n_zc) ⟨_,rfl,rfl,_,rfl,ifN (Ne.symm n_1c) ⟨_,rfl,rfl,_,rfl,ifN n_cn ⟨_,rfl,rfl,_,rfl,ifY rfl ?_⟩⟩⟩⟩
  rw [zfg] at q
  have b0:ns.getD 0 0=0∨ns.getD 0 0=1:=zb6 b (by omega)
  have at2:atI (ns.map V.int) (2 - ns.getD (0:Int).toNat 0)=some (.int (if ns.getD 0 0=1 then ns.getD 1 0 else ns.getD 2 0)):=by
   rcases b0 with e | e
   ·rw [if_neg (by omega)]
    have e2:(2:Int) - ns.getD (0:Int).toNat 0=2:=by show 2 - ns.getD 0 0=2;omega
    rw [e2]
    exact zbT (by decide) (by rw [l1];decide)
   ·rw [if_pos e]
    have e2:(2:Int) - ns.getD (0:Int).toNat 0=1:=by show 2 - ns.getD 0 0=1;omega
    rw [e2]
    exact zbT (by decide) (by rw [l1];decide)
  exact ⟨_,rfl,_,rfl,p,_,0,_,rfl,rfl,hS,zbT (Int.le_refl 0) (by omega),_,_,rfl,rfl,p,_,_,_,rfl,rfl,hS,at2,q⟩
 ·subst h
  rw [zhD] at q
  exact ⟨_,rfl,rfl,_,rfl,ifY rfl (iteT ⟨_,rfl,rfl,.inr ⟨false,congrArg (fun z=>[V.bl z]) (decide_eq_false fun z=>n_z1 (V.str.inj z)),q⟩⟩)⟩
 ·subst h
  rw [zjW] at q
  exact ⟨_,rfl,rfl,_,rfl,ifN (Ne.symm n_z1) ⟨_,rfl,rfl,_,rfl,ifY rfl ⟨_,rfl,rfl,.inr ⟨true,congrArg (fun z=>[V.bl z]) (decide_eq_true rfl),q⟩⟩⟩⟩
theorem zhr:zax ["works"] ["works"] (zag zcr):=⟨rfl,rfl,rfl,by decide+kernel,rfl,by decide+kernel,by decide+kernel⟩
theorem zhA (T:Txt K mg t):FnOk P w K mg base CX0 1 t.f_law_copy t.fd_law_copy ["works"] (sp_cpy K):=by
 refine T.d_law_copy.F.okB zhr (fun vs H Q E h=>?_) (fun cdv A outer s H vs Q E hr h=>?_)
 ·obtain ⟨x,w,rfl,_⟩:=h
  rfl
 obtain ⟨x,w,rfl,hx,wf,q⟩:=h
 obtain ⟨a,ga,oa,gs,os,rfl,ha,hg,ho,rg,ro⟩:=zcl hx
 refine ⟨_,(zah (zar (zaJ (zaa (zao zaB (bpv 0) zae (fun _ _=>rfl)) (zaa (zce zdu rfl T.z_list PyProof.Rows.boot_list (zaa (zao zaB (bpv 0) zae (fun _ _=>rfl)) (zac))) (zaa (zce zdu rfl T.z_list PyProof.Rows.boot_list (zaa (zao zaB (bpv 0) zae (fun _ _=>rfl)) (zac))) (zac))))))),?_⟩
 refine ⟨_,rfl,a,_,_,_,rfl,rfl,ha,rfl,_,rfl,a,_,_,_,rfl,rfl,ha,rfl,ga,_,rfl,.inl hg,fun l1 h1=>?_⟩
 have k1:=zaf h1 (.lst gs)
 refine ⟨_,rfl,a,_,_,_,rfl,rfl,k1.seqT ha,rfl,oa,_,rfl,.inl (k1.seq ho),fun l2 h2=>?_⟩
 have k2:=zaf h2 (.lst os)
 refine ⟨(by show 3≤sizeLine;decide),fun l3 h3=>?_⟩
 have k3:=zaf h3 (.tup [.int w.ins,.ref l1,.ref l2])
 have s3:=(k1.trans k2).trans k3
 exact q l3 _ s3 (.tup (.of zab) (.cons (.int _) (.cons (.lst (.of ((k2.trans k3) _ _ zab)) (rg.mono s3)) (.cons (.lst (.of (k3 _ _ zab)) (ro.mono s3)) .nil))))
theorem za1:zax ["inputs","found","k","longer_rows","row"] ["inputs"] (zag zbh):=⟨rfl,rfl,rfl,by decide+kernel,rfl,by decide+kernel,by decide+kernel⟩
theorem zdy (T:Txt K mg t):FnOk P w K mg base CX0 1 t.f_law_all_rows t.fd_law_all_rows ["inputs"] sp_lr:=by
 refine T.d_law_all_rows.F.okB za1 (fun vs H Q E h=>?_) (fun cdv A outer s H vs Q E hr h=>?_)
 ·obtain ⟨n,rfl,_⟩:=h
  rfl
 obtain ⟨n,rfl,i0,i6,q⟩:=h
 refine ⟨_,(zad (zak (k:=1) za1.nd rfl (Or.inl rfl) (zay (zaa (zay zac) (zac))))
  (zad (zaK PassesOwn.never rfl (zaO rfl T.z_range (zaa (bpv 0) (zac))) (zaj (k:=2) za1.nd rfl (Or.inl rfl)) (zad (zak (k:=3) za1.nd rfl (Or.inl rfl) (zay zac))
  (zad (zaK PassesOwn.never rfl (zaI (bpv 1)) (zaj (k:=4) za1.nd rfl (Or.inl rfl)) (zah (zak (k:=3) za1.nd rfl (Or.inl rfl) (zam zc0 (bpv 3) (zay (zaa (zam zc0 (bpv 4) (zay (zaa zae (zac)))) (zaa (zam zc0 (bpv 4) (zay (zaa zae (zac)))) (zac))))))))
  (zah (zak (k:=1) za1.nd rfl (Or.inl rfl) (bpv 3))))))
  (zah (zar (bpv 1))))),?_⟩
 refine ⟨(by show 0≤sizeLine;decide),fun e0 he0=>⟨(by show 1≤sizeLine;decide),fun R0 hR0=>?_⟩⟩
 have k0:=zaf he0 (.lst [])
 have k1:=zaf hR0 (.lst [.ref e0])
 refine ⟨_,rfl,_,rfl,by omega,by omega,zcC (fun j σ H3=>∃ (R:Addr) (qs:List Addr) (o2 o3 o4:Option V),σ = [some (.int n),some (.ref R),o2,o3,o4]∧Same H H3∧H3 R=some (.lst (qs.map V.ref))∧At H3 qs (zaX j))
  ⟨R0,[e0],_,_,_,rfl,k0.trans k1,zab,.cons (k1 _ _ zab) .nil⟩ ?_ ?_⟩
 ·rintro i σ H3 hi ⟨R,qs,o2,o3,o4,rfl,s3,eR,at3⟩
  have few:(zaX i).length≤64:=zh9 (by omega)
  have lq:=at3.len
  have two:∀ rs:List (List Int),(rs.flatMap (fun r=>[r++ [0],r++ [1]])).length=2 * rs.length:=fun rs=>by
   induction rs with
   | nil=>rfl
   | cons r rs ih=>simp only [List.flatMap_cons,List.length_append,List.length_cons,List.length_nil,ih];omega
  refine ⟨(by show 0≤sizeLine;decide),fun L hL=>?_⟩
  have kL:=zaf hL (.lst [])
  refine ⟨_,rfl,R,rfl,⟨_,.of (kL _ _ eR)⟩,zb0 (K:=K) (a:=R) (xs:=qs.map V.ref) (fun j σ H4=>∃ (M:Addr) (ps:List Addr) (o4:Option V),σ = [some (.int n),some (.ref R),some (.int (0+(i:Int))),some (.ref M),o4]∧Same H3 H4∧H4 M=some (.lst (ps.map V.ref))∧At H4 ps (((zaX i).take j).flatMap (fun r=>[r++ [0],r++ [1]])))
   ⟨L,[],_,rfl,kL,zab,.nil⟩ (fun j σ H4 _ ⟨_,_,_,_,s4,_⟩=>.of (s4 _ _ eR)) ?_ ?_⟩
  ·rintro j y σ H4 hy ⟨M,ps,o4',rfl,s4,eM,at4⟩
   rw [List.getElem?_map] at hy
   cases hz:qs[j]? with
   | none=>rw [hz] at hy;cases hy
   | some qa=>
    rw [hz] at hy
    cases hy
    obtain ⟨row,hrow,hqa⟩:=at3.get hz
    have lr:=(zcB i row (List.mem_of_getElem? hrow)).1
    have lp:=at4.len
    rw [two,List.length_take] at lp
    have lj:j < qs.length:=(List.getElem?_eq_some_iff.mp hz).1
    have et:(zaX i).take (j+1)=(zaX i).take j++ [row]:=by rw [List.take_add_one,hrow];rfl
    have q4:=s4 _ _ hqa
    refine ⟨_,rfl,_,rfl,(by show 1≤sizeLine;decide),fun a1 h1=>?_⟩
    have j1:=zaf h1 (.lst [.int 0])
    refine ⟨qa,a1,_,_,rfl,rfl,j1 _ _ q4,zab,bigE (by rw [List.length_map,List.length_singleton];omega),fun b1 h2=>?_⟩
    have j2:=zaf h2 (.lst (row.map V.int++ [.int 0]))
    refine ⟨_,rfl,(by show 1≤sizeLine;decide),fun a2 h3=>?_⟩
    have j3:=zaf h3 (.lst [.int 1])
    refine ⟨qa,a2,_,_,rfl,rfl,((j1.trans j2).trans j3) _ _ q4,zab,bigE (by rw [List.length_map,List.length_singleton];omega),fun b2 h4=>?_⟩
    have j4:=zaf h4 (.lst (row.map V.int++ [.int 1]))
    refine ⟨(by show 2≤sizeLine;decide),fun l5 h5=>?_⟩
    have j5:=zaf h5 (.lst [.ref b1,.ref b2])
    have jj:=(((j1.trans j2).trans j3).trans j4).trans j5
    refine ⟨M,l5,_,_,rfl,rfl,jj _ _ eM,zab,bigE (by rw [List.length_map];show ps.length+2≤100000;omega),fun R2 h6=>?_⟩
    have j6:=zaf h6 (.lst (ps.map V.ref++ [.ref b1,.ref b2]))
    refine ⟨R2,ps++ [b1,b2],_,rfl,(s4.trans jj).trans j6,by rw [zab,List.map_append];rfl,?_⟩
    rw [et,List.flatMap_append]
    refine (at4.mono (jj.trans j6)).append ?_
    have eb1:=((((j3.trans j4).trans j5).trans j6) _ _ (zab (a:=b1) (o:=.lst (row.map V.int++ [.int 0]))))
    have eb2:=((j5.trans j6) _ _ (zab (a:=b2) (o:=.lst (row.map V.int++ [.int 1]))))
    refine .cons ?_ (.cons ?_ .nil)
    ·rw [List.map_append];exact eb1
    ·rw [List.map_append];exact eb2
  ·rintro σ H4 ⟨M,ps,o4',rfl,s4,eM,at4⟩
   refine ⟨_,rfl,M,ps,_,_,_,rfl,s3.trans s4,eM,?_⟩
   rw [List.length_map,lq,List.take_length] at at4
   rw [ze2]
   exact at4
 ·rintro σ H3 ⟨R,qs,o2,o3,o4,rfl,s3,eR,at3⟩
  exact ⟨_,rfl,q R qs H3 s3 eR at3⟩
theorem zbD:zax ["works","found","wire","g","p"] ["works"] (zag zbP):=⟨rfl,rfl,rfl,by decide+kernel,rfl,by decide+kernel,by decide+kernel⟩
theorem zgf (T:Txt K mg t):FnOk P w K mg base CX0 1 t.f_law_faults t.fd_law_faults ["works"] (sp_lf K):=by
 refine T.d_law_faults.F.okB zbD (fun vs H Q E h=>?_) (fun cdv A outer s H vs Q E hr h=>?_)
 ·obtain ⟨x,w,rfl,_⟩:=h
  rfl
 obtain ⟨x,w,rfl,hx,wf,q⟩:=h
 obtain ⟨a,ga,oa,gs,os,rfl,ha,hg,ho,rg,ro⟩:=zcl hx
 have lg:gs.length=w.gates.length:=by rw [rg.length,List.length_map]
 have i1:=wf.i1
 have i6:=wf.i6
 have few:=wf.few
 have lf:=zcV wf
 refine ⟨_,(zad (zak (k:=1) zbD.nd rfl (Or.inl rfl) (zay zac))
  (zad (zaK PassesOwn.never rfl (zaO rfl T.z_range (zaa (zam zcj (zao zaB (bpv 0) zae (fun _ _=>rfl)) (zaw zau rfl T.z_len PySem.boot_len (zaa (zao zaB (bpv 0) zae (fun _ _=>rfl)) (zac)))) (zac))) (zaj (k:=2) zbD.nd rfl (Or.inl rfl)) (zah (zak (k:=1) zbD.nd rfl (Or.inl rfl) (zam zc0 (bpv 1) (zay (zaa (zaJ (zaa zav (zaa (bpv 2) (zaa zae (zac))))) (zaa (zaJ (zaa zav (zaa (bpv 2) (zaa zae (zac))))) (zac))))))))
  (zad (zaK PassesOwn.never rfl (zaO rfl T.z_range (zaa (zaw zau rfl T.z_len PySem.boot_len (zaa (zao zaB (bpv 0) zae (fun _ _=>rfl)) (zac))) (zac))) (zaj (k:=3) zbD.nd rfl (Or.inl rfl)) (zah (zaK PassesOwn.never rfl (zaO rfl T.z_range (zaa (zaw zau rfl T.z_len PySem.boot_len (zaa (zao zaB (zao zaH (zao zaB (bpv 0) zae (fun _ _=>rfl)) (bpv 3) (fun _ _=>rfl)) zae (fun _ _=>rfl)) (zac))) (zac))) (zaj (k:=4) zbD.nd rfl (Or.inl rfl)) (zah (zak (k:=1) zbD.nd rfl (Or.inl rfl) (zam zc0 (bpv 1) (zay (zaa (zaJ (zaa zav (zaa (bpv 3) (zaa (bpv 4) (zaa zae (zac)))))) (zaa (zaJ (zaa zav (zaa (bpv 3) (zaa (bpv 4) (zaa zae (zac)))))) (zac))))))))))
  (zah (zar (bpv 1)))))),?_⟩
 refine ⟨(by show 0≤sizeLine;decide),fun R hR=>?_⟩
 have k0:=zaf hR (.lst [])
 refine ⟨_,rfl,a,_,_,_,rfl,rfl,k0.seqT ha,rfl,_,rfl,a,_,_,_,rfl,rfl,k0.seqT ha,rfl,ga,_,rfl,.inl (k0.seq hg),_,_,rfl,rfl,_,rfl,by omega,by omega,zdJ (fun i σ H3=>∃ (r:Addr) (xs:List V) (o2:Option V),σ = [some (.ref a),some (.ref r),o2,none,none]∧(Same H H3∧H r=none)∧H3 r=some (.lst xs)∧FAll H3 xs (zes (zc2 i)))
  ⟨R,[],_,rfl,⟨k0,hR⟩,zab,.nil⟩ ?_ ?_⟩
 ·rintro i σ H3 E1 hi hE ⟨r,xs,o2,rfl,⟨s3,nr⟩,er,fa⟩
  have lx:xs.length≤400:=by
   have l1:=Paired.length fa
   have e2:∀ n,(zes (zc2 n)).length=2 * n:=fun n=>by
    induction n with
    | zero=>rfl
    | succ n ih=>rw [zc2,zd1,List.length_append,ih];show 2 * n+2=_;omega
   rw [e2] at l1
   omega
  refine ⟨_,rfl,_,rfl,(by show 3≤sizeLine;decide),fun T1 h1=>?_⟩
  have j1:=zaf h1 (.tup [.str "wire",.int i,.int 0])
  refine ⟨_,rfl,(by show 3≤sizeLine;decide),fun T2 h2=>?_⟩
  have j2:=zaf h2 (.tup [.str "wire",.int i,.int 1])
  refine ⟨(by show 2≤sizeLine;decide),fun L h3=>?_⟩
  have j3:=zaf h3 (.lst [.ref T1,.ref T2])
  have jj:=(j1.trans j2).trans j3
  refine ⟨r,L,_,_,rfl,rfl,jj _ _ er,zab,bigE (by show xs.length+2≤100000;omega),fun R2 h4=>?_⟩
  have j4:=zaf h4 (.lst (xs++ [.ref T1,.ref T2]))
  refine hE _ _ ⟨R2,xs++ [.ref T1,.ref T2],_,rfl,⟨(s3.trans jj).trans j4,(s3.trans jj).free h4⟩,zab,?_⟩
  rw [zc2,zd1]
  exact FAll.two (fa.mono (jj.trans j4)) (((j2.trans j3).trans j4) _ _ zab) ((j3.trans j4) _ _ zab)
 rintro σ H1 ⟨r,xs,o2,rfl,⟨s1,nr⟩,er,fa⟩
 have e2:(w.ins+(gs.length:Int)).toNat=w.ins.toNat+w.gates.length:=by omega
 rw [e2] at fa
 refine ⟨_,rfl,a,_,_,_,rfl,rfl,s1.seqT ha,rfl,ga,_,rfl,.inl (s1.seq hg),_,rfl,by omega,by omega,zdJ (fun i σ H3=>∃ (r:Addr) (xs:List V) (o3 o4:Option V),σ = [some (.ref a),some (.ref r),o2,o3,o4]∧(Same H H3∧H r=none)∧H3 r=some (.lst xs)∧FAll H3 xs (zes (zc2 (w.ins.toNat+w.gates.length)++zdR w.gates i)))
  ⟨r,xs,_,_,rfl,⟨s1,nr⟩,er,by rw [show zdR w.gates 0= [] from rfl,List.append_nil];exact fa⟩ ?_ ?_⟩
 ·rintro i σ H3 E1 hi hE ⟨r,xs,o3,o4,rfl,⟨s3,nr⟩,er,fa⟩
  obtain ⟨g,hgk⟩:∃ g,w.gates[i]? =some g:=⟨_,List.getElem?_eq_getElem (by omega)⟩
  obtain ⟨v,hv,rv⟩:=rg.getD (i:=i) (d:=zfH g) (by rw [List.getElem?_map,hgk];rfl)
  obtain ⟨a1,la,rfl,hA,hL⟩:=zga rv
  have lk:=(wf.legs i g hgk).1.le
  refine ⟨_,rfl,a,_,_,_,rfl,rfl,s3.seqT ha,rfl,_,rfl,ga,_,_,_,rfl,rfl,s3.seq hg,zc9 hv,a1,_,_,_,rfl,rfl,s3.seqT hA,rfl,la,_,rfl,.inr (s3.seqT hL),_,rfl,by omega,by rw [List.length_map];omega,zdJ (fun j σ H4=>∃ (r:Addr) (xs:List V) (o4:Option V),σ = [some (.ref a),some (.ref r),o2,some (.int i),o4]∧(Same H H4∧H r=none)∧H4 r=some (.lst xs)∧FAll H4 xs (zes (zc2 (w.ins.toNat+w.gates.length)++zdR w.gates i++zgr i j)))
   ⟨r,xs,_,rfl,⟨s3,nr⟩,er,by rw [show zgr (i:Int) 0= [] from rfl,List.append_nil];exact fa⟩ ?_ ?_⟩
  ·rintro j σ H4 E2 hj hE2 ⟨r,xs,o4,rfl,⟨s4,nr⟩,er,fa⟩
   have lx:xs.length≤4000:=by
    have l1:=Paired.length fa
    have g1:=zdb wf i
    have g2:=congrArg List.length (zgD w.gates i)
    have g3:=congrArg List.length (zhC (i:Int) j)
    rw [List.length_map] at g2 g3 hj
    rw [zf0,List.length_append,List.length_append,ziC,g2,g3,zet] at l1
    omega
   refine ⟨_,rfl,_,rfl,_,rfl,(by show 4≤sizeLine;decide),fun T1 h1=>?_⟩
   have j1:=zaf h1 (.tup [.str "leg",.int i,.int j,.int 0])
   refine ⟨_,rfl,_,rfl,(by show 4≤sizeLine;decide),fun T2 h2=>?_⟩
   have j2:=zaf h2 (.tup [.str "leg",.int i,.int j,.int 1])
   refine ⟨(by show 2≤sizeLine;decide),fun L h3=>?_⟩
   have j3:=zaf h3 (.lst [.ref T1,.ref T2])
   have jj:=(j1.trans j2).trans j3
   refine ⟨r,L,_,_,rfl,rfl,jj _ _ er,zab,bigE (by show xs.length+2≤100000;omega),fun R2 h4=>?_⟩
   have j4:=zaf h4 (.lst (xs++ [.ref T1,.ref T2]))
   refine hE2 _ _ ⟨R2,xs++ [.ref T1,.ref T2],_,rfl,⟨(s4.trans jj).trans j4,(s4.trans jj).free h4⟩,zab,?_⟩
   rw [zgr,← List.append_assoc,zd1]
   exact FAll.two (fa.mono (jj.trans j4)) (((j2.trans j3).trans j4) _ _ zab) ((j3.trans j4) _ _ zab)
  ·rintro σ H4 ⟨r,xs,o4,rfl,⟨s4,nr⟩,er,fa⟩
   refine hE _ _ ⟨r,xs,_,_,rfl,⟨s4,nr⟩,er,?_⟩
   have e3:((g.2.map V.int).length:Int).toNat=g.2.length:=by rw [List.length_map];omega
   rw [e3] at fa
   rw [zdR,hgk,← List.append_assoc]
   exact fa
 ·rintro σ H3 ⟨r,xs,o3,o4,rfl,⟨s3,nr⟩,er,fa⟩
  have e3:((gs.length:Nat):Int).toNat=w.gates.length:=by omega
  rw [e3] at fa
  exact ⟨_,rfl,q r xs H3 s3 nr er fa⟩
theorem zbv:zax ["works","fault","row","worths","wire","worth","some","kind","legs"] ["works","fault","row"] (zag zcs):=⟨rfl,rfl,rfl,by decide+kernel,rfl,by decide+kernel,by decide+kernel⟩
theorem ze5 (T:Txt K mg t):FnOk P w K mg base CX0 2 t.f_law_outs t.fd_law_outs ["works","fault","row"] (sp_lou K):=by
 refine T.d_law_outs.F.okB zbv (fun vs H Q E h=>?_) (fun cdv A outer s H vs Q E hr h=>?_)
 ·obtain ⟨x,b,p,w,fs,row,rfl,_⟩:=h
  rfl
 obtain ⟨x,b,p,w,fs,row,rfl,hx,wf,fc,hS,hl,bits,q⟩:=h
 obtain ⟨a,ga,oa,gs,os,rfl,ha,hg,ho,rg,ro⟩:=zcl hx
 have lg:gs.length=w.gates.length:=by rw [rg.length,List.length_map]
 have i1:=wf.i1
 have i6:=wf.i6
 have few:=wf.few
 refine ⟨_,(zad (zak (k:=3) zbv.nd rfl (Or.inr rfl) (zay zac))
  (zad (zaK PassesOwn.never rfl (zaO rfl T.z_range (zaa (zam zcj (zao zaB (bpv 0) zae (fun _ _=>rfl)) (zaw zau rfl T.z_len PySem.boot_len (zaa (zao zaB (bpv 0) zae (fun _ _=>rfl)) (zac)))) (zac))) (zaj (k:=4) zbv.nd rfl (Or.inl rfl)) (zad (zaW (zas zjx (bpv 4) (zao zaB (bpv 0) zae (fun _ _=>rfl)) (zaF _)) (zah (zak (k:=5) zbv.nd rfl (Or.inl rfl) (zao zaH (bpv 2) (bpv 4) (fun _ _=>rfl)))) (zad (zjC (zao zaH (zao zaB (bpv 0) zae (fun _ _=>rfl)) (zam zdC (bpv 4) (zao zaB (bpv 0) zae (fun _ _=>rfl))) (fun _ _=>rfl)) (zdi rfl (zaz (zaj (k:=7) zbv.nd rfl (Or.inl rfl)) (zaz (zaj (k:=8) zbv.nd rfl (Or.inl rfl)) zbW))))
  (zad (zgj (k:=6) rfl (N:=["leg","worths"]) (n:=1) (cap:=[3]) (zbU rfl rfl) zbv.nd rfl rfl (zjZ (bpv 8)) (zaL (by decide)) (fun _ _ _ _=>(zaj (k:=0) (show (["leg","worths"]:List Str).Nodup by decide+kernel) rfl (Or.inl rfl))) (fun _ _ _ _=>za3) (fun _ _ _ _=>(zao (zcU (K:=K)) (bpv 1) (bpv 0) (fun _ _=>rfl))) rfl)
  (zad (zaW (zdQ (zhs (zas zcQ (zao zaB (bpv 1) zae (fun _ _=>rfl)) zav (zaF _)) (zgl (zas zcQ (zao zaB (bpv 1) zae (fun _ _=>rfl)) (zam zdC (bpv 4) (zao zaB (bpv 0) zae (fun _ _=>rfl))) (zaF _))))) (zah (zjC (zao zaB (bpv 1) zae (fun _ _=>rfl)) (zmv (bpv 6) (zao zaB (bpv 1) zae (fun _ _=>rfl)) zlb))) zaA)
  (zah (zak (k:=5) zbv.nd rfl (Or.inl rfl) (zan (zg6 T) (hr.mono (by decide)) rfl T.d_law_worth.m T.d_law_worth.F.kp T.d_law_worth.b .nil zaU (zaa (bpv 7) (zaa (bpv 6) (zac))))))))))
  (zad (zaW (zdQ (zhs (zas zcQ (zao zaB (bpv 1) zae (fun _ _=>rfl)) zav (zaF _)) (zgl (zas zcQ (zao zaB (bpv 1) zae (fun _ _=>rfl)) (bpv 4) (zaF _))))) (zah (zak (k:=5) zbv.nd rfl (Or.inl rfl) (zao zaB (bpv 1) zae (fun _ _=>rfl)))) zaA)
  (zah (zbl (zdq PySem.F.plainAttrs_list PySem.F.slot_list_append PySem.F.type_list_append zbn (bpv 3) (zaa (bpv 5) (zac))))))))
  (zah (zar (zaQ rfl (N:=["wire","worths"]) (n:=1) (cap:=[3]) (zbU rfl rfl) (zaI (zao zaB (bpv 0) zae (fun _ _=>rfl))) (zaL (by decide)) (fun _ _ _ _=>(zaj (k:=0) (show (["wire","worths"]:List Str).Nodup by decide+kernel) rfl (Or.inl rfl))) (fun _ _ _ _=>za3) (fun _ _ _ _=>(zao (zcU (K:=K)) (bpv 1) (bpv 0) (fun _ _=>rfl)))))))),?_⟩
 obtain ⟨W,eW⟩:∃ W,zbs fs w.gates row w.gates.length=W:=⟨_,rfl⟩
 have lW:W.length=row.length+w.gates.length:=by rw [← eW];exact zci _ _ _ _
 have bW:Bits W:=by rw [← eW];exact zdh fc.bits wf hl bits _ (Nat.le_refl _)
 refine ⟨(by show 0≤sizeLine;decide),fun r hr1=>?_⟩
 have k0:=zaf hr1 (.lst [])
 refine ⟨_,rfl,a,_,_,_,rfl,rfl,k0.seqT ha,rfl,_,rfl,a,_,_,_,rfl,rfl,k0.seqT ha,rfl,ga,_,rfl,.inl (k0.seq hg),_,_,rfl,rfl,_,rfl,by omega,by omega,zdJ (fun i σ H3=>∃ (o4 o5 o6 o7 o8:Option V),σ = [some (.ref a),some (.ref b),some (.ref p),some (.ref r),o4,o5,o6,o7,o8]∧Same H H3∧H3 r=some (.lst ((W.take i).map V.int)))
  ⟨_,_,_,_,_,rfl,k0,zab⟩ ?_ ?_⟩
 ·rintro i σ H3 E1 hi hE ⟨o4,o5,o6,o7,o8,rfl,s3,er⟩
  have li:i < W.length:=by omega
  have lt:(W.take i).length=i:=by rw [List.length_take];omega
  refine' joinX (α :=Int×Option V×Option V×Option V) (C:=fun v H9=>Same H3 H9∧W[i]? =some (pick fs (zb2 i) v.1)) (st:=fun v=>[some (.ref a),some (.ref b),some (.ref p),some (.ref r),some (.int i),some (.int v.1),v.2.1,v.2.2.1,v.2.2.2]) (fun rest=>_) _
  rotate_left
  ·refine ⟨_,rfl,_,rfl,a,_,_,_,rfl,rfl,s3.seqT ha,rfl,_,_,rfl,rfl,_,rfl,ite2 (fun c=>?_) (fun c=>?_)⟩
   ·have c':(i:Int) < w.ins:=of_decide_eq_true c
    have lr:i < row.length:=by omega
    refine ⟨_,rfl,_,rfl,p,_,_,_,rfl,rfl,s3.seq hS,zbT (by omega) (by omega),rest (row.getD i 0,o6,o7,o8) H3 ⟨Same.refl _,?_⟩⟩
    rw [← eW]
    exact W_in fs w.gates row lr _
   ·have c':¬(i:Int) < w.ins:=fun z=>c (decide_eq_true z)
    obtain ⟨k,ek⟩:∃ k:Nat,i=row.length+k:=⟨i - row.length,by omega⟩
    have hk:k < w.gates.length:=by omega
    obtain ⟨g,hgk⟩:∃ g,w.gates[k]? =some g:=⟨_,List.getElem?_eq_getElem hk⟩
    obtain ⟨v,hv,rv⟩:=rg.getD (i:=k) (d:=zfH g) (by rw [List.getElem?_map,hgk];rfl)
    obtain ⟨a1,la,rfl,hA,hL⟩:=zga rv
    obtain ⟨lk,lb⟩:=wf.legs k g hgk
    have lb':∀ l∈g.2,0≤l∧l < ((row.length+k:Nat):Int):=fun l hl'=>by have:=lb l hl';omega
    have l4:=lk.le
    have ed:(i:Int) - w.ins=(k:Int):=by omega
    obtain ⟨ws,ews⟩:∃ ws:List Int,(g.2.map fun l=>W.getD l.toNat 0)=ws:=⟨_,rfl⟩
    have lws:ws.length=g.2.length:=by rw [← ews,List.length_map]
    have bws:Bits ws:=fun z hz=>by
     rw [← ews] at hz
     obtain ⟨l,hl',rfl⟩:=List.mem_map.mp hz
     exact zb6 bW (by rw [lW];have:=lb' l hl';omega)
    have fin:W[i]? =some (pick fs (zb2 i) (zcH g.1 (zcK fs k ws))):=by
     rw [ek,← ews,← eW]
     exact zlC fs hgk hk lb'
    refine ⟨_,rfl,a,_,_,_,rfl,rfl,s3.seqT ha,rfl,_,rfl,_,rfl,a,_,_,_,rfl,rfl,s3.seqT ha,rfl,_,_,rfl,rfl,ga,_,_,_,rfl,rfl,s3.seq hg,by rw [ed];exact zc9 hv,a1,_,rfl,s3.seqT hA,rfl,_,_,rfl,_,_,rfl,rfl,?_⟩
    refine ⟨_,rfl,la,rfl,⟨_,s3.seqT hL⟩,fun D hD=>zhT (K:=K) (a:=la) (xs:=g.2.map V.int) (fun j H5=>Off [D] H3 H5∧H5 D=some (.lst ((ws.take j).map V.int)))
     ⟨Off.start hD _,zab⟩ (fun j H5 _ ⟨off,_⟩=>(s3.trans off.same).seqT hL) ?_ ?_⟩
    ·rintro j y H5 hy ⟨off,eD⟩
     rw [List.getElem?_map] at hy
     cases hz:g.2[j]? with
     | none=>rw [hz] at hy;cases hy
     | some l=>
      rw [hz] at hy
      cases hy
      have bl:=lb' l (List.mem_of_getElem? hz)
      have lj:j < g.2.length:=(List.getElem?_eq_some_iff.mp hz).1
      have ewj:ws[j]? =some (W.getD l.toNat 0):=by rw [← ews,List.getElem?_map,hz];rfl
      have eg:(W.take i).getD l.toNat 0=W.getD l.toNat 0:=by
       rw [List.getD_eq_getElem?_getD,List.getD_eq_getElem?_getD,List.getElem?_take_of_lt (by omega)]
      refine ⟨_,rfl,_,rfl,r,_,_,_,rfl,rfl,.of (off.same _ _ er),zbT bl.1 (by rw [lt];omega),_,eD,big (by rw [List.length_map,List.length_take];omega),off.write (.head _) _,?_⟩
      rw [zab,List.take_add_one,ewj,eg]
      simp
    rintro H5 ⟨off,eD⟩
    rw [List.length_map,← lws,List.take_length] at eD
    have rD:r≠D:=zal er hD
    have s35:=s3.trans off.same
    refine' joinP (C:=fun H6=>Off [D] H3 H6∧H6 D=some (.lst ((zcK fs k ws).map V.int))) (fun rest2=>_) _
    rotate_left
    ·rcases fc with ⟨e1,c1⟩ | ⟨i0,u,e1,d1,c1⟩ | ⟨g0,p0,u,gt,e1,d1,e2,f2,c1⟩
     ·subst e1
      refine ⟨_,rfl,b,_,_,_,rfl,rfl,s35.seqT c1,rfl,rfl,_,rfl,ifN (by decide+kernel) ?_⟩
      exact iteF (rest2 H5 ⟨off,by rw [zjy];exact eD⟩)
     ·subst e1
      refine ⟨_,rfl,b,_,_,_,rfl,rfl,s35.seqT c1,rfl,rfl,_,rfl,ifN (by decide+kernel) ?_⟩
      exact iteF (rest2 H5 ⟨off,by rw [zjl (fun i=>by simp [zb2,legK])];exact eD⟩)
     ·subst e1
      refine ⟨_,rfl,b,_,_,_,rfl,rfl,s35.seqT c1,rfl,rfl,_,rfl,ifY rfl ?_⟩
      refine ⟨_,rfl,b,_,_,_,rfl,rfl,s35.seqT c1,rfl,_,rfl,_,rfl,a,_,_,_,rfl,rfl,s35.seqT ha,rfl,_,_,rfl,rfl,rfl,_,rfl,ite2 (fun c2=>?_) (fun c2=>?_)⟩
      ·have c3:(g0:Int)=(i:Int) - w.ins:=V.int.inj (of_decide_eq_true c2)
       have:g0=k:=by omega
       subst this
       rw [hgk] at e2
       cases e2
       refine ⟨_,rfl,b,_,_,_,rfl,rfl,s35.seqT c1,rfl,_,rfl,_,rfl,b,_,_,_,rfl,rfl,s35.seqT c1,rfl,D,_,_,p0,rfl,rfl,eD,?_,?_⟩
       ·unfold ixN
        rw [if_pos (by omega),if_pos (by rw [List.length_map];omega),Int.toNat_natCast]
       ·refine rest2 _ ⟨off.write (.head _) _,?_⟩
        rw [zab,zlf ws (by omega),List.map_set]
      ·have c3:¬(g0:Int)=(i:Int) - w.ins:=fun z=>c2 (decide_eq_true (by rw [z]))
       refine rest2 H5 ⟨off,?_⟩
       rw [zjl (fun z e=>c3 (by
        have:(g0:Int)=(k:Int):=by simp [legK] at e;omega
        omega))]
       exact eD
    ·rintro H6 ⟨off6,eD6⟩
     have s36:=s3.trans off6.same
     have bl6:Bits (zcK fs k ws):=zey fc.bits bws
     refine ⟨_,rfl,_,rfl,g.1,D,_,rfl,.of eD6,bl6,by rw [zdB,lws];exact lk,?_⟩
     exact rest (zcH g.1 (zcK fs k ws),some (.ref D),some (.str g.1),some (.ref la)) H6 ⟨off6.same,fin⟩
  ·rintro ⟨x5,y6,y7,y8⟩ H9 ⟨s9,eWi⟩
   have s39:=s3.trans s9
   have er9:=s9 _ _ er
   refine' joinV (C:=fun v=>v= .int (pick fs (zb2 i) x5)) (st:=fun v=>[some (.ref a),some (.ref b),some (.ref p),some (.ref r),some (.int i),some v,y6,y7,y8]) (H:=H9) (fun rest=>_) _
   rotate_left
   ·rcases fc with ⟨e1,c1⟩ | ⟨i0,u,e1,d1,c1⟩ | ⟨g0,p0,u,gt,e1,d1,e2,f2,c1⟩
    ·subst e1
     refine ⟨_,rfl,b,_,_,_,rfl,rfl,s39.seqT c1,rfl,rfl,_,rfl,ifN (by decide+kernel) ?_⟩
     exact iteF (rest (.int x5) (by rw [zlp]))
    ·subst e1
     refine ⟨_,rfl,b,_,_,_,rfl,rfl,s39.seqT c1,rfl,rfl,_,rfl,ifY rfl ?_⟩
     refine ⟨_,rfl,b,_,_,_,rfl,rfl,s39.seqT c1,rfl,_,rfl,rfl,_,rfl,ite2 (fun c2=>?_) (fun c2=>?_)⟩
     ·have c3:(i0:Int)=(i:Int):=V.int.inj (of_decide_eq_true c2)
      refine ⟨_,rfl,b,_,_,_,rfl,rfl,s39.seqT c1,rfl,rest (.int u) ?_⟩
      rw [c3,ze6]
     ·have c3:¬(i0:Int)=(i:Int):=fun z=>c2 (decide_eq_true (by rw [z]))
      refine rest (.int x5) ?_
      unfold pick
      rw [zeh,if_neg (fun e=>c3 (by simp [zb2] at e;omega))]
      rfl
    ·subst e1
     refine ⟨_,rfl,b,_,_,_,rfl,rfl,s39.seqT c1,rfl,rfl,_,rfl,ifN (by decide+kernel) ?_⟩
     exact iteF (rest (.int x5) (by rw [zjU]))
   ·rintro _ rfl
    refine ⟨_,rfl,.inl ⟨rfl,_,.of er9⟩,_,rfl,r,_,_,rfl,rfl,er9,big (by rw [List.length_map,lt];omega),hE _ _ ⟨_,_,_,_,_,rfl,s39.write hr1 _,?_⟩⟩
    rw [zab,List.take_add_one,eWi,List.map_append]
    rfl
 ·rintro σ H3 ⟨o4,o5,o6,o7,o8,rfl,s3,er⟩
  have eo:=zd5 ro
  subst eo
  have et:W.take (w.ins+((gs.length:Nat):Int)).toNat=W:=List.take_of_length_le (by omega)
  rw [et] at er
  refine ⟨_,rfl,a,_,_,_,rfl,rfl,s3.seqT ha,rfl,oa,rfl,⟨_,s3.seq ho⟩,fun D hD=>zbo (K:=K) (a:=oa) (xs:=w.outs.map V.int) (fun j H5=>Off [D] H3 H5∧H5 D=some (.lst (((w.outs.take j).map fun o=>W.getD o.toNat 0).map V.int)))
   ⟨Off.start hD _,zab⟩ (fun j H5 _ ⟨off,_⟩=>(s3.trans off.same).seq ho) ?_ ?_⟩
  ·rintro j y H5 hy ⟨off,eD⟩
   rw [List.getElem?_map] at hy
   cases hz:w.outs[j]? with
   | none=>rw [hz] at hy;cases hy
   | some o=>
    rw [hz] at hy
    cases hy
    have bo:=wf.outs o (List.mem_of_getElem? hz)
    have lj:j < w.outs.length:=(List.getElem?_eq_some_iff.mp hz).1
    have o3':=wf.o3
    refine ⟨_,rfl,_,rfl,r,_,_,_,rfl,rfl,.of (off.same _ _ er),zbT bo.1 (by omega),_,eD,big (by rw [List.length_map,List.length_map,List.length_take];omega),off.write (.head _) _,?_⟩
    rw [zab,List.take_add_one,hz]
    simp
  ·rintro H5 ⟨off,eD⟩
   rw [List.length_map,List.take_length] at eD
   exact q D H5 (s3.trans off.same) (s3.free hD) (by rw [eD];unfold zdX;rw [eW])
theorem zcv:zax ["works","rows","found","fault"] ["works"] (zag zbx):=⟨rfl,rfl,rfl,by decide+kernel,rfl,by decide+kernel,by decide+kernel⟩
theorem zfM (T:Txt K mg t):FnOk P w K mg base CX0 3 t.f_law_answers t.fd_law_answers ["works"] (sp_la K):=by
 refine T.d_law_answers.F.okB zcv (fun vs H Q E h=>?_) (fun cdv A outer s H vs Q E hr h=>?_)
 ·obtain ⟨x,w,rfl,_⟩:=h
  rfl
 obtain ⟨x,w,rfl,hx,wf,q⟩:=h
 obtain ⟨a,ga,oa,gs,os,rfl,ha,hg,ho,rg,ro⟩:=zcl hx
 have i1:=wf.i1
 have i6:=wf.i6
 have lf:=zcV wf
 have many:=zaZ w.ins.toNat
 have h64:=pow6 (n:=w.ins.toNat) (by omega)
 refine ⟨_,(zad (zak (k:=1) zcv.nd rfl (Or.inl rfl) (zan (zdy T) (hr.mono (by decide)) rfl T.d_law_all_rows.m T.d_law_all_rows.F.kp T.d_law_all_rows.b .nil zaU (zaa (zao zaB (bpv 0) zae (fun _ _=>rfl)) (zac))))
  (zad (zak (k:=2) zcv.nd rfl (Or.inl rfl) (zay (zaa (zaJ (zaa (zaJ (zaa zav (zac))) (zaa (zaQ rfl (N:=["row","works"]) (n:=1) (cap:=[0]) (zbU rfl rfl) (zaI (bpv 1)) (zaL (by decide)) (fun _ _ _ _=>(zaj (k:=0) (show (["row","works"]:List Str).Nodup by decide+kernel) rfl (Or.inl rfl))) (fun _ _ _ _=>za3) (fun _ _ _ _=>(zan (ze5 T) (hr.mono (by decide)) rfl T.d_law_outs.m T.d_law_outs.F.kp T.d_law_outs.b .nil zaU (zaa (bpv 1) (zaa (zaJ (zaa zav (zac))) (zaa (bpv 0) (zac))))))) (zac)))) (zac))))
  (zad (zaK PassesOwn.never rfl (zaI (zan (zgf T) (hr.mono (by decide)) rfl T.d_law_faults.m T.d_law_faults.F.kp T.d_law_faults.b .nil zaU (zaa (bpv 0) (zac)))) (zaj (k:=3) zcv.nd rfl (Or.inr rfl)) (zah (zbl (zdq PySem.F.plainAttrs_list PySem.F.slot_list_append PySem.F.type_list_append zbn (bpv 2) (zaa (zaJ (zaa (bpv 3) (zaa (zaQ rfl (N:=["row","works","fault"]) (n:=1) (cap:=[0,3]) (zbU rfl rfl) (zaI (bpv 1)) (zaL (by decide)) (fun _ _ _ _=>(zaj (k:=0) (show (["row","works","fault"]:List Str).Nodup by decide+kernel) rfl (Or.inl rfl))) (fun _ _ _ _=>za3) (fun _ _ _ _=>(zan (ze5 T) (hr.mono (by decide)) rfl T.d_law_outs.m T.d_law_outs.F.kp T.d_law_outs.b .nil zaU (zaa (bpv 1) (zaa (bpv 2) (zaa (bpv 0) (zac))))))) (zac)))) (zac))))))
  (zah (zar (bpv 2)))))),?_⟩
 refine ⟨_,rfl,a,_,_,_,rfl,rfl,ha,rfl,w.ins,rfl,by omega,i6,fun R qs H1 s1 eR at1=>?_⟩
 have lq:=at1.len
 refine ⟨(by show 1≤sizeLine;decide),fun B hB=>?_⟩
 have k2:=zaf hB (.tup [.str "well"])
 generalize upd H1 B (.tup [.str "well"])=H2 at k2
 have s2:=s1.trans k2
 have lm:∀ fs,(zbk w fs).length=(qs.map V.ref).length:=fun fs=>by unfold zbk;rw [List.length_map,List.length_map];exact lq.symm
 refine ⟨_,rfl,R,rfl,⟨_,.of (k2 _ _ eR)⟩,fun D hD=>zbo (K:=K) (a:=R) (xs:=qs.map V.ref)
  (fun i H4=>∃ xs,Off [D] H2 H4∧H4 D=some (.lst xs)∧Paired (fun v row=>∃ q,v= .ref q∧q≠D∧H4 q=some (.lst (row.map V.int))) xs ((zbk w []).take i))
  ⟨[],Off.start hD _,zab,.nil⟩ (fun i H4 _ ⟨_,off,_⟩=>.of ((k2.trans off.same) _ _ eR)) ?_ ?_⟩
 ·rintro i v H4 hv ⟨xs,off,eD,pr⟩
  rw [List.getElem?_map] at hv
  cases hz:qs[i]? with
  | none=>rw [hz] at hv;cases hv
  | some qq=>
   rw [hz] at hv
   cases hv
   obtain ⟨row,hrow,eq⟩:=at1.get hz
   have rr:=zcB _ _ (List.mem_of_getElem? hrow)
   have s4:=s2.trans off.same
   have lp:=Paired.length pr
   have li:i < qs.length:=(List.getElem?_eq_some_iff.mp hz).1
   rw [List.length_take] at lp
   refine ⟨_,rfl,(by show 1≤sizeLine;decide),fun B2 hB2=>?_⟩
   have k5:=zaf hB2 (.tup [.str "well"])
   refine ⟨_,rfl,.ref a,B2,qq,w,[],row,rfl,hx.mono (s4.trans k5),wf,.inl ⟨rfl,.of zab⟩,.of ((k2.trans (off.same.trans k5)) _ _ eq),by rw [rr.1];omega,rr.2,fun r H5 s5 n5 e5=>?_⟩
   have s45:=k5.trans s5
   have rD:r≠D:=Ne.symm (zal (k5 _ _ eD) n5)
   refine ⟨xs,s45 _ _ eD,big (by omega),xs++ [.ref r],(off.grow s45).write (.head _) _,zab,?_⟩
   rw [zfY hrow]
   exact Paired.snoc (Paired.mapP pr fun v row ⟨q,a1,a3,a4⟩=>⟨q,a1,a3,by rw [zai a3];exact s45 _ _ a4⟩) ⟨r,rfl,rD,by rw [zai rD];exact e5⟩
 rintro H4 ⟨xs,off,eD,pr⟩
 rw [← lm [],List.take_length] at pr
 have s4:=s2.trans off.same
 refine ⟨(by show 2≤sizeLine;decide),fun t0 ht0=>?_⟩
 have k5:=zaf ht0 (.tup [.ref B,.ref D])
 refine ⟨(by show 1≤sizeLine;decide),fun F hF=>?_⟩
 have k6:=zaf hF (.lst [.ref t0])
 have s6:=(s4.trans k5).trans k6
 have mk:zfm (upd H4 t0 (.tup [.ref B,.ref D])) D (zbk w []):=zfm.mono ⟨xs,eD,Paired.mapP pr fun v row ⟨q,a1,_,a4⟩=>⟨q,a1,a4⟩⟩ k5
 have et0:=zab (H:=H4) (a:=t0) (o:=.tup [.ref B,.ref D])
 have eR5:=(k2.trans (off.same.trans k5)) _ _ eR
 have at5:=at1.mono (k2.trans (off.same.trans k5))
 have s5:=s4.trans k5
 generalize upd H4 t0 (.tup [.ref B,.ref D])=H5 at k5 k6 s6 mk et0 eR5 at5 s5 hF
 refine ⟨_,rfl,.ref a,w,rfl,hx.mono s6,wf,fun L fs H8 s8 nL eL fa=>?_⟩
 have eF8:=s8 _ _ (zab (H:=H5) (a:=F) (o:=.lst [.ref t0]))
 have LF:F≠L:=zal (zab (H:=H5) (a:=F) (o:=.lst [.ref t0])) nL
 have sG:Same H5 (hole F H8):=zdg (k6.trans s8) hF
 have eLG:hole F H8 L=some (.lst fs):=by rw [zaT (Ne.symm LF)];exact eL
 have faG:FAll (hole F H8) fs (allF w):=Paired.mapP fa fun v f ⟨b,e1,e2⟩=>⟨b,e1,by rw [zaT (fun z=>by rw [z,eF8] at e2;cases e2)];exact e2⟩
 have lfs:=Paired.length fa
 refine ⟨L,rfl,⟨_,.of eL⟩,zb0 (K:=K) (a:=L) (xs:=fs) (fun i σ H9=>∃ (o3:Option V) (us:List V),σ = [some (.ref a),some (.ref R),some (.ref F),o3]∧Off [F] (hole F H8) H9∧H9 F=some (.lst (.ref t0::us))∧Paired (zjN (hole F H9) w) us ((allF w).take i))
  ⟨_,[],rfl,zcx eF8,eF8,.nil⟩ (fun i σ H9 _ ⟨_,_,_,of9,_⟩=>.of (of9.same _ _ eLG)) ?_ ?_⟩
 ·rintro i v σ H9 hv ⟨o3,us,rfl,of9,eF,pu⟩
  obtain ⟨f,hf,b,rfl,hb⟩:=zaY faG hv
  have li:i < (allF w).length:=(List.getElem?_eq_some_iff.mp hf).1
  have et:(allF w).take (i+1)=(allF w).take i++ [f]:=by rw [List.take_add_one,hf];rfl
  have gf:=zbM (List.mem_of_getElem? hf)
  have lu:=Paired.length pu
  rw [List.length_take] at lu
  have s9:Same H5 H9:=sG.trans of9.same
  refine ⟨_,rfl,.inl ⟨rfl,_,.of eF⟩,_,rfl,_,rfl,R,rfl,⟨_,.of (s9 _ _ eR5)⟩,fun D2 hD2=>zbo (K:=K) (a:=R) (xs:=qs.map V.ref)
   (fun i H4=>∃ xs,Off [D2] H9 H4∧H4 D2=some (.lst xs)∧Paired (fun v row=>∃ q,v= .ref q∧q≠D2∧q≠F∧H4 q=some (.lst (row.map V.int))) xs ((zbk w [f]).take i))
   ⟨[],Off.start hD2 _,zab,.nil⟩ (fun i H4 _ ⟨_,off,_⟩=>.of ((s9.trans off.same) _ _ eR5)) ?_ ?_⟩
  ·rintro i v H4 hv ⟨xs,off,eD,pr⟩
   rw [List.getElem?_map] at hv
   cases hz:qs[i]? with
   | none=>rw [hz] at hv;cases hv
   | some qq=>
    rw [hz] at hv
    cases hv
    obtain ⟨row,hrow,eq⟩:=at5.get hz
    have rr:=zcB _ _ (List.mem_of_getElem? hrow)
    have lp:=Paired.length pr
    have li:i < qs.length:=(List.getElem?_eq_some_iff.mp hz).1
    rw [List.length_take] at lp
    have s94:=s9.trans off.same
    refine ⟨_,rfl,_,rfl,_,rfl,.ref a,b,qq,w,[f],row,rfl,hx.mono (s5.trans s94),wf,FC.of gf ((of9.same.trans off.same) _ _ hb),.of (s94 _ _ eq),by rw [rr.1];omega,rr.2,fun r H5 s5 n5 e5=>?_⟩
    have rD:r≠D2:=Ne.symm (zal eD n5)
    have rF:r≠F:=Ne.symm (zal (off.same _ _ eF) n5)
    refine ⟨xs,s5 _ _ eD,big (by omega),xs++ [.ref r],(off.grow s5).write (.head _) _,zab,?_⟩
    rw [zfY hrow]
    exact Paired.snoc (Paired.mapP pr fun v row ⟨q,a1,a3,a5,a4⟩=>⟨q,a1,a3,a5,by rw [zai a3];exact s5 _ _ a4⟩) ⟨r,rfl,rD,rF,by rw [zai rD];exact e5⟩
  ·rintro H4 ⟨xs,off,eD,pr⟩
   rw [← lm [f],List.take_length] at pr
   refine ⟨(by show 2≤sizeLine;decide),fun t1 ht1=>?_⟩
   have k5:=zaf ht1 (.tup [.ref b,.ref D2])
   have s95:=off.same.trans k5
   have D2F:D2≠F:=Ne.symm (zal eF hD2)
   have t1F:t1≠F:=Ne.symm (zal (off.same _ _ eF) ht1)
   have bF:b≠F:=fun z=>by
    have:=of9.out F (.head _)
    rw [z,this] at hb
    cases hb
   refine ⟨F,_,_,rfl,rfl,s95 _ _ eF,big (by show us.length+1≤100000;omega),?_⟩
   refine ⟨_,us++ [.ref t1],rfl,(of9.grow s95).write (.head _) _,zab,?_⟩
   rw [et]
   refine Paired.snoc (Paired.mapP pu fun _ _ z=>z.mono (zhi s95 eF _)) ⟨t1,b,D2,rfl,?_,?_,xs,?_,Paired.mapP pr fun v row ⟨q,a1,a3,a5,a4⟩=>⟨q,a1,?_⟩⟩
   ·rw [zaT t1F,zai t1F]
    exact zab
   ·rw [zaT bF,zai bF]
    exact s95 _ _ (of9.same _ _ hb)
   ·rw [zaT D2F,zai D2F]
    exact k5 _ _ eD
   ·rw [zaT a5,zai a5]
    exact k5 _ _ a4
 ·rintro σ H9 ⟨o3,us,rfl,of9,eF,pu⟩
  rw [lfs,List.take_length] at pu
  have s9:Same H5 H9:=sG.trans of9.same
  exact ⟨_,rfl,q F t0 B D us H9 (s5.trans s9) (s5.free hF) eF (s9 _ _ et0) (mk.mono s9) (Paired.mapP pu fun _ _ z=>z.mono (zcx eF).same)⟩
theorem zbG:zax ["works","answers","well","found","fault","outs"] ["works"] (zag zbz):=⟨rfl,rfl,rfl,by decide+kernel,rfl,by decide+kernel,by decide+kernel⟩
theorem zfN (T:Txt K mg t):FnOk P w K mg base CX0 4 t.f_law_finding t.fd_law_finding ["works"] (sp_lfd K):=by
 refine T.d_law_finding.F.okB zbG (fun vs H Q E h=>?_) (fun cdv A outer s H vs Q E hr h=>?_)
 ·obtain ⟨x,w,rfl,_⟩:=h
  rfl
 obtain ⟨x,w,rfl,hx,wf,q⟩:=h
 have hu1:=zfP hr
 have hu64:=hr.units
 have lf:=zcV wf
 have h64:=pow6 (n:=w.ins.toNat) (by have:=wf.i6;omega)
 refine ⟨_,(zad (zak (k:=1) zbG.nd rfl (Or.inl rfl) (zan (zfM T) (hr.mono (by decide)) rfl T.d_law_answers.m T.d_law_answers.F.kp T.d_law_answers.b .nil zaU (zaa (bpv 0) (zac))))
  (zad (zak (k:=2) zbG.nd rfl (Or.inr rfl) (zao zaB (zao zaH (bpv 1) zae (fun _ _=>rfl)) zae (fun _ _=>rfl)))
  (zad (zak (k:=3) zbG.nd rfl (Or.inl rfl) zd3)
  (zad (zaK PassesOwn.never rfl (zaI (zcP zeE (bpv 1) (zcZ zae) zdI)) (zdi rfl (zaz (zaj (k:=4) zbG.nd rfl (Or.inl rfl)) (zaz (zaj (k:=5) zbG.nd rfl (Or.inr rfl)) zbW))) (zah (zgt hu1 (bpv 3) (bpv 4) (zaQ rfl (N:=["k","outs","well"]) (n:=1) (cap:=[5,2]) (zbU rfl rfl) (zaO rfl T.z_range (zaa (zaw zau rfl T.z_len PySem.boot_len (zaa (bpv 2) (zac))) (zac))) (zaL (by decide)) (fun _ _ _ _=>(zaj (k:=0) (show (["k","outs","well"]:List Str).Nodup by decide+kernel) rfl (Or.inl rfl))) (fun _ _ _ _=>(zem (zas (zmb (K:=K) hu64) (zao (zcU (K:=K)) (bpv 1) (bpv 0) (fun _ _=>rfl)) (zao (zcU (K:=K)) (bpv 2) (bpv 0) (fun _ _=>rfl)) (zaF _)))) (fun _ _ _ _=>(bpv 0))) rfl)))
  (zah (zar (bpv 3))))))),?_⟩
 refine ⟨_,rfl,x,w,rfl,hx,wf,fun r t0 b0 m0 xs H1 s1 nr er et0 mk pa=>?_⟩
 refine ⟨_,rfl,r,_,_,_,rfl,rfl,.of er,zc9 (j:=0) rfl,t0,_,_,_,rfl,rfl,.of et0,rfl,fun fd hfd=>?_⟩
 have k2:=zaf hfd (.dT [])
 refine ⟨_,rfl,_,rfl,r,_,rfl,.of (k2 _ _ er),fun L hL=>?_⟩
 rw [zjK]
 have k3:=zaf hL (.lst xs)
 have s13:=k2.trans k3
 have ef3:=k3 _ _ (zab (H:=H1) (a:=fd) (o:=.dT []))
 have eL3:=zab (H:=upd H1 fd (.dT [])) (a:=L) (o:=.lst xs)
 have sG:Same H1 (hole fd (upd (upd H1 fd (.dT [])) L (.lst xs))):=zdg s13 hfd
 have hf0:=s1.free hfd
 have off:=zcx ef3
 have eLG:hole fd (upd (upd H1 fd (.dT [])) L (.lst xs)) L=some (.lst xs):=by rw [zaT (Ne.symm (zal (zab (H:=H1) (a:=fd) (o:=.dT [])) hL))];exact eL3
 generalize upd (upd H1 fd (.dT [])) L (.lst xs)=H3 at ef3 eL3 sG off eLG
 generalize hole fd H3=G at sG off eLG
 have mkG:=mk.mono sG
 have lx:=Paired.length pa
 refine ⟨L,rfl,⟨_,.of eL3⟩,zb0 (K:=K) (a:=L) (xs:=xs) (fun i σ H4=>∃ (o4 o5:Option V) (kvs:List (List Key×V)),σ = [some x,some (.ref r),some (.ref m0),some (.ref fd),o4,o5]∧Off [fd] G H4∧H4 fd=some (.dT kvs)∧zbJ H4 w kvs ((allF w).take i))
  ⟨_,_,[],rfl,off,ef3,.nil⟩ (fun i σ H4 _ ⟨_,_,_,_,o,_⟩=>.of (o.same _ _ eLG)) ?_ ?_⟩
 ·rintro i v σ H4 hv ⟨o4,o5,kvs,rfl,of4,ef4,fd4⟩
  obtain ⟨f,hf,t,b,m,rfl,ht,hb,mf⟩:=zaY pa hv
  have li:i < (allF w).length:=(List.getElem?_eq_some_iff.mp hf).1
  have et:(allF w).take (i+1)=(allF w).take i++ [f]:=by rw [List.take_add_one,hf];rfl
  have gf:=zbM (List.mem_of_getElem? hf)
  have s14:=sG.trans of4.same
  obtain ⟨zs,ez,pz⟩:=mkG
  obtain ⟨ys,ey,py⟩:=mf.mono sG
  have lz:=Paired.length pz
  have ly:=Paired.length py
  rw [zjj] at lz ly
  refine ⟨t,_,rfl,.of (s14 _ _ ht),rfl,_,_,rfl,_,_,rfl,rfl,?_⟩
  refine ⟨_,rfl,m0,_,rfl,.inl (.of (of4.same _ _ ez)),_,rfl,by omega,by omega,fun D hD=>?_⟩
  refine zdG (fun j H5=>Off [D] H4 H5∧H5 D=some (.lst (zaD ((List.range j).filter fun j=>decide ((zbk w [f]).getD j []≠(zbk w []).getD j []))))) ⟨Off.start hD _,zab⟩ ?_ ?_
  ·rintro j H5 hj ⟨of5,eD⟩
   rw [Int.zero_add]
   have lj:j < 2 ^ w.ins.toNat:=by omega
   obtain ⟨y,hy⟩:∃ y,ys[j]? =some y:=⟨_,List.getElem?_eq_getElem (by omega)⟩
   obtain ⟨z,hz⟩:∃ z,zs[j]? =some z:=⟨_,List.getElem?_eq_getElem (by omega)⟩
   obtain ⟨ry,hry,qy,rfl,e1⟩:=zaY py hy
   obtain ⟨rz,hrz,qz,rfl,e2⟩:=zaY pz hz
   have s45:=of4.same.trans of5.same
   have g1:(zbk w [f]).getD j []=ry:=by rw [List.getD_eq_getElem?_getD,hry];rfl
   have g2:(zbk w []).getD j []=rz:=by rw [List.getD_eq_getElem?_getD,hrz];rfl
   refine ⟨_,rfl,_,rfl,m,_,_,_,rfl,rfl,.of (s45 _ _ ey),zc9 hy,_,rfl,_,rfl,m0,_,_,_,rfl,rfl,.of (s45 _ _ ez),zc9 hz,_,_,Rep.lst (.of (s45 _ _ e1)) (Reps.ints _),Rep.lst (.of (s45 _ _ e2)) (Reps.ints _),za9 _,za9 _,fun e=>⟨_,rfl,iteF ⟨of5,?_⟩⟩,fun e=>⟨_,rfl,iteT ⟨_,rfl,_,eD,?_,of5.write (.head _) _,?_⟩⟩⟩
   ·have e':ry=rz:=List.map_inj_right (fun x y e=>Dat.int.inj e) |>.mp (Dat.list.inj e)
    rw [eD,List.range_succ,List.filter_append,List.filter_cons_of_neg (by rw [g1,g2,e'];simp),List.filter_nil,List.append_nil]
   ·rw [zaN]
    have:=List.length_filter_le (fun j=>decide ((zbk w [f]).getD j []≠(zbk w []).getD j [])) (List.range j)
    rw [List.length_range] at this
    exact big (by omega)
   ·have e':ry≠rz:=fun z=>e (by rw [z])
    rw [zab,List.range_succ,List.filter_append,List.filter_cons_of_pos (by rw [g1,g2];exact decide_eq_true e')]
    unfold zaD
    rw [List.map_append]
    rfl
  ·rintro H5 ⟨of5,eD⟩
   have e64:(((zs.length:Nat):Int)).toNat=2 ^ w.ins.toNat:=by omega
   rw [e64] at eD
   have eD':H5 D=some (.lst (zaD (zaM w f))):=by rw [zdx gf wf];exact eD
   have ef5:=of5.same _ _ ef4
   have lk:kvs.length≤400:=by
    have:=Paired.length fd4
    rw [List.length_take] at this
    omega
   have nf:f∉(allF w).take i:=fun z=>by
    have nd:=zdM w
    rw [← List.take_append_drop (i+1) (allF w),et] at nd
    exact (List.nodup_append.mp (List.nodup_append.mp nd).1).2.2 _ z _ (List.mem_singleton.mpr rfl) rfl
   have nv:=zbJ.miss fd4 nf
   have Dd:D≠fd:=fun z=>by rw [z,ef5] at eD';cases eD'
   refine ⟨_,rfl,_,rfl,fd,_,rfl,DPut.t (k:=fkK f) ef5 (by rw [zhy];exact (s14.trans of5.same) _ _ hb) (big (by omega)),_,_,_,rfl,(of4.grow of5.same).write (.head _) _,zab,?_⟩
   rw [zeR _ nv,et]
   exact zdZ ((fd4.mono of5.same).put ef5 _) ⟨rfl,D,rfl,by rw [zai Dd];exact eD'⟩
 ·rintro σ H4 ⟨o4,o5,kvs,rfl,of4,ef4,fd4⟩
  rw [lx,List.take_length] at fd4
  exact ⟨_,rfl,q fd kvs H4 (s1.trans (sG.trans of4.same)) hf0 ef4 fd4⟩
theorem zdW:zax ["finding","taken","left","one"] ["finding","taken"] (zag zcq):=⟨rfl,rfl,rfl,by decide+kernel,rfl,by decide+kernel,by decide+kernel⟩
theorem zgT (T:Txt K mg t):FnOk P w K mg base CX0 1 t.f_law_open t.fd_law_open ["finding","taken"] (zlu K):=by
 refine T.d_law_open.F.okB zdW (fun vs H Q E h=>?_) (fun cdv A outer s H vs Q E hr h=>?_)
 ·obtain ⟨d,a,w,kvs,ts,rfl,_⟩:=h
  rfl
 obtain ⟨d,a,w,kvs,ts,rfl,hd,fd,wf,ha,q⟩:=h
 have hu1:=zfP hr
 have hu64:=hr.units
 have lf:=zcV wf
 have lk:=Paired.length fd
 refine ⟨_,(zad (zak (k:=2) zdW.nd rfl (Or.inl rfl) (zay zac))
  (zad (zaK PassesOwn.never rfl (zkI (bpv 0)) (zaj (k:=3) zdW.nd rfl (Or.inl rfl)) (zah (zaW (zdQ (zhs (zas (zki hu64) (zeg hu1 (bpv 0) (bpv 3) (fun _ _=>rfl)) (zay zac) (zaF _)) (zgl (zas (zig hu64) (zaQ rfl (N:=["k","taken"]) (n:=1) (cap:=[1]) (zbU rfl rfl) (zaI (zeg hu1 (bpv 0) (bpv 3) (fun _ _=>rfl))) (zaL (by decide)) (fun _ _ _ _=>(zaj (k:=0) (show (["k","taken"]:List Str).Nodup by decide+kernel) rfl (Or.inl rfl))) (fun _ _ _ _=>(zem (zas (zdK (K:=K)) (bpv 0) (bpv 1) rfl))) (fun _ _ _ _=>(bpv 0))) (zay zac) (zaF _))))) (zah (zbl (zdq PySem.F.plainAttrs_list PySem.F.slot_list_append PySem.F.type_list_append zbn (bpv 2) (zaa (bpv 3) (zac))))) zaA)))
  (zah (zar (bpv 2))))),?_⟩
 refine ⟨(by show 0≤sizeLine;decide),fun R hR=>?_⟩
 have dR:d≠R:=zal hd hR
 refine ⟨_,rfl,d,kvs,rfl,zaf hR _ _ _ hd,fun ob=>?_⟩
 obtain ⟨G,eG⟩:∃ G,upd H d (.frz ob (.dT kvs))=G:=⟨_,rfl⟩
 have nG:G R=none:=by rw [← eG,zai (Ne.symm dR)];exact hR
 have com:upd (upd H R (.lst [])) d (.frz ob (.dT kvs))=upd G R (.lst []):=by
  rw [← eG]
  funext b
  by_cases z:b=d
  ·rw [z,zab,zai dR,zab]
  ·rw [zai z]
   by_cases y:b=R
   ·rw [y,zab,zab]
   ·rw [zai y,zai y,zai z]
 have sG:Same (hole d H) G:=fun b o e=>by
  by_cases z:b=d
  ·unfold hole at e
   rw [if_pos z] at e
   cases e
  ·rw [zaT z] at e
   rw [← eG,zai z]
   exact e
 have haG:SqL K G a (zaD ts):=sG.seq (ze4 ha hd)
 have fdG:zbJ G w kvs (allF w):=by rw [← eG];exact fd.put hd _
 have edG:G d=some (.frz ob (.dT kvs)):=by rw [← eG,zab]
 rw [com]
 refine zlk (d:=d) (ob:=ob) (kvs:=kvs) (fun i σ H4=>∃ (o3:Option V) (ys:List V),σ = [some (.ref d),some (.ref a),some (.ref R),o3]∧Off [R] G H4∧H4 R=some (.lst ys)∧zda H4 ys (((allF w).take i).filter fun f=>decide (zaM w f≠[]) && !zbt (zaM w f) ts))
  ⟨_,[],rfl,Off.start nG _,zab,.nil⟩ (fun i σ H4 _ ⟨_,_,_,o,_⟩=>o.same _ _ edG) ?_ ?_
 ·rintro i b p σ H4 hp ⟨o3,ys,rfl,of4,eR,fa⟩ hb
  obtain ⟨f,hf,ep,l,el,hl⟩:=zaY fdG hp
  have li:i < (allF w).length:=(List.getElem?_eq_some_iff.mp hf).1
  have et:(allF w).take (i+1)=(allF w).take i++ [f]:=by rw [List.take_add_one,hf];rfl
  have gf:=zbM (List.mem_of_getElem? hf)
  have hit:=zbJ.hit fdG (zdM w) hp hf
  rw [el] at hit
  rw [ep] at hb
  have lf2:=Paired.length fa
  have lf3:=List.length_filter_le (fun f=>decide (zaM w f≠[]) && !zbt (zaM w f) ts) ((allF w).take i)
  rw [List.length_take] at lf3
  have dg:∀ {H5:Hp},Same H4 H5→DGet H5 d (.ref b) (some (.ref l)):=fun {H5} s=>.inr ⟨kvs,fkK f,b,.inr ⟨ob,s _ _ (of4.same _ _ edG)⟩,rfl,hb.same s,hit.symm⟩
  have ln:=zgu gf wf
  refine ⟨_,rfl,_,rfl,d,_,rfl,dg (Same.refl _),(by show 0≤sizeLine;decide),fun E1 hE1=>?_⟩
  have k1:=zaf hE1 (.lst [])
  refine ⟨_,_,Rep.lst (.of (k1 _ _ (of4.same _ _ hl))) (zdd _),Rep.lst (.of zab) .nil,za9 _,za9 [],fun e=>?_,fun e=>?_⟩
  ·have ne:=(zb7 _).mp e
   refine ⟨_,rfl,iteF ?_⟩
   refine ⟨_,ys,rfl,of4.grow k1,k1 _ _ eR,?_⟩
   rw [et,List.filter_append,List.filter_cons_of_neg (by simp [ne]),List.filter_nil,List.append_nil]
   exact fa.mono k1
  ·have ne:zaM w f≠[]:=fun z=>e ((zb7 _).mpr z)
   refine ⟨_,rfl,iteT ⟨_,rfl,_,rfl,d,_,rfl,dg k1,l,rfl,⟨_,.of (k1 _ _ (of4.same _ _ hl))⟩,fun D hD=>?_⟩⟩
   refine zbo (K:=K) (a:=l) (xs:=zaD (zaM w f)) (fun j H5=>Off [D] (upd H4 E1 (.lst [])) H5∧H5 D=some (.lst (zaD (((zaM w f).take j).filter fun k=>decide (k∈ts)))))
    ⟨Off.start hD _,zab⟩ (fun j H5 _ ⟨o,_⟩=>.of (o.same _ _ (k1 _ _ (of4.same _ _ hl)))) ?_ ?_
   ·rintro j v H5 hv ⟨of5,eD⟩
    obtain ⟨k,hk,rfl⟩:=zcF hv
    have lj:j < (zaM w f).length:=(List.getElem?_eq_some_iff.mp hk).1
    have et5:(zaM w f).take (j+1)=(zaM w f).take j++ [k]:=by rw [List.take_add_one,hk];rfl
    refine ⟨_,rfl,_,rfl,a,_,rfl,.inl ((of4.same.trans (k1.trans of5.same)).seq haG),rfl,zec ts,?_⟩
    rw [if_neg Bool.false_ne_true,zeV]
    by_cases c:k∈ts
    ·rw [decide_eq_true c]
     refine ⟨_,rfl,iteT ⟨_,rfl,_,eD,?_,of5.write (.head _) _,?_⟩⟩
     ·rw [zaN]
      have:=List.length_filter_le (fun k=>decide (k∈ts)) ((zaM w f).take j)
      rw [List.length_take] at this
      exact big (by omega)
     ·rw [zab,et5,List.filter_append,List.filter_cons_of_pos (by simpa using c)]
      unfold zaD
      rw [List.map_append]
      rfl
    ·rw [decide_eq_false c]
     refine ⟨_,rfl,iteF ⟨of5,?_⟩⟩
     rw [eD,et5,List.filter_append,List.filter_cons_of_neg (by simpa using c),List.filter_nil,List.append_nil]
   ·rintro H5 ⟨of5,eD⟩
    rw [zaN,List.take_length] at eD
    have em:zbt (zaM w f) ts=false↔(zaM w f).filter (fun k=>decide (k∈ts))= []:=by
     unfold zbt
     rw [List.any_eq_false,List.filter_eq_nil_iff]
    have s45:=k1.trans of5.same
    refine ⟨(by show 0≤sizeLine;decide),fun E2 hE2=>?_⟩
    have k6:=zaf hE2 (.lst [])
    have s46:=s45.trans k6
    refine ⟨_,_,Rep.lst (.of (k6 _ _ eD)) (zdd _),Rep.lst (.of zab) .nil,za9 _,za9 [],fun e=>?_,fun e=>?_⟩
    ·have no:=em.mpr ((zb7 _).mp e)
     refine ⟨_,rfl,iteT ⟨_,rfl,.inl ⟨rfl,_,.of (s46 _ _ eR)⟩,_,rfl,R,_,_,rfl,rfl,s46 _ _ eR,big (by omega),?_⟩⟩
     refine ⟨_,ys++ [.ref b],rfl,(of4.grow s46).write (.head _) _,zab,?_⟩
     rw [et,List.filter_append,List.filter_cons_of_pos (by simp [ne,no])]
     refine zda.write (zda.app (fa.mono s46) (.cons ⟨b,rfl,?_⟩ .nil)) (s46 _ _ eR) _
     rw [← zhy]
     exact hb.same s46
    ·have yes:zbt (zaM w f) ts=true:=by
      cases z:zbt (zaM w f) ts with
      | true=>rfl
      | false=>exact absurd ((zb7 _).mpr (em.mp z)) e
     refine ⟨_,rfl,iteF ⟨_,ys,rfl,of4.grow s46,s46 _ _ eR,?_⟩⟩
     rw [et,List.filter_append,List.filter_cons_of_neg (by simp [yes]),List.filter_nil,List.append_nil]
     exact fa.mono s46
 ·rintro σ H4 ⟨o3,ys,rfl,of4,eR,fa⟩
  rw [lk,List.take_length] at fa
  exact ⟨_,rfl,q R ob ys H4 (sG.trans of4.same) (of4.same _ _ edG) hR eR fa⟩
theorem zdY (T:Txt K mg t):FnOk P w K mg base CX0 1 t.f_law_open t.fd_law_open ["finding","taken"] (zmT K):=by
 refine (zgT T).thaw.imp fun vs H Q E h=>?_
 obtain ⟨d,a,w,kvs,ts,rfl,hd,fd,wf,ha,q⟩:=h
 refine ⟨d,a,w,kvs,ts,rfl,hd,fd,wf,ha,fun r ob ys H' s e nr er fa=>⟨d,ob,_,_,hd,e,q r ys _ (fun b o hb=>?_) ?_ ?_⟩⟩
 ·by_cases z:b=d
  ·rw [z,hd] at hb
   cases hb
   rw [z]
   exact zab
  ·rw [zai z]
   exact s _ _ (by rw [zaT z];exact hb)
 ·rw [zai (Ne.symm (zal hd nr))]
  exact er
 ·exact Paired.mapP fa fun v f ⟨b,e1,e2⟩=>⟨b,e1,e2.put (fun z=>by rcases e2 with h | ⟨_,h⟩ <;> (rw [z,e] at h;cases h))⟩
theorem zbq:zax ["finding","taken","k","paper","fault","numbers","number","inner"] ["finding","taken","k","paper"] (zag zaS):=⟨rfl,rfl,rfl,by decide+kernel,rfl,by decide+kernel,by decide+kernel⟩
theorem zlW {k0 m:Nat}(T:Txt K mg t)(hk: 1≤k0)(rec:FnOk P w K mg base CX0 k0 t.f_is_need_let_by t.fd_is_need_let_by ["finding","taken","k","paper"] (zkN m)):FnOk P w K mg base CX0 (k0+1) t.f_is_need_let_by t.fd_is_need_let_by ["finding","taken","k","paper"] (zkN (m+1)):=by
 refine T.d_is_need_let_by.F.okB zbq (fun vs H Q E h=>?_) (fun cdv A outer s H vs Q E hr h=>?_)
 ·obtain ⟨d,ta,k,v,w,kvs,ts,p,rfl,_⟩:=h
  rfl
 obtain ⟨d,ta,k,v,w,kvs,ts,p,rfl,hd,fd,wf,hta,lts,pa,q⟩:=h
 have hu1:=zfP hr
 have lfd:=zj7 wf
 refine ⟨_,(zad (zak (k:=4) zbq.nd rfl (Or.inl rfl) (zao zaB (bpv 3) zae (fun _ _=>rfl)))
  (zad (zaW (zdQ (zfa (zmC (ziE hu1 (bpv 4) (bpv 0))) (zd0 (zdV (zan (zkx T) (hr.mono (Nat.le_trans (by decide) hk)) rfl T.d_meet.m T.d_meet.F.kp T.d_meet.b .nil zaU (zaa (zeg hu1 (bpv 0) (bpv 4) (fun _ _=>rfl)) (zaa (bpv 1) (zac)))))))) (zah (zar zc1)) zaA)
  (zad (zaW (zas zcQ (zao zaB (bpv 3) zae (fun _ _=>rfl)) zav (zaF _)) (zah (zar (zcw zcQ (bpv 2) zae (zaF _)))) zaA)
  (zad (zak (k:=5) zbq.nd rfl (Or.inl rfl) (zeg hu1 (bpv 0) (bpv 4) (fun _ _=>rfl)))
  (zad (zaW (zdQ (zfa (zas zjx (bpv 2) zae (zaF _)) (zd0 (zas zjo (zaw zau rfl T.z_len PySem.boot_len (zaa (zao zaB (bpv 3) zae (fun _ _=>rfl)) (zac))) (zaw zau rfl T.z_len PySem.boot_len (zaa (bpv 5) (zac))) (zaF _))))) (zah (zar zc1)) zaA)
  (zad (zaK PassesOwn.never rfl (zhO rfl T.z_zip (zaa (bpv 5) (zaa (zao zaB (bpv 3) zae (fun _ _=>rfl)) (zac)))) (zdi rfl (zaz (zaj (k:=6) zbq.nd rfl (Or.inl rfl)) (zaz (zaj (k:=7) zbq.nd rfl (Or.inl rfl)) zbW))) (zah (zaW (zex (zdV (zan rec hr rfl T.d_is_need_let_by.m T.d_is_need_let_by.F.kp T.d_is_need_let_by.b .nil zaU (zaa (bpv 0) (zaa (zam zc0 (bpv 1) (zay (zaa (bpv 6) (zac)))) (zaa (zam zdC (bpv 2) zae) (zaa (bpv 7) (zac)))))))) (zah (zar zc1)) zaA)))
  (zah (zar zc1)))))))),?_⟩
 have bad:∀ {H'},Same H H'→zcE (fdW w) (m+1) ts k p=false→Q (.bl false) H':=fun {H'} s e=>by
  have:=q H' s
  rw [e] at this
  exact this
 have no0:∀ {f:List Key},fdW w f= []→∀ p',(p'= .none f∨∃ ps,p'= .of f ps)→zcE (fdW w) (m+1) ts k p'=false:=fun {f} e p' h=>by
  rcases h with rfl | ⟨ps,rfl⟩ <;> (unfold zcE;rw [e];rfl)
 have no1:∀ {f:List Key},zbt (fdW w f) ts=true→∀ p',(p'= .none f∨∃ ps,p'= .of f ps)→zcE (fdW w) (m+1) ts k p'=false:=fun {f} e p' h=>by
  rcases h with rfl | ⟨ps,rfl⟩ <;> (unfold zcE;rw [e];simp)
 cases p with
 | none f=>
  obtain ⟨a,b,rfl,ha,hb⟩:=pa
  refine ⟨_,rfl,a,_,_,_,rfl,rfl,.of ha,rfl,?_⟩
  refine ⟨_,rfl,_,rfl,d,_,rfl,DGet.r hd hb,?_⟩
  rcases zfU fd f with ⟨e1,e2⟩ | ⟨e1,l,e2,e3⟩
  ·rw [e1]
   exact ⟨_,rfl,iteT (iteT (bad (Same.refl _) (no0 e2 _ (.inl rfl))))⟩
  ·rw [e2]
   refine ⟨_,rfl,iteF ⟨_,rfl,_,rfl,d,_,rfl,by rw [← e2];exact DGet.r hd hb,_,rfl,l,ta,fdW w f,ts,rfl,.of e3,.of hta,lfd f,fun H1 s1=>?_⟩⟩
   cases mt:zbt (fdW w f) ts with
   | true=>exact ⟨_,rfl,iteT (bad s1 (no1 mt _ (.inl rfl)))⟩
   | false=>
    refine ⟨_,rfl,iteF ⟨_,rfl,a,_,_,_,rfl,rfl,.of (s1 _ _ ha),rfl,rfl,_,rfl,ite2 (fun c=>?_) (fun c=>absurd (decide_eq_true rfl) c)⟩⟩
    refine ⟨_,rfl,rfl,?_⟩
    have:=q H1 s1
    unfold zcE at this
    rw [mt,decide_eq_true e1] at this
    have e:(decide (V.int k=V.int 0))=decide (k=0):=decide_eq_decide.mpr ⟨V.int.inj,fun z=>by rw [z]⟩
    rw [e]
    exact this
 | of f ps=>
  obtain ⟨a,b,pl,xs,rfl,ha,hb,hpl,pr,lxs⟩:=pa
  refine ⟨_,rfl,a,_,_,_,rfl,rfl,.of ha,rfl,?_⟩
  refine ⟨_,rfl,_,rfl,d,_,rfl,DGet.r hd hb,?_⟩
  rcases zfU fd f with ⟨e1,e2⟩ | ⟨e1,l,e2,e3⟩
  ·rw [e1]
   exact ⟨_,rfl,iteT (iteT (bad (Same.refl _) (no0 e2 _ (.inr ⟨ps,rfl⟩))))⟩
  ·have len:=Paired.length pr
   rw [e2]
   refine ⟨_,rfl,iteF ⟨_,rfl,_,rfl,d,_,rfl,by rw [← e2];exact DGet.r hd hb,_,rfl,l,ta,fdW w f,ts,rfl,.of e3,.of hta,lfd f,fun H1 s1=>?_⟩⟩
   cases mt:zbt (fdW w f) ts with
   | true=>exact ⟨_,rfl,iteT (bad s1 (no1 mt _ (.inr ⟨ps,rfl⟩)))⟩
   | false=>
    refine ⟨_,rfl,iteF ⟨_,rfl,a,_,_,_,rfl,rfl,.of (s1 _ _ ha),rfl,rfl,_,rfl,ite2 (fun c=>absurd (V.str.inj (of_decide_eq_true c)) (by decide)) (fun c=>?_)⟩⟩
    refine ⟨_,rfl,_,rfl,d,_,rfl,by rw [← e2];exact DGet.r (s1 _ _ hd) (hb.same s1),?_⟩
    have ew:zcE (fdW w) (m+1) ts k (.of f ps)=(decide (1≤k) && decide (ps.length=(fdW w f).length) && ((fdW w f).zip ps).all fun jp=>zcE (fdW w) m (ts++ [jp.1]) (k - 1) jp.2):=by
     conv=>lhs;unfold zcE
     rw [mt,decide_eq_true e1]
     rfl
    rw [ew] at q bad
    refine ⟨_,rfl,_,_,rfl,rfl,_,rfl,ite2 (fun c1=>iteT (bad s1 ?_)) (fun c1=>?_)⟩
    ·rw [decide_eq_false (by have:=of_decide_eq_true c1;omega)]
     rfl
    have k1: 1≤k:=by
     have:¬k < 1:=fun z=>c1 (decide_eq_true z)
     omega
    have ln:=zaN (fdW w f)
    refine ⟨_,rfl,a,_,_,_,rfl,rfl,.of (s1 _ _ ha),rfl,pl,_,rfl,.inl (.of (s1 _ _ hpl)),_,rfl,l,_,rfl,.inl (.of (s1 _ _ e3)),rfl,_,rfl,ite2 (fun c2=>bad s1 ?_) (fun c2=>?_)⟩
    ·have:¬ps.length=(fdW w f).length:=fun z=>by
      rw [len,ln,z] at c2
      simp at c2
     rw [decide_eq_false this,Bool.and_false]
     rfl
    have el:ps.length=(fdW w f).length:=by
     by_cases z:ps.length=(fdW w f).length
     ·exact z
     ·refine absurd ?_ c2
      rw [len,ln]
      simpa using fun y=>z (by omega)
    rw [decide_eq_true k1,decide_eq_true el,Bool.true_and,Bool.true_and] at q bad
    obtain ⟨F,eF⟩:∃ F:Nat×Pap→Bool,(fun jp:Nat×Pap=>zcE (fdW w) m (ts++ [jp.1]) (k - 1) jp.2)=F:=⟨_,rfl⟩
    rw [eF] at q bad
    refine ⟨_,rfl,_,rfl,a,_,_,_,rfl,rfl,.of (s1 _ _ ha),rfl,l,pl,_,_,rfl,s1 _ _ e3,s1 _ _ hpl,zhN (a:=l) (b:=pl) (xs:=zaD (fdW w f)) (ys:=xs) (by rw [ln,len,el]) (fun i σ H2=>∃ o6 o7:Option V,σ = [some (.ref d),some (.ref ta),some (.int k),some (.ref a),some (.ref b),some (.ref l),o6,o7]∧Same H H2∧∀ jp∈((fdW w f).zip ps).take i,F jp=true)
     ⟨_,_,rfl,s1,fun _ z=>by simp at z⟩ (fun i σ H2 _ ⟨_,_,_,s,_⟩=>⟨s _ _ e3,s _ _ hpl⟩) ?_ ?_⟩
    ·rintro i x y σ H2 T1 hx hy ⟨o6,o7,rfl,s2,bef⟩ hT
     obtain ⟨j,hj,rfl⟩:=zcF hx
     obtain ⟨pi,hpi,pai⟩:=zaY pr hy
     have kT:=zaf hT (.tup [.int (j:Int),y])
     have ez:((fdW w f).zip ps)[i]? =some (j,pi):=by rw [List.getElem?_zip_eq_some];exact ⟨hj,hpi⟩
     refine ⟨T1,_,rfl,.of zab,rfl,_,_,rfl,_,_,rfl,rfl,?_⟩
     refine ⟨_,rfl,_,rfl,_,rfl,(by show 1≤sizeLine;decide),fun S hS=>?_⟩
     have kS:=zaf hS (.lst [.int (j:Int)])
     have s3:=s2.trans (kT.trans kS)
     refine ⟨ta,S,_,_,rfl,rfl,s3 _ _ hta,zab,bigE (by rw [zaN];show ts.length+1≤100000;omega),fun B hB=>?_⟩
     have kB:=zaf hB (.lst (zaD ts++ [.int (j:Int)]))
     have s4:=s3.trans kB
     have eB:zaD (ts++ [j])=zaD ts++ [.int (j:Int)]:=by unfold zaD;rw [List.map_append];rfl
     refine ⟨_,rfl,_,_,rfl,rfl,_,rfl,d,B,k - 1,y,w,kvs,ts++ [j],pi,rfl,s4 _ _ hd,fd.mono s4,wf,by rw [zab,eB],by rw [List.length_append,List.length_singleton];omega,pai.mono s4,fun H3 s5=>?_⟩
     have s6:=s4.trans s5
     have eFj:zcE (fdW w) m (ts++ [j]) (k - 1) pi=F (j,pi):=by rw [← eF]
     rw [eFj]
     cases z:F (j,pi) with
     | true=>
      refine ⟨_,rfl,iteF ⟨_,_,rfl,s6,fun jp hjp=>?_⟩⟩
      rw [List.take_add_one,ez] at hjp
      rcases List.mem_append.mp hjp with y | y
      ·exact bef jp y
      ·rw [List.mem_singleton.mp y];exact z
     | false=>
      refine ⟨_,rfl,iteT (bad s6 ?_)⟩
      rw [List.all_eq_false]
      exact ⟨(j,pi),List.mem_of_getElem? ez,by rw [z];decide⟩
    ·rintro σ H2 ⟨o6,o7,rfl,s2,bef⟩
     have:=q H2 s2
     have e:((fdW w f).zip ps).all F=true:=by
      rw [List.all_eq_true]
      intro jp hjp
      refine bef jp ?_
      rw [List.take_of_length_le (by rw [List.length_zip,ln];omega)]
      exact hjp
     rw [e] at this
     exact this
theorem zj1 (T:Txt K mg t):∀ m:Nat,FnOk P w K mg base CX0 (1+m) t.f_is_need_let_by t.fd_is_need_let_by ["finding","taken","k","paper"] (zkN m)
 | 0=>⟨fun vs H Q E ⟨_,_,_,_,_,_,_,_,_,_,_,_,_,_,z,_⟩=>z.elim,fun A outer s H args us vs Q E hr a b c ⟨_,_,_,_,_,_,_,_,_,_,_,_,_,_,z,_⟩=>z.elim⟩
 | m+1=>zlW T (Nat.le_add_right 1 m) (zj1 T m)
theorem zeA (T:Txt K mg t):FnOk P w K mg base CX0 6 t.f_is_need_let_by t.fd_is_need_let_by ["finding","taken","k","paper"] (zkN 5):=zj1 T 5
theorem zdm:zax ["finding","taken","k","paper","rows","row","part"] ["finding","taken","k","paper"] (zag zcp):=⟨rfl,rfl,rfl,by decide+kernel,rfl,by decide+kernel,by decide+kernel⟩
theorem zmg {k0 m:Nat}(T:Txt K mg t)(hk: 0≤k0)(rec:FnOk P w K mg base CX0 k0 t.f_law_walk t.fd_law_walk ["finding","taken","k","paper"] (zhW m)):FnOk P w K mg base CX0 (k0+1) t.f_law_walk t.fd_law_walk ["finding","taken","k","paper"] (zhW (m+1)):=by
 refine T.d_law_walk.F.okB zdm (fun vs H Q E h=>?_) (fun cdv A outer s H vs Q E hr h=>?_)
 ·obtain ⟨d,ta,k,v,w,kvs,ts,p,rfl,_⟩:=h
  rfl
 obtain ⟨d,ta,k,v,w,kvs,ts,p,rfl,hd,fd,wf,hta,lts,pa,q⟩:=h
 have hu1:=zfP hr
 have hu64:=hr.units
 have lfd:=zj7 wf
 refine ⟨_,(zad (zak (k:=4) zdm.nd rfl (Or.inl rfl) (zds hu1 (bpv 0) (zao zaB (bpv 3) zae (fun _ _=>rfl)) (zay zac) ⟨rfl,rfl,rfl,rfl⟩))
  (zad (zaW (zdQ (zfa (zas (zig hu64) (bpv 4) (zay zac) (zaF _)) (zd0 (zas (zki hu64) (zaQ rfl (N:=["row","taken"]) (n:=1) (cap:=[1]) (zbU rfl rfl) (zaI (bpv 4)) (zaL (by decide)) (fun _ _ _ _=>(zaj (k:=0) (show (["row","taken"]:List Str).Nodup by decide+kernel) rfl (Or.inl rfl))) (fun _ _ _ _=>(zem (zas (zdK (K:=K)) (bpv 0) (bpv 1) rfl))) (fun _ _ _ _=>(bpv 0))) (zay zac) (zaF _))))) (zah (zar zc1)) zaA)
  (zad (zaW (zas zcQ (zao zaB (bpv 3) zae (fun _ _=>rfl)) zav (zaF _)) (zah (zar (zcw zcQ (bpv 2) zae (zaF _)))) zaA)
  (zad (zaW (zdQ (zfa (zas zjx (bpv 2) zae (zaF _)) (zd0 (zas zjo (zaw zau rfl T.z_len PySem.boot_len (zaa (zao zaB (bpv 3) zae (fun _ _=>rfl)) (zac))) (zaw zau rfl T.z_len PySem.boot_len (zaa (bpv 4) (zac))) (zaF _))))) (zah (zar zc1)) zaA)
  (zad (zaK PassesOwn.never rfl (zhO rfl T.z_zip (zaa (bpv 4) (zaa (zao zaB (bpv 3) zae (fun _ _=>rfl)) (zac)))) (zdi rfl (zaz (zaj (k:=5) zdm.nd rfl (Or.inl rfl)) (zaz (zaj (k:=6) zdm.nd rfl (Or.inl rfl)) zbW))) (zah (zaW (zex (zdV (zan rec hr rfl T.d_law_walk.m T.d_law_walk.F.kp T.d_law_walk.b .nil zaU (zaa (bpv 0) (zaa (zam zc0 (bpv 1) (zay (zaa (bpv 5) (zac)))) (zaa (zam zdC (bpv 2) zae) (zaa (bpv 6) (zac)))))))) (zah (zar zc1)) zaA)))
  (zah (zar zc1))))))),?_⟩
 have bad:∀ {H'},Same H H'→zcE (fdW w) (m+1) ts k p=false→Q (.bl false) H':=fun {H'} s e=>by
  have:=q H' s
  rw [e] at this
  exact this
 have no0:∀ {f:List Key},fdW w f= []→∀ p',(p'= .none f∨∃ ps,p'= .of f ps)→zcE (fdW w) (m+1) ts k p'=false:=fun {f} e p' h=>by
  rcases h with rfl | ⟨ps,rfl⟩ <;> (unfold zcE;rw [e];rfl)
 have no1:∀ {f:List Key},zbt (fdW w f) ts=true→∀ p',(p'= .none f∨∃ ps,p'= .of f ps)→zcE (fdW w) (m+1) ts k p'=false:=fun {f} e p' h=>by
  rcases h with rfl | ⟨ps,rfl⟩ <;> (unfold zcE;rw [e];simp)
 cases p with
 | none f=>
  obtain ⟨a,b,rfl,ha,hb⟩:=pa
  refine ⟨_,rfl,d,rfl,.inr ⟨_,.inl hd⟩,_,rfl,a,_,_,_,rfl,rfl,.of ha,rfl,(by show 0≤sizeLine;decide),fun E0 hE0=>?_⟩
  have kE:=zaf hE0 (.lst [])
  obtain ⟨lr,elr,hlr⟩:∃ lr,(valV kvs f).getD (.ref E0)= .ref lr∧(upd H E0 (.lst [])) lr=some (.lst (zaD (fdW w f))):=by
   rcases zhS fd f with ⟨e1,e2⟩ | ⟨l,e1,e2⟩
   ·exact ⟨E0,by rw [e1];rfl,by rw [e2];exact zab⟩
   ·exact ⟨l,by rw [e1];rfl,kE _ _ e2⟩
  refine ⟨_,DGet.r (kE _ _ hd) (hb.same kE),?_⟩
  rw [elr]
  generalize upd H E0 (.lst [])=H1 at kE hlr
  refine ⟨_,rfl,(by show 0≤sizeLine;decide),fun E1 hE1=>?_⟩
  have kE1:=zaf hE1 (.lst [])
  have s12:=kE.trans kE1
  refine ⟨_,_,Rep.lst (.of (kE1 _ _ hlr)) (zdd _),Rep.lst (.of zab) .nil,za9 _,za9 [],fun e=>?_,fun e=>?_⟩
  ·exact ⟨_,rfl,iteT (iteT (bad s12 (no0 ((zb7 _).mp e) _ (.inl rfl))))⟩
  have e1:fdW w f≠[]:=fun z=>e ((zb7 _).mpr z)
  refine ⟨_,rfl,iteF ?_⟩
  refine ⟨_,rfl,lr,rfl,⟨_,.of (kE1 _ _ hlr)⟩,fun D hD=>zbo (K:=K) (a:=lr) (xs:=zaD (fdW w f)) (fun j H5=>Off [D] (upd H1 E1 (.lst [])) H5∧H5 D=some (.lst (zaD (((fdW w f).take j).filter fun k=>decide (k∈ts)))))
   ⟨Off.start hD _,zab⟩ (fun j H5 _ ⟨o,_⟩=>.of (o.same _ _ (kE1 _ _ hlr))) ?_ ?_⟩
  ·rintro j v H5 hv ⟨of5,eD⟩
   obtain ⟨x,hx,rfl⟩:=zcF hv
   have lj:j < (fdW w f).length:=(List.getElem?_eq_some_iff.mp hx).1
   have l1000:=lfd f
   have et5:(fdW w f).take (j+1)=(fdW w f).take j++ [x]:=by rw [List.take_add_one,hx];rfl
   refine ⟨_,rfl,_,rfl,ta,_,rfl,.inl (.of ((s12.trans of5.same) _ _ hta)),rfl,zec ts,?_⟩
   rw [if_neg Bool.false_ne_true,zeV]
   by_cases c:x∈ts
   ·rw [decide_eq_true c]
    refine ⟨_,rfl,iteT ⟨_,rfl,_,eD,?_,of5.write (.head _) _,?_⟩⟩
    ·rw [zaN]
     have:=List.length_filter_le (fun k=>decide (k∈ts)) ((fdW w f).take j)
     rw [List.length_take] at this
     exact big (by omega)
    ·rw [zab,et5,List.filter_append,List.filter_cons_of_pos (by simpa using c)]
     unfold zaD
     rw [List.map_append]
     rfl
   ·rw [decide_eq_false c]
    refine ⟨_,rfl,iteF ⟨of5,?_⟩⟩
    rw [eD,et5,List.filter_append,List.filter_cons_of_neg (by simpa using c),List.filter_nil,List.append_nil]
  rintro H5 ⟨of5,eD⟩
  rw [zaN,List.take_length] at eD
  have em:zbt (fdW w f) ts=false↔(fdW w f).filter (fun k=>decide (k∈ts))= []:=by
   unfold zbt
   rw [List.any_eq_false,List.filter_eq_nil_iff]
  refine ⟨(by show 0≤sizeLine;decide),fun E2 hE2=>?_⟩
  have k6:=zaf hE2 (.lst [])
  have s16:=kE1.trans (of5.same.trans k6)
  have s6:=kE.trans s16
  refine ⟨_,_,Rep.lst (.of (k6 _ _ eD)) (zdd _),Rep.lst (.of zab) .nil,za9 _,za9 [],fun e=>?_,fun e=>?_⟩
  rotate_left
  ·have yes:zbt (fdW w f) ts=true:=by
    cases z:zbt (fdW w f) ts with
    | true=>rfl
    | false=>exact absurd ((zb7 _).mpr (em.mp z)) e
   exact ⟨_,rfl,iteT (bad s6 (no1 yes _ (.inl rfl)))⟩
  have mt:=em.mpr ((zb7 _).mp e)
  have hlr6:=s16 _ _ hlr
  generalize upd H5 E2 (.lst [])=H6 at s6 hlr6
  refine ⟨_,rfl,iteF ⟨_,rfl,a,_,_,_,rfl,rfl,.of (s6 _ _ ha),rfl,rfl,_,rfl,ite2 (fun c=>?_) (fun c=>absurd (decide_eq_true rfl) c)⟩⟩
  refine ⟨_,rfl,rfl,?_⟩
  have:=q H6 s6
  unfold zcE at this
  rw [mt,decide_eq_true e1] at this
  have e:(decide (V.int k=V.int 0))=decide (k=0):=decide_eq_decide.mpr ⟨V.int.inj,fun z=>by rw [z]⟩
  rw [e]
  exact this
 | of f ps=>
  obtain ⟨a,b,pl,xs,rfl,ha,hb,hpl,pr,lxs⟩:=pa
  refine ⟨_,rfl,d,rfl,.inr ⟨_,.inl hd⟩,_,rfl,a,_,_,_,rfl,rfl,.of ha,rfl,(by show 0≤sizeLine;decide),fun E0 hE0=>?_⟩
  have kE:=zaf hE0 (.lst [])
  obtain ⟨lr,elr,hlr⟩:∃ lr,(valV kvs f).getD (.ref E0)= .ref lr∧(upd H E0 (.lst [])) lr=some (.lst (zaD (fdW w f))):=by
   rcases zhS fd f with ⟨e1,e2⟩ | ⟨l,e1,e2⟩
   ·exact ⟨E0,by rw [e1];rfl,by rw [e2];exact zab⟩
   ·exact ⟨l,by rw [e1];rfl,kE _ _ e2⟩
  refine ⟨_,DGet.r (kE _ _ hd) (hb.same kE),?_⟩
  rw [elr]
  generalize upd H E0 (.lst [])=H1 at kE hlr
  refine ⟨_,rfl,(by show 0≤sizeLine;decide),fun E1 hE1=>?_⟩
  have kE1:=zaf hE1 (.lst [])
  have s12:=kE.trans kE1
  refine ⟨_,_,Rep.lst (.of (kE1 _ _ hlr)) (zdd _),Rep.lst (.of zab) .nil,za9 _,za9 [],fun e=>?_,fun e=>?_⟩
  ·exact ⟨_,rfl,iteT (iteT (bad s12 (no0 ((zb7 _).mp e) _ (.inr ⟨ps,rfl⟩))))⟩
  have e1:fdW w f≠[]:=fun z=>e ((zb7 _).mpr z)
  refine ⟨_,rfl,iteF ?_⟩
  refine ⟨_,rfl,lr,rfl,⟨_,.of (kE1 _ _ hlr)⟩,fun D hD=>zbo (K:=K) (a:=lr) (xs:=zaD (fdW w f)) (fun j H5=>Off [D] (upd H1 E1 (.lst [])) H5∧H5 D=some (.lst (zaD (((fdW w f).take j).filter fun k=>decide (k∈ts)))))
   ⟨Off.start hD _,zab⟩ (fun j H5 _ ⟨o,_⟩=>.of (o.same _ _ (kE1 _ _ hlr))) ?_ ?_⟩
  ·rintro j v H5 hv ⟨of5,eD⟩
   obtain ⟨x,hx,rfl⟩:=zcF hv
   have lj:j < (fdW w f).length:=(List.getElem?_eq_some_iff.mp hx).1
   have l1000:=lfd f
   have et5:(fdW w f).take (j+1)=(fdW w f).take j++ [x]:=by rw [List.take_add_one,hx];rfl
   refine ⟨_,rfl,_,rfl,ta,_,rfl,.inl (.of ((s12.trans of5.same) _ _ hta)),rfl,zec ts,?_⟩
   rw [if_neg Bool.false_ne_true,zeV]
   by_cases c:x∈ts
   ·rw [decide_eq_true c]
    refine ⟨_,rfl,iteT ⟨_,rfl,_,eD,?_,of5.write (.head _) _,?_⟩⟩
    ·rw [zaN]
     have:=List.length_filter_le (fun k=>decide (k∈ts)) ((fdW w f).take j)
     rw [List.length_take] at this
     exact big (by omega)
    ·rw [zab,et5,List.filter_append,List.filter_cons_of_pos (by simpa using c)]
     unfold zaD
     rw [List.map_append]
     rfl
   ·rw [decide_eq_false c]
    refine ⟨_,rfl,iteF ⟨of5,?_⟩⟩
    rw [eD,et5,List.filter_append,List.filter_cons_of_neg (by simpa using c),List.filter_nil,List.append_nil]
  rintro H5 ⟨of5,eD⟩
  rw [zaN,List.take_length] at eD
  have em:zbt (fdW w f) ts=false↔(fdW w f).filter (fun k=>decide (k∈ts))= []:=by
   unfold zbt
   rw [List.any_eq_false,List.filter_eq_nil_iff]
  refine ⟨(by show 0≤sizeLine;decide),fun E2 hE2=>?_⟩
  have k6:=zaf hE2 (.lst [])
  have s16:=kE1.trans (of5.same.trans k6)
  have s6:=kE.trans s16
  refine ⟨_,_,Rep.lst (.of (k6 _ _ eD)) (zdd _),Rep.lst (.of zab) .nil,za9 _,za9 [],fun e=>?_,fun e=>?_⟩
  rotate_left
  ·have yes:zbt (fdW w f) ts=true:=by
    cases z:zbt (fdW w f) ts with
    | true=>rfl
    | false=>exact absurd ((zb7 _).mpr (em.mp z)) e
   exact ⟨_,rfl,iteT (bad s6 (no1 yes _ (.inr ⟨ps,rfl⟩)))⟩
  have mt:=em.mpr ((zb7 _).mp e)
  have hlr6:=s16 _ _ hlr
  generalize upd H5 E2 (.lst [])=H6 at s6 hlr6
  have len:=Paired.length pr
  refine ⟨_,rfl,iteF ⟨_,rfl,a,_,_,_,rfl,rfl,.of (s6 _ _ ha),rfl,rfl,_,rfl,ite2 (fun c=>absurd (V.str.inj (of_decide_eq_true c)) (by decide)) (fun c=>?_)⟩⟩
  have ew:zcE (fdW w) (m+1) ts k (.of f ps)=(decide (1≤k) && decide (ps.length=(fdW w f).length) && ((fdW w f).zip ps).all fun jp=>zcE (fdW w) m (ts++ [jp.1]) (k - 1) jp.2):=by
   conv=>lhs;unfold zcE
   rw [mt,decide_eq_true e1]
   rfl
  rw [ew] at q bad
  refine ⟨_,rfl,_,_,rfl,rfl,_,rfl,ite2 (fun c1=>iteT (bad s6 ?_)) (fun c1=>?_)⟩
  ·rw [decide_eq_false (by have:=of_decide_eq_true c1;omega)]
   rfl
  have k1: 1≤k:=by
   have:¬k < 1:=fun z=>c1 (decide_eq_true z)
   omega
  have ln:=zaN (fdW w f)
  refine ⟨_,rfl,a,_,_,_,rfl,rfl,.of (s6 _ _ ha),rfl,pl,_,rfl,.inl (.of (s6 _ _ hpl)),_,rfl,lr,_,rfl,.inl (.of hlr6),rfl,_,rfl,ite2 (fun c2=>bad s6 ?_) (fun c2=>?_)⟩
  ·have:¬ps.length=(fdW w f).length:=fun z=>by
    rw [len,ln,z] at c2
    simp at c2
   rw [decide_eq_false this,Bool.and_false]
   rfl
  have el:ps.length=(fdW w f).length:=by
   by_cases z:ps.length=(fdW w f).length
   ·exact z
   ·refine absurd ?_ c2
    rw [len,ln]
    simpa using fun y=>z (by omega)
  rw [decide_eq_true k1,decide_eq_true el,Bool.true_and,Bool.true_and] at q bad
  obtain ⟨F,eF⟩:∃ F:Nat×Pap→Bool,(fun jp:Nat×Pap=>zcE (fdW w) m (ts++ [jp.1]) (k - 1) jp.2)=F:=⟨_,rfl⟩
  rw [eF] at q bad
  refine ⟨_,rfl,_,rfl,a,_,_,_,rfl,rfl,.of (s6 _ _ ha),rfl,lr,pl,_,_,rfl,hlr6,s6 _ _ hpl,zhN (a:=lr) (b:=pl) (xs:=zaD (fdW w f)) (ys:=xs) (by rw [ln,len,el]) (fun i σ H2=>∃ o6 o7:Option V,σ = [some (.ref d),some (.ref ta),some (.int k),some (.ref a),some (.ref lr),o6,o7]∧Same H H2∧Same H6 H2∧∀ jp∈((fdW w f).zip ps).take i,F jp=true)
   ⟨_,_,rfl,s6,Same.refl _,fun _ z=>by simp at z⟩ (fun i σ H2 _ ⟨_,_,_,s,s',_⟩=>⟨s' _ _ hlr6,s _ _ hpl⟩) ?_ ?_⟩
  ·rintro i x y σ H2 T1 hx hy ⟨o6,o7,rfl,s2,s2',bef⟩ hT
   obtain ⟨j,hj,rfl⟩:=zcF hx
   obtain ⟨pi,hpi,pai⟩:=zaY pr hy
   have kT:=zaf hT (.tup [.int (j:Int),y])
   have ez:((fdW w f).zip ps)[i]? =some (j,pi):=by rw [List.getElem?_zip_eq_some];exact ⟨hj,hpi⟩
   refine ⟨T1,_,rfl,.of zab,rfl,_,_,rfl,_,_,rfl,rfl,?_⟩
   refine ⟨_,rfl,_,rfl,_,rfl,(by show 1≤sizeLine;decide),fun S hS=>?_⟩
   have kS:=zaf hS (.lst [.int (j:Int)])
   have s3:=s2.trans (kT.trans kS)
   refine ⟨ta,S,_,_,rfl,rfl,s3 _ _ hta,zab,bigE (by rw [zaN];show ts.length+1≤100000;omega),fun B hB=>?_⟩
   have kB:=zaf hB (.lst (zaD ts++ [.int (j:Int)]))
   have s4:=s3.trans kB
   have eB:zaD (ts++ [j])=zaD ts++ [.int (j:Int)]:=by unfold zaD;rw [List.map_append];rfl
   refine ⟨_,rfl,_,_,rfl,rfl,_,rfl,d,B,k - 1,y,w,kvs,ts++ [j],pi,rfl,s4 _ _ hd,fd.mono s4,wf,by rw [zab,eB],by rw [List.length_append,List.length_singleton];omega,pai.mono s4,fun H3 s5=>?_⟩
   have s7:=s4.trans s5
   have eFj:zcE (fdW w) m (ts++ [j]) (k - 1) pi=F (j,pi):=by rw [← eF]
   rw [eFj]
   cases z:F (j,pi) with
   | true=>
    refine ⟨_,rfl,iteF ⟨_,_,rfl,s7,s2'.trans ((kT.trans kS).trans (kB.trans s5)),fun jp hjp=>?_⟩⟩
    rw [List.take_add_one,ez] at hjp
    rcases List.mem_append.mp hjp with y | y
    ·exact bef jp y
    ·rw [List.mem_singleton.mp y];exact z
   | false=>
    refine ⟨_,rfl,iteT (bad s7 ?_)⟩
    rw [List.all_eq_false]
    exact ⟨(j,pi),List.mem_of_getElem? ez,by rw [z];decide⟩
  ·rintro σ H2 ⟨o6,o7,rfl,s2,s2',bef⟩
   have:=q H2 s2
   have e:((fdW w f).zip ps).all F=true:=by
    rw [List.all_eq_true]
    intro jp hjp
    refine bef jp ?_
    rw [List.take_of_length_le (by rw [List.length_zip,ln];omega)]
    exact hjp
   rw [e] at this
   exact this
theorem zjd (T:Txt K mg t):∀ m:Nat,FnOk P w K mg base CX0 (0+m) t.f_law_walk t.fd_law_walk ["finding","taken","k","paper"] (zhW m)
 | 0=>⟨fun vs H Q E ⟨_,_,_,_,_,_,_,_,_,_,_,_,_,_,z,_⟩=>z.elim,fun A outer s H args us vs Q E hr a b c ⟨_,_,_,_,_,_,_,_,_,_,_,_,_,_,z,_⟩=>z.elim⟩
 | m+1=>zmg T (Nat.zero_le _) (zjd T m)
theorem zhE (T:Txt K mg t):FnOk P w K mg base CX0 5 t.f_law_walk t.fd_law_walk ["finding","taken","k","paper"] (zhW 5):=zjd T 5
theorem zgd:zax ["works","k","paper"] ["works","k","paper"] (zag zbN):=⟨rfl,rfl,rfl,by decide+kernel,rfl,by decide+kernel,by decide+kernel⟩
theorem zgC (T:Txt K mg t):FnOk P w K mg base CX0 7 t.f_need_shows t.fd_need_shows ["works","k","paper"] (sp_ns K):=by
 refine T.d_need_shows.F.okB zgd (fun vs H Q E h=>?_) (fun cdv A outer s H vs Q E hr h=>?_)
 ·obtain ⟨x,v,k,w,p,rfl,_⟩:=h
  rfl
 obtain ⟨x,v,k,w,p,rfl,hx,wf,pa,q⟩:=h
 refine ⟨_,(zah (zar (zan (zeA T) (hr.mono (by decide)) rfl T.d_is_need_let_by.m T.d_is_need_let_by.F.kp T.d_is_need_let_by.b .nil zaU (zaa (zan (zdv T) (hr.mono (by decide)) rfl T.d_finding_rows.m T.d_finding_rows.F.kp T.d_finding_rows.b .nil zaU (zaa (bpv 0) (zac))) (zaa (zay zac) (zaa (bpv 1) (zaa (bpv 2) (zac)))))))),?_⟩
 refine ⟨_,rfl,x,w,rfl,hx,wf,fun d kvs H1 s1 nd ed fd=>⟨(by show 0≤sizeLine;decide),fun E1 hE1=>?_⟩⟩
 have kE:=zaf hE1 (.lst [])
 exact ⟨_,rfl,_,rfl,d,E1,k,v,w,kvs,[],p,rfl,kE _ _ ed,fd.mono kE,wf,zab,by decide,pa.mono (s1.trans kE),fun H2 s2=>q H2 ((s1.trans kE).trans s2)⟩
theorem zfu:zax ["works"] ["works"] (zag zba):=⟨rfl,rfl,rfl,by decide+kernel,rfl,by decide+kernel,by decide+kernel⟩
theorem zcI (T:Txt K mg t):FnOk P w K mg base (CXC P w (.ref t.x_TooMany)) 1 t.f_check_inputs t.fd_check_inputs ["works"] (zhX K):=by
 refine T.d_check_inputs.F.okC zfu (fun vs H Q E h=>?_) (fun cdv A outer s H vs Q E hr h=>?_)
 ·obtain ⟨a,ga,oa,i,rfl,_⟩:=h
  rfl
 obtain ⟨a,ga,oa,i,rfl,ha,i3,rz⟩:=h
 refine ⟨_,(zah (zaW (zas op_gt (zao zaB (bpv 0) zae (fun _ _=>rfl)) (zdn (v:=.int 3) rfl T.g_MOST_INPUTS ⟨_,rfl⟩) (zaF _)) (zah (zkr PySem.F.excBase_ValueError T.k_TooMany.ex rfl rfl T.g_TooMany raiseC (zaa zav zac))) zaA)),?_⟩
 refine ⟨_,rfl,a,_,_,_,rfl,rfl,ha,rfl,_,_,rfl,rfl,_,rfl,ite2 (fun _=>?_) (fun c=>absurd (decide_eq_true (by omega)) c)⟩
 exact ⟨(by show 1≤sizeLine;decide),fun x hx=>rz _ x (Same.refl _) hx⟩
theorem zfK:zax ["works","rows"] ["works"] (zag zbC):=⟨rfl,rfl,rfl,by decide+kernel,rfl,by decide+kernel,by decide+kernel⟩
theorem zfc (T:Txt K mg t):FnOk P w K mg base (CXC P w (.ref t.x_TooMany)) 7 t.f_fewest_rows t.fd_fewest_rows ["works"] (zhX K):=by
 refine T.d_fewest_rows.F.okC zfK (fun vs H Q E h=>?_) (fun cdv A outer s H vs Q E hr h=>?_)
 ·obtain ⟨a,ga,oa,i,rfl,_⟩:=h
  rfl
 obtain ⟨a,ga,oa,i,rfl,ha,i3,rz⟩:=h
 refine ⟨_,(zad (zbl (zan (zcI T) (hr.mono (by decide)) rfl T.d_check_inputs.m T.d_check_inputs.F.kp T.d_check_inputs.b .nil zmm (zaa (bpv 0) (zac)))) zjF),?_⟩
 exact ⟨_,rfl,a,ga,oa,i,rfl,ha,i3,rz⟩
theorem zgK:zax ["works","finding","fewest"] ["works"] (zag zbS):=⟨rfl,rfl,rfl,by decide+kernel,rfl,by decide+kernel,by decide+kernel⟩
theorem zfC (T:Txt K mg t):FnOk P w K mg base (CXC P w (.ref t.x_TooMany)) 7 t.f_need_paper t.fd_need_paper ["works"] (zhX K):=by
 refine T.d_need_paper.F.okC zgK (fun vs H Q E h=>?_) (fun cdv A outer s H vs Q E hr h=>?_)
 ·obtain ⟨a,ga,oa,i,rfl,_⟩:=h
  rfl
 obtain ⟨a,ga,oa,i,rfl,ha,i3,rz⟩:=h
 refine ⟨_,(zad (zbl (zan (zcI T) (hr.mono (by decide)) rfl T.d_check_inputs.m T.d_check_inputs.F.kp T.d_check_inputs.b .nil zmm (zaa (bpv 0) (zac)))) zjF),?_⟩
 exact ⟨_,rfl,a,ga,oa,i,rfl,ha,i3,rz⟩
theorem zgo:zax ["works"] ["works"] (zag zbK):=⟨rfl,rfl,rfl,by decide+kernel,rfl,by decide+kernel,by decide+kernel⟩
theorem zfG (T:Txt K mg t):FnOk P w K mg base (CXC P w (.ref t.x_TooMany)) 13 t.f_plan_depth t.fd_plan_depth ["works"] (zhX K):=by
 refine T.d_plan_depth.F.okC zgo (fun vs H Q E h=>?_) (fun cdv A outer s H vs Q E hr h=>?_)
 ·obtain ⟨a,ga,oa,i,rfl,_⟩:=h
  rfl
 obtain ⟨a,ga,oa,i,rfl,ha,i3,rz⟩:=h
 refine ⟨_,(zad (zbl (zan (zcI T) (hr.mono (by decide)) rfl T.d_check_inputs.m T.d_check_inputs.F.kp T.d_check_inputs.b .nil zmm (zaa (bpv 0) (zac)))) zjF),?_⟩
 exact ⟨_,rfl,a,ga,oa,i,rfl,ha,i3,rz⟩
theorem zb5:zax ["which","works","classes","e","others"] ["which","works"] (zag zbw):=⟨rfl,rfl,rfl,by decide+kernel,rfl,by decide+kernel,by decide+kernel⟩
theorem zfD (T:Txt K mg t):FnOk P w K mg base CX0 14 t.f_law_refused t.fd_law_refused ["which","works"] (zmD K):=by
 refine T.d_law_refused.F.okB zb5 (fun vs H Q E h=>?_) (fun cdv A outer s H vs Q E hr h=>?_)
 ·obtain ⟨n,a,ga,oa,i,rfl,_⟩:=h
  rfl
 obtain ⟨n,a,ga,oa,i,rfl,ha,i3,q⟩:=h
 have hu64:=hr.units
 refine ⟨_,(zad (zak (k:=2) zb5.nd rfl (Or.inl rfl) zl6)
  (zad (zk6 (zkj (zas zcQ (bpv 0) zae (zaF _)) (zev (zfc T) (hr.mono (by decide)) rfl T.d_fewest_rows.m T.d_fewest_rows.F.kp T.d_fewest_rows.b .nil (zaa (bpv 1) (zac))) (zkj (zas zcQ (bpv 0) zae (zaF _)) (zev (zfC T) (hr.mono (by decide)) rfl T.d_need_paper.m T.d_need_paper.F.kp T.d_need_paper.b .nil (zaa (bpv 1) (zac))) (zev (zfG T) (hr.mono (by decide)) rfl T.d_plan_depth.m T.d_plan_depth.F.kp T.d_plan_depth.b .nil (zaa (bpv 1) (zac))))) rfl rfl rfl rfl T.g_TooMany T.k_TooMany.ex T.k_TooMany.ex (by decide) T.i_in zb5.nd (j:=3) rfl rfl (fun x=>unB (zad (zak (k:=4) zb5.nd rfl (Or.inl rfl) (zaw (ziZ T.k_TooMany rfl) rfl T.z_isinstance PyProof.Rows.boot_isinstance (zaa (bpv 3) (zaa (zaJ (zaa (zdn (v:=.ref t.x_NoFault) rfl T.g_NoFault rfl) (zaa (zdn (v:=.ref t.x_NoOrder) rfl T.g_NoOrder rfl) (zaa (zdn (v:=.ref t.x_NoRow) rfl T.g_NoRow rfl) (zaa (zdn (v:=.ref t.x_NoText) rfl T.g_NoText rfl) (zaa (zdn (v:=.ref t.x_NoWorks) rfl T.g_NoWorks rfl) zac)))))) zac))))
  (zah (zak (k:=2) zb5.nd rfl (Or.inl rfl) (zaJ (zaa (zaw (zkB T.k_TooMany rfl) rfl T.z_isinstance PyProof.Rows.boot_isinstance (zaa (bpv 3) (zaa (zdn (v:=.ref t.x_StuckError) rfl T.g_StuckError rfl) zac))) (zaa (zaw (ziY T.k_TooMany rfl) rfl T.z_isinstance PyProof.Rows.boot_isinstance (zaa (bpv 3) (zaa (zgH (v:=.ty "ValueError") rfl T.z_ValueError zmI rfl) zac))) (zaa (bpv 4) (zac))))))))))
  (zah (zar (zcw (zmW hu64) (bpv 2) (zaJ (zaa zc1 (zaa zc1 (zaa zc1 (zac))))) (zaF _)))))),?_⟩
 dsimp only [tSeq,tAsg,tC,zd7]
 refine zmx (fun x H2=>Same H H2∧H2 x=none) (fun G hG=>?_) (fun x H2 ⟨s2,n2⟩=>?_)
 ·have rz:∀ {E:XK},(E=fun _ ox H2=>∀ x,ox=some x→H2 x=none→G x H2)→Rz H E:=fun e H7 x7 s7 n7=>by
   rw [e]
   intro x8 e8 _
   cases e8
   exact hG x7 H7 ⟨s7,n7⟩
  refine ⟨_,rfl,rfl,_,rfl,ite2 (fun _=>⟨_,rfl,a,ga,oa,i,rfl,ha,i3,rz rfl⟩) (fun _=>?_)⟩
  exact ⟨_,rfl,rfl,_,rfl,ite2 (fun _=>⟨_,rfl,a,ga,oa,i,rfl,ha,i3,rz rfl⟩) (fun _=>⟨_,rfl,a,ga,oa,i,rfl,ha,i3,rz rfl⟩)⟩
 ·have k1:=s2.upd n2 (excO x t.x_TooMany)
  refine ⟨_,rfl,(by show 5≤sizeLine;decide),fun tp htp=>?_⟩
  have hx3:=zaf htp (.tup [.ref t.x_NoFault,.ref t.x_NoOrder,.ref t.x_NoRow,.ref t.x_NoText,.ref t.x_NoWorks]) _ _ (zab (H:=H2) (a:=x) (o:=excO x t.x_TooMany))
  have k2:=k1.upd htp (.tup [.ref t.x_NoFault,.ref t.x_NoOrder,.ref t.x_NoRow,.ref t.x_NoText,.ref t.x_NoWorks])
  refine ⟨x,tp,[t.x_NoFault,t.x_NoOrder,t.x_NoRow,t.x_NoText,t.x_NoWorks],false,rfl,hx3,.of zab,T.i_none,?_⟩
  refine ⟨_,rfl,x,t.x_StuckError,true,rfl,hx3,T.i_stuck,_,rfl,x,"ValueError",true,rfl,hx3,T.i_value,_,rfl,(by show 3≤sizeLine;decide),fun T1 h1=>?_⟩
  have k3:=k2.upd h1 (.tup [.bl true,.bl true,.bl false])
  refine ⟨_,rfl,(by show 3≤sizeLine;decide),fun T6 h6=>?_⟩
  have k6:=zaf h6 (.tup [.bl true,.bl true,.bl false])
  exact ⟨true,T1,T6,[true,true,false],[true,true,false],rfl,rfl,.of (k6 _ _ zab),.of zab,q _ (k3.trans k6)⟩
theorem zcR:zax ["number","many","found","k"] ["number","many"] (zag zcn):=⟨rfl,rfl,rfl,by decide+kernel,rfl,by decide+kernel,by decide+kernel⟩
theorem zhw (T:Txt K mg t):FnOk P w K mg base CX0 1 t.f_law_some t.fd_law_some ["number","many"] sp_som:=by
 refine T.d_law_some.F.okB zcR (fun vs H Q E h=>?_) (fun cdv A outer s H vs Q E hr h=>?_)
 ·obtain ⟨n,many,rfl,_⟩:=h
  rfl
 obtain ⟨n,many,rfl,n0,n1,m64,q⟩:=h
 refine ⟨_,(zad (zak (k:=2) zcR.nd rfl (Or.inl rfl) (zay zac))
  (zad (zaK PassesOwn.never rfl (zaO rfl T.z_range (zaa (bpv 1) (zac))) (zaj (k:=3) zcR.nd rfl (Or.inl rfl)) (zad (zaW (zas zcQ (zam zcd (bpv 0) zae) zae (zaF _)) (zah (zbl (zdq PySem.F.plainAttrs_list PySem.F.slot_list_append PySem.F.type_list_append zbn (bpv 2) (zaa (bpv 3) (zac))))) zaA)
  (zad (zak (k:=0) zcR.nd rfl (Or.inl rfl) (zam zdt (bpv 0) zae))
  (zah (zaW (zas zjx (bpv 0) zae (zaF _)) (zah (zak (k:=0) zcR.nd rfl (Or.inl rfl) (zam zcd (zam zgX zae (zam zcj (bpv 3) zae)) zae))) zaA)))))
  (zah (zar (zam zc0 (bpv 2) (zcP zeE (bpv 2) zdI (zcZ zae))))))),?_⟩
 refine ⟨(by show 0≤sizeLine;decide),fun R hR=>?_⟩
 refine ⟨_,rfl,_,rfl,by omega,by omega,zcC (fun i σ H2=>∃ (n:Int) (o3:Option V) (ts:List Nat),σ = [some (.int n),some (.int many),some (.ref R),o3]∧0≤n∧n < 1000000000000∧Same H H2∧H2 R=some (.lst (zaD ts))∧(∀ j∈ts,j < i)∧ts.length≤i)
  ⟨n,_,[],rfl,n0,n1,zaf hR _,zab,(fun _ z=>nomatch z),Nat.zero_le _⟩ ?_ ?_⟩
 ·rintro i σ H2 hi ⟨n,o3,ts,rfl,n0,n1,s2,eR,bt,lt⟩
  rw [Int.zero_add]
  have hi':i < many:=by omega
  refine' joinP (C:=fun H4=>Same H H4∧∃ us:List Nat,H4 R=some (.lst (zaD us))∧(∀ j∈us,j < i+1)∧us.length≤i+1) (fun rest=>_) _
  rotate_left
  ·refine ⟨_,rfl,_,_,rfl,rfl,(by show (0:Int) < 2;decide),rfl,_,rfl,ite2 (fun c=>?_) (fun c=>rest H2 ⟨s2,ts,eR,fun j hj=>Nat.lt_succ_of_lt (bt j hj),by omega⟩)⟩
   refine ⟨_,rfl,.inl ⟨rfl,_,.of eR⟩,_,rfl,R,_,_,rfl,rfl,eR,big (by rw [zaN];omega),?_⟩
   refine rest _ ⟨s2.write hR _,ts++ [i],?_,fun j hj=>?_,?_⟩
   ·rw [zab]
    unfold zaD
    rw [List.map_append]
    rfl
   ·rcases List.mem_append.mp hj with hj | hj
    ·have:=bt j hj;omega
    ·rw [List.mem_singleton.mp hj];omega
   ·rw [List.length_append,List.length_singleton]
    omega
  ·rintro H5 ⟨s5,vs,eV,bv,lv⟩
   refine ⟨_,rfl,_,_,rfl,rfl,⟨by decide,by decide⟩,?_⟩
   refine ⟨_,rfl,_,_,rfl,rfl,_,rfl,ite2 (fun c=>?_) (fun c=>⟨n / 2,_,vs,rfl,by omega,by omega,s5,eV,bv,by omega⟩)⟩
   refine ⟨_,rfl,_,_,rfl,rfl,_,_,rfl,rfl,.inl ⟨by decide,by decide⟩,_,_,rfl,rfl,(by show (0:Int) < 8191;decide),?_⟩
   exact ⟨1000003 * ((i:Int)+5) % 8191,_,vs,rfl,by omega,by omega,s5,eV,bv,by omega⟩
 ·rintro σ H2 ⟨n,o3,ts,rfl,n0,n1,s2,eR,bt,lt⟩
  have c2:cutV (zaD ts) none (some 2)=zaD (ts.take 2):=by
   rw [zh6 (by decide)]
   unfold zaD
   rw [List.map_take]
   rfl
  refine ⟨_,rfl,_,rfl,_,rfl,R,_,rfl,.of eR,fun C1 h1=>?_⟩
  rw [c2]
  have k1:=zaf h1 (.lst (zaD (ts.take 2)))
  have lt2:(ts.take 2).length≤2:=by rw [List.length_take];omega
  refine ⟨R,C1,_,_,rfl,rfl,k1 _ _ eR,zab,bigE (by rw [zaN,zaN];omega),fun C2 h2=>?_⟩
  have k2:=zaf h2 (.lst (zaD ts++zaD (ts.take 2)))
  refine q C2 (ts++ts.take 2) _ (s2.trans (k1.trans k2)) ((s2.trans k1).free h2) ?_ (fun j hj=>?_) (by rw [List.length_append];omega)
  ·rw [zab]
   unfold zaD
   rw [List.map_append]
  ·rcases List.mem_append.mp hj with hj | hj
   ·have:=bt j hj;omega
   ·have:=bt j (List.mem_of_mem_take hj);omega
theorem zeY:zax ["finding","some"] ["finding","some"] (zag zbc):=⟨rfl,rfl,rfl,by decide+kernel,rfl,by decide+kernel,by decide+kernel⟩
theorem zfj (T:Txt K mg t):FnOk P w K mg base CX0 2 t.f_law_found_by t.fd_law_found_by ["finding","some"] (zmO K):=by
 refine T.d_law_found_by.F.okB zeY (fun vs H Q E h=>?_) (fun cdv A outer s H vs Q E hr h=>?_)
 ·obtain ⟨d,a,w,kvs,ts,rfl,_⟩:=h
  rfl
 obtain ⟨d,a,w,kvs,ts,rfl,hd,fd,wf,hS,q⟩:=h
 have hu64:=hr.units
 refine ⟨_,(zah (zar (zcw (zig hu64) (zan (zdY T) (hr.mono (by decide)) rfl T.d_law_open.m T.d_law_open.F.kp T.d_law_open.b .nil zaU (zaa (bpv 0) (zaa (bpv 1) (zac)))) (zay zac) (zaF _)))),?_⟩
 refine ⟨_,rfl,_,rfl,d,a,w,kvs,ts,rfl,hd,fd,wf,hS,fun ro ws H14 s14' ero fao=>?_⟩
 refine ⟨(by show 0≤sizeLine;decide),fun E2 hE2=>?_⟩
 have kE:=zaf hE2 (.lst [])
 have opn:=zlw w ts
 have q2:=q _ (s14'.trans kE)
 refine ⟨_,_,Rep.lst (.of (kE _ _ ero)) (fao.mono kE).reps,Rep.lst (.of zab) .nil,zkQ (n:=6) (fun f hf=>zbM (List.mem_filter.mp hf).1),za9 [],fun e=>?_,fun e=>?_⟩
 ·have b:((zck w).all fun f=>zbt (zaM w f) ts)=true:=opn.mp (by
   have:=Dat.list.inj e
   exact List.map_eq_nil_iff.mp this)
  rw [b] at q2
  exact q2
 ·have b:((zck w).all fun f=>zbt (zaM w f) ts)=false:=by
   cases z:((zck w).all fun f=>zbt (zaM w f) ts) with
   | false=>rfl
   | true=>exact absurd (by rw [opn.mpr z];rfl) e
  rw [b] at q2
  exact q2
theorem zcg:zax ["finding","xs","left","fault","parts","row","rest"] ["finding","xs"] (zag zb9):=⟨rfl,rfl,rfl,by decide+kernel,rfl,by decide+kernel,by decide+kernel⟩
theorem zg3 (T:Txt K mg t):FnOk P w K mg base CX0 2 t.f_law_paper t.fd_law_paper ["finding","xs"] zmY:=by
 refine T.d_law_paper.F.okB zcg (fun vs H Q E h=>?_) (fun cdv A outer s H vs Q E hr h=>?_)
 ·obtain ⟨d,X,w,kvs,row,rfl,_⟩:=h
  rfl
 obtain ⟨d,X,w,kvs,row,rfl,hd,fd,wf,hX,l3,b0,q⟩:=h
 have hu1:=zfP hr
 have hu64:=hr.units
 have lf:=zcV wf
 have atX:∀ j:Nat,j < 3→atI (row.map V.int) (j:Int)=some (.int (row.getD j 0)):=fun j hj=>by
  refine zc9 ?_
  rw [List.getElem?_map,List.getElem?_eq_getElem (by omega),List.getD_eq_getElem?_getD,List.getElem?_eq_getElem (by omega)]
  rfl
 have g0:∀ j:Nat,0≤row.getD j 0:=fun j=>by
  rw [List.getD_eq_getElem?_getD]
  cases e:row[j]? with
  | none=>exact Int.le_refl _
  | some z=>exact b0 z (List.mem_of_getElem? e)
 refine ⟨_,(zad (zak (k:=2) zcg.nd rfl (Or.inl rfl) (zan (zdY T) (hr.mono (by decide)) rfl T.d_law_open.m T.d_law_open.F.kp T.d_law_open.b .nil zaU (zaa (bpv 0) (zaa (zay zac) (zac)))))
  (zad (zak (k:=3) zcg.nd rfl (Or.inl rfl) (zao zaH (bpv 2) (zam zcd (zao zaH (bpv 1) zae (fun _ _=>rfl)) (zaw zau rfl T.z_len PySem.boot_len (zaa (bpv 2) (zac)))) (fun _ _=>rfl)))
  (zad (zak (k:=4) zcg.nd rfl (Or.inl rfl) (zay zac))
  (zad (zaK PassesOwn.never rfl (zaI (zeg hu1 (bpv 0) (bpv 3) (fun _ _=>rfl))) (zaj (k:=5) zcg.nd rfl (Or.inl rfl)) (zad (zak (k:=6) zcg.nd rfl (Or.inl rfl) (zam zc0 (zan (zdY T) (hr.mono (by decide)) rfl T.d_law_open.m T.d_law_open.F.kp T.d_law_open.b .nil zaU (zaa (bpv 0) (zaa (zay (zaa (bpv 5) (zac))) (zac)))) (zcP zeE (bpv 2) zdI (zcZ zae))))
  (zah (zbl (zdq PySem.F.plainAttrs_list PySem.F.slot_list_append PySem.F.type_list_append zbn (bpv 4) (zaa (zaJ (zaa zav (zaa (zao zaH (bpv 6) (zam zcd (zao zaH (bpv 1) zae (fun _ _=>rfl)) (zaw zau rfl T.z_len PySem.boot_len (zaa (bpv 6) (zac)))) (fun _ _=>rfl)) (zac)))) (zac)))))))
  (zah (zar (zaJ (zaa zav (zaa (bpv 3) (zaa (zcP zeE (bpv 4) (zcZ (zam zdt (zam zcd (zao zaH (bpv 1) zae (fun _ _=>rfl)) zae) zae)) zdI) (zac))))))))))),?_⟩
 refine ⟨_,rfl,(by show 0≤sizeLine;decide),fun E0 hE0=>?_⟩
 have kE:=zaf hE0 (.lst [])
 refine ⟨d,E0,w,kvs,[],rfl,kE _ _ hd,fd.mono kE,wf,.of zab,fun L zs H1 s1 eL fa=>?_⟩
 have s01:=kE.trans s1
 have lz:=Paired.length fa
 have nz:zs≠[]:=fun z=>by
  rw [ziP,z] at lz
  exact zim wf (List.length_eq_zero_iff.mp lz.symm)
 have l0: 0 < zs.length:=List.length_pos_iff.mpr nz
 have lo:∀ ts,(zg9 w ts).length≤400:=fun ts=>by
  have:=List.length_filter_le (fun f=>decide (zaM w f≠[]) && !zbt (zaM w f) ts) (allF w)
  unfold zg9
  omega
 have lo0:=lo []
 have pz:(0:Int) < ((zs.length:Nat):Int):=by omega
 have t0:=Int.emod_nonneg (row.getD 0 0) (show ((zs.length:Nat):Int)≠0 by omega)
 have t1:=Int.emod_lt_of_pos (row.getD 0 0) pz
 obtain ⟨fv,hfv,hfv2⟩:=zlF t0 t1
 obtain ⟨g,hg,b,rfl,hb⟩:=zaY fa hfv2
 rw [← zhy] at hb
 have gm:g∈allF w:=(List.mem_filter.mp (List.mem_of_getElem? hg)).1
 have ln:=zl9 (zbM gm) wf
 refine ⟨_,rfl,_,rfl,X,_,_,_,rfl,rfl,.of (s01 _ _ hX),atX 0 (by decide),_,rfl,L,_,rfl,.inl (.of eL),_,_,rfl,rfl,pz,L,_,_,_,rfl,rfl,.of eL,hfv,?_⟩
 refine ⟨(by show 0≤sizeLine;decide),fun F hF=>?_⟩
 obtain ⟨l,el,hl⟩:∃ l,valV kvs (fkK g)=some (.ref l)∧H1 l=some (.lst (zaD (zaM w g))):=by
  rcases zbJ.look (fkK g) (fd.mono s01) with ⟨_,no⟩ | ⟨g2,hg2,eg2,l,z1,z2⟩
  ·exact absurd rfl (no g gm)
  ·rw [ze0 eg2] at z2
   exact ⟨l,z1,z2⟩
 have kF:=zaf hF (.lst [])
 have eF:(upd H1 F (.lst [])) F=some (.lst []):=zab
 have gS:Same H1 (hole F (upd H1 F (.lst []))):=zdg kF hF
 generalize upd H1 F (.lst [])=H2 at kF eF gS
 have s02:=s01.trans kF
 have hd2:=s02 _ _ hd
 have hb2:=hb.same kF
 refine ⟨_,rfl,_,rfl,d,.ref l,rfl,by rw [← el];exact DGet.r hd2 hb2,?_⟩
 refine ⟨l,rfl,⟨_,.of (kF _ _ hl)⟩,zb0 (K:=K) (a:=l) (xs:=zaD (zaM w g)) (fun i σ H9=>∃ (o5 o6:Option V) (us:List V) (ps:List Pap),σ = [some (.ref d),some (.ref X),some (.ref L),some (.ref b),some (.ref F),o5,o6]∧Off [F] (hole F H2) H9∧H9 F=some (.lst us)∧Paired (zdr (hole F H9) 1) us ps∧us.length≤i)
  ⟨_,_,[],[],rfl,zcx eF,eF,.nil,Nat.le_refl _⟩ (fun i σ H9 _ ⟨_,_,_,_,_,of9,_⟩=>.of ((gS.trans of9.same) _ _ hl)) ?_ ?_⟩
 ·rintro i v σ H9 hv ⟨o5,o6,us,ps,rfl,of9,eF9,pu,lu⟩
  obtain ⟨k,hk,rfl⟩:=zcF hv
  have li:i < (zaM w g).length:=(List.getElem?_eq_some_iff.mp hk).1
  have s19:Same H1 H9:=gS.trans of9.same
  have s09:=s01.trans s19
  refine ⟨_,rfl,_,rfl,(by show 1≤sizeLine;decide),fun L1 h1=>?_⟩
  have k1:=zaf h1 (.lst [.int (k:Int)])
  have s10:=s09.trans k1
  refine ⟨d,L1,w,kvs,[k],rfl,s10 _ _ hd,fd.mono s10,wf,.of zab,fun r ys H11 s11 er fa2=>?_⟩
  have ly:=Paired.length fa2
  have lyo:=lo [k]
  have s911:=k1.trans s11
  refine ⟨_,rfl,_,rfl,L,_,rfl,.of ((s19.trans s911) _ _ eL),fun C1 hC1=>?_⟩
  have c1:cutV zs none (some 1)=zs.take 1:=zh6 (by decide)
  rw [c1]
  have k2:=zaf hC1 (.lst (zs.take 1))
  have lt:(zs.take 1).length=1:=by rw [List.length_take];omega
  refine ⟨r,C1,_,_,rfl,rfl,k2 _ _ er,zab,bigE (by omega),fun C2 hC2=>?_⟩
  have k3:=zaf hC2 (.lst (ys++zs.take 1))
  have e2:(upd (upd H11 C1 (.lst (zs.take 1))) C2 (.lst (ys++zs.take 1))) C2=some (.lst (ys++zs.take 1)):=zab
  have s912:=s911.trans (k2.trans k3)
  have s1112:=k2.trans k3
  generalize upd (upd H11 C1 (.lst (zs.take 1))) C2 (.lst (ys++zs.take 1))=H12 at k3 e2 s912 s1112
  have keys:∀ v∈ys++zs.take 1,ziU H12 v∧v≠.ref F:=fun v hv=>by
   have ne:∀ {Hq:Hp},ziU Hq v→Same Hq H12→v≠.ref F:=fun ⟨b2,f2,e2,h2⟩ sq z=>by
    rw [e2] at z
    cases z
    rcases h2.same sq with h | ⟨_,h⟩ <;> (rw [s912 _ _ eF9] at h;cases h)
   rcases List.mem_append.mp hv with hv | hv
   ·exact ⟨(fa2.keys v hv).mono s1112,ne (fa2.keys v hv) s1112⟩
   ·have kk:=fa.keys v (List.mem_of_mem_take hv)
    exact ⟨kk.mono (s19.trans s912),ne kk (s19.trans s912)⟩
  have pl:(0:Int) < (((ys++zs.take 1).length:Nat):Int):=by rw [List.length_append];omega
  have u0:=Int.emod_nonneg (row.getD 1 0) (show (((ys++zs.take 1).length:Nat):Int)≠0 by omega)
  have u1:=Int.emod_lt_of_pos (row.getD 1 0) pl
  obtain ⟨rv,hrv,hrv2⟩:=zlF u0 u1
  obtain ⟨⟨b3,f3,rfl,hb3⟩,nF3⟩:=keys rv (List.mem_of_getElem? hrv2)
  refine ⟨_,rfl,.inl ⟨rfl,_,.of (s912 _ _ eF9)⟩,_,rfl,_,rfl,X,_,_,_,rfl,rfl,.of ((s09.trans s912) _ _ hX),atX 1 (by decide),_,rfl,C2,_,rfl,.inl (.of e2),_,_,rfl,rfl,pl,C2,_,_,_,rfl,rfl,.of e2,hrv,(by show 2≤sizeLine;decide),fun T3 h3=>?_⟩
  have k4:=zaf h3 (.tup [.str "none",.ref b3])
  have s93:=s912.trans k4
  have T3F:T3≠F:=Ne.symm (zal (s912 _ _ eF9) h3)
  have b3F:b3≠F:=fun z=>nF3 (by rw [z])
  refine ⟨F,us,_,rfl,rfl,s93 _ _ eF9,big (by omega),_,_,us++ [.ref T3],ps++ [.none f3],rfl,(of9.grow s93).write (.head _) _,zab,?_,by rw [List.length_append];show _+1≤_;omega⟩
  refine Paired.snoc (Paired.mapP pu fun _ _ z=>z.mono (zhi s93 eF9 _)) ⟨T3,b3,rfl,?_,?_⟩
  ·rw [zaT T3F,zai T3F]
   exact zab
  ·exact (hb3.same k4).keep fun u eu _=>by rw [zaT b3F,zai b3F];exact eu
 ·rintro σ H9 ⟨o5,o6,us,ps,rfl,of9,eF9,pu,lu⟩
  rw [zaN] at lu
  have s19:Same H1 H9:=gS.trans of9.same
  have s09:=s01.trans s19
  have g2:=g0 2
  refine ⟨_,rfl,_,rfl,_,rfl,X,_,_,_,rfl,rfl,.of (s09 _ _ hX),atX 2 (by decide),_,_,rfl,rfl,(by show (0:Int) < 4;decide),_,_,rfl,rfl,⟨by decide,by decide⟩,_,rfl,F,_,rfl,.of eF9,fun C1 h1=>?_⟩
  have c1:cutV us (some (row.getD 2 0 % 4 / 3)) none=us.drop (row.getD 2 0 % 4 / 3).toNat:=zf1 (by omega)
  rw [c1]
  have k1:=zaf h1 (.lst (us.drop (row.getD 2 0 % 4 / 3).toNat))
  refine ⟨(by show 3≤sizeLine;decide),fun T3 h3=>?_⟩
  have k2:=zaf h3 (.tup [.str "of",.ref b,.ref C1])
  have k12:=k1.trans k2
  refine q T3 (fkK g) (ps.drop (row.getD 2 0 % 4 / 3).toNat) _ (s09.trans k12) ⟨T3,b,C1,us.drop (row.getD 2 0 % 4 / 3).toNat,rfl,zab,(hb.same s19).same k12,k2 _ _ zab,?_,by rw [List.length_drop];omega⟩
  exact zfp _ (Paired.mapP pu fun _ _ z=>(z.mono (zcx eF9).same).mono k12)
theorem zcY:zax ["script","inputs","works","given","which","rows","finding","xs","some","paper","found","k","one"] ["script"] (zag zfL):=⟨rfl,rfl,rfl,by decide+kernel,rfl,by decide+kernel,by decide+kernel⟩
theorem ok_law (T:Txt K mg t):FnOk P w K mg base CX0 15 t.f_law t.fd_law ["script"] (zhY K):=by
 refine T.d_law.F.okB zcY (fun vs H Q E h=>?_) (fun cdv A outer s H vs Q E hr h=>?_)
 ·obtain ⟨a,ns,rfl,_⟩:=h
  rfl
 obtain ⟨a,ns,rfl,hS,h63,q⟩:=h
 have hu64:=hr.units
 have pw:∀ i j:Int,i.natAbs < 2 ^ 64→0≤j→j≤1000000→CPow i j:=fun i j a b c=>⟨b,c,a⟩
 refine ⟨_,(zad (zak (k:=1) zcY.nd rfl (Or.inl rfl) (zam zcj zae (zam zcd (zan (zb3 T) (hr.mono (by decide)) rfl T.d_law_cell_at.m T.d_law_cell_at.F.kp T.d_law_cell_at.b .nil zaU (zaa (bpv 0) (zaa zae (zac)))) zae)))
  (zad (zak (k:=2) zcY.nd rfl (Or.inl rfl) (zan (zeZ T) (hr.mono (by decide)) rfl T.d_law_works_of.m T.d_law_works_of.F.kp T.d_law_works_of.b .nil zaU (zaa (bpv 0) (zaa (bpv 1) (zaa (zam zdC zae (zam zdt (bpv 1) zae)) (zac))))))
  (zad (zak (k:=3) zcY.nd rfl (Or.inl rfl) (zan (zhA T) (hr.mono (by decide)) rfl T.d_law_copy.m T.d_law_copy.F.kp T.d_law_copy.b .nil zaU (zaa (bpv 2) (zac))))
  (zad (zaK PassesOwn.never rfl (zaI (zay (zaa zae (zaa zae (zaa zae (zaa zae (zaa zae (zaa zae (zac))))))))) (zaj (k:=4) zcY.nd rfl (Or.inl rfl)) (zah (zaW (zex (zdV (zan (zfD T) (hr.mono (by decide)) rfl T.d_law_refused.m T.d_law_refused.F.kp T.d_law_refused.b .nil zaU (zaa (bpv 4) (zaa (bpv 3) (zac)))))) (zah (zar zc1)) zaA)))
  (zad (zak (k:=5) zcY.nd rfl (Or.inr rfl) (zan (zdy T) (hr.mono (by decide)) rfl T.d_law_all_rows.m T.d_law_all_rows.F.kp T.d_law_all_rows.b .nil zaU (zaa (bpv 1) (zac))))
  (zad (zak (k:=6) zcY.nd rfl (Or.inl rfl) (zan (zfN T) (hr.mono (by decide)) rfl T.d_law_finding.m T.d_law_finding.F.kp T.d_law_finding.b .nil zaU (zaa (bpv 2) (zac))))
  (zad (zak (k:=7) zcY.nd rfl (Or.inl rfl) (zan (zcJ T) (hr.mono (by decide)) rfl T.d_law_digits.m T.d_law_digits.F.kp T.d_law_digits.b .nil zaU (zaa (zan (zb3 T) (hr.mono (by decide)) rfl T.d_law_cell_at.m T.d_law_cell_at.F.kp T.d_law_cell_at.b .nil zaU (zaa (bpv 0) (zaa zae (zac)))) (zaa zae (zaa (zam zks zae zae) (zac))))))
  (zad (zaK PassesOwn.never rfl (zaI (zay (zaa (zay zac) (zaa (zan (zhw T) (hr.mono (by decide)) rfl T.d_law_some.m T.d_law_some.F.kp T.d_law_some.b .nil zaU (zaa (zao zaH (bpv 7) zae (fun _ _=>rfl)) (zaa (zaw zau rfl T.z_len PySem.boot_len (zaa (bpv 5) (zac))) (zac)))) (zac))))) (zaj (k:=8) zcY.nd rfl (Or.inl rfl)) (zad (zak (k:=10) zcY.nd rfl (Or.inl rfl) (zan (zhm T) (hr.mono (by decide)) rfl T.d_finds_all.m T.d_finds_all.F.kp T.d_finds_all.b .nil zaU (zaa (bpv 3) (zaa (zaQ rfl (N:=["k","rows"]) (n:=1) (cap:=[5]) (zbU rfl rfl) (zaI (bpv 8)) (zaL (by decide)) (fun _ _ _ _=>(zaj (k:=0) (show (["k","rows"]:List Str).Nodup by decide+kernel) rfl (Or.inl rfl))) (fun _ _ _ _=>za3) (fun _ _ _ _=>(zce (zgB (K:=K)) rfl T.z_list PyProof.Rows.boot_list (zaa (zao (zcU (K:=K)) (bpv 1) (bpv 0) (fun _ _=>rfl)) (zac))))) (zac)))))
  (zah (zaW (zdQ (zfa (zex (zdV (zaw zhU rfl T.z_isinstance PyProof.Rows.boot_isinstance (zaa (bpv 10) (zaa (zgH (v:=.ty "bool") rfl T.z_bool PyProof.Rows.boot_bool rfl) (zac)))))) (zd0 (zas zjo (bpv 10) (zan (zfj T) (hr.mono (by decide)) rfl T.d_law_found_by.m T.d_law_found_by.F.kp T.d_law_found_by.b .nil zaU (zaa (bpv 6) (zaa (bpv 8) (zac)))) (zaF _))))) (zah (zar zc1)) zaA))))
  (zad (zak (k:=9) zcY.nd rfl (Or.inl rfl) (zan (zg3 T) (hr.mono (by decide)) rfl T.d_law_paper.m T.d_law_paper.F.kp T.d_law_paper.b .nil zaU (zaa (bpv 6) (zaa (zcP zeE (bpv 7) (zcZ zae) zdI) (zac)))))
  (zad (zaK PassesOwn.never rfl (zaI (zay (zaa (zaJ (zaa zae (zaa (bpv 9) (zac)))) (zaa (zaJ (zaa zae (zaa (zaJ (zaa zav (zaa (zao zaB (bpv 9) zae (fun _ _=>rfl)) (zac)))) (zac)))) (zac))))) (zdi rfl (zaz (zaj (k:=11) zcY.nd rfl (Or.inl rfl)) (zaz (zaj (k:=12) zcY.nd rfl (Or.inl rfl)) zbW))) (zad (zak (k:=10) zcY.nd rfl (Or.inl rfl) (zan (zgC T) (hr.mono (by decide)) rfl T.d_need_shows.m T.d_need_shows.F.kp T.d_need_shows.b .nil zaU (zaa (bpv 3) (zaa (bpv 11) (zaa (bpv 12) (zac))))))
  (zah (zaW (zdQ (zfa (zex (zdV (zaw zhU rfl T.z_isinstance PyProof.Rows.boot_isinstance (zaa (bpv 10) (zaa (zgH (v:=.ty "bool") rfl T.z_bool PyProof.Rows.boot_bool rfl) (zac)))))) (zd0 (zas zjo (bpv 10) (zan (zhE T) (hr.mono (by decide)) rfl T.d_law_walk.m T.d_law_walk.F.kp T.d_law_walk.b .nil zaU (zaa (bpv 6) (zaa (zay zac) (zaa (bpv 11) (zaa (bpv 12) (zac)))))) (zaF _))))) (zah (zar zc1)) zaA))))
  (zah (zar (zcw (zig hu64) (bpv 3) (bpv 2) (zaF _)))))))))))))),?_⟩
 refine ⟨_,rfl,a,ns,0,rfl,hS,fun c0=>?_⟩
 obtain ⟨inp,ei⟩:∃ inp:Int,4+c0 % 3=inp:=⟨_,rfl⟩
 have n4: 4≤inp∧inp≤6:=by omega
 obtain ⟨most,em,m20⟩:∃ most:Nat,2 - inp / 6=(most:Int)∧most≤20:=⟨(2 - inp / 6).toNat,by omega,by omega⟩
 refine ⟨_,_,rfl,rfl,(by show (0:Int) < 3;decide),_,_,rfl,rfl,?_⟩
 dsimp only
 rw [ei]
 refine ⟨_,rfl,_,rfl,_,rfl,_,_,rfl,rfl,⟨by decide,by decide⟩,_,_,rfl,rfl,a,ns,inp,most,by rw [← em];rfl,hS,by omega,n4.2,m20,fun r w H1 s1 rw1 wf ew=>?_⟩
 have i1:=wf.i1
 have i6:=wf.i6
 have many:=zaZ w.ins.toNat
 have h64:=pow6 (n:=w.ins.toNat) (by omega)
 refine ⟨_,rfl,.ref r,w,rfl,rw1,wf,fun g H2 s2 rg=>?_⟩
 obtain ⟨g1,ga,oa,gs,os,eg,hg,_,_,_,_⟩:=zcl rg
 cases eg
 refine ⟨(by show 6≤sizeLine;decide),fun L6 h6=>?_⟩
 have k3:=zaf h6 (.lst [.int 0,.int 1,.int 2,.int 2,.int 1,.int 0])
 have e6:(upd H2 L6 (.lst [.int 0,.int 1,.int 2,.int 2,.int 1,.int 0])) L6=some (.lst [.int 0,.int 1,.int 2,.int 2,.int 1,.int 0]):=zab
 generalize upd H2 L6 (.lst [.int 0,.int 1,.int 2,.int 2,.int 1,.int 0])=H3 at k3 e6
 refine ⟨L6,rfl,⟨_,.of e6⟩,zb0 (K:=K) (a:=L6) (xs:=[.int 0,.int 1,.int 2,.int 2,.int 1,.int 0]) (fun i σ H9=>∃ o4:Option V,σ = [some (.ref a),some (.int inp),some (.ref r),some (.ref g),o4,none,none,none,none,none,none,none,none]∧Same H3 H9)
  ⟨_,rfl,Same.refl _⟩ (fun i σ H9 _ ⟨_,_,s9⟩=>.of (s9 _ _ e6)) ?_ ?_⟩
 ·rintro i v σ H9 hv ⟨o4,rfl,s9⟩
  obtain ⟨n,rfl⟩:∃ n:Int,v= .int n:=by
   have:=List.mem_of_getElem? hv
   simp only [List.mem_cons,List.not_mem_nil,or_false] at this
   rcases this with e | e | e | e | e | e <;> exact ⟨_,e⟩
  exact ⟨_,rfl,_,rfl,n,g,ga,oa,w.ins,rfl,(k3.trans s9).seqT hg,by omega,fun H10 s10=>⟨_,rfl,iteF ⟨_,rfl,s9.trans s10⟩⟩⟩
 rintro σ H9 ⟨o4,rfl,s9⟩
 have s29:=k3.trans s9
 have s19:=s2.trans s29
 refine ⟨_,rfl,w.ins,by rw [ew];rfl,by omega,i6,fun R qs H10 s10 eR at10=>?_⟩
 have lq:=at10.len
 have s110:=s19.trans s10
 refine ⟨_,rfl,.ref r,w,rfl,rw1.mono s110,wf,fun d kvs H11 s11 nd ed fd=>?_⟩
 have s111:=s110.trans s11
 refine ⟨_,rfl,a,ns,2,rfl,(s1.trans s111).seq hS,fun cell=>?_⟩
 refine ⟨_,_,rfl,rfl,pw _ _ (by decide) (by decide) (by decide),_,8,_,rfl,by decide,by decide,by decide,fun X ds H12 s12 nX eX lX bX=>?_⟩
 have e9:(10:Int) ^ Int.toNat 9=1000000000:=rfl
 have atX:∀ j:Nat,j < 8→atI (ds.map V.int) (j:Int)=some (.int (ds.getD j 0)):=fun j hj=>by
  refine zc9 ?_
  rw [List.getElem?_map,List.getElem?_eq_getElem (by omega),List.getD_eq_getElem?_getD,List.getElem?_eq_getElem (by omega)]
  rfl
 have g4: 0≤ds.getD 4 0∧ds.getD 4 0 < 1000000000:=by
  rw [List.getD_eq_getElem?_getD,List.getElem?_eq_getElem (by omega)]
  have:=bX ds[4] (List.getElem_mem _)
  rw [e9] at this
  exact this
 have s1012:=s11.trans s12
 refine ⟨(by show 0≤sizeLine;decide),fun E0 hE0=>?_⟩
 have k13:=zaf hE0 (.lst [])
 refine ⟨_,rfl,X,_,_,_,rfl,rfl,.of (k13 _ _ eX),atX 4 (by decide),_,rfl,R,_,rfl,.inl (.of ((s1012.trans k13) _ _ eR)),ds.getD 4 0,qs.length,by rw [List.length_map];rfl,g4.1,by omega,by omega,fun S ts H14 s14 nS eS bts lts=>?_⟩
 refine ⟨(by show 2≤sizeLine;decide),fun Ls hLs=>?_⟩
 have k15:=zaf hLs (.lst [.ref E0,.ref S])
 have some2:∀ v∈[V.ref E0,.ref S],∃ (S2:Addr) (ts:List Nat),v= .ref S2∧(upd H14 Ls (.lst [.ref E0,.ref S])) S2=some (.lst (zaD ts))∧(∀ j∈ts,j < 2 ^ w.ins.toNat)∧ts.length≤128:=fun v hv=>by
  rcases List.mem_cons.mp hv with e | hv
  ·exact ⟨E0,[],e,(s14.trans k15) _ _ zab,(fun _ z=>nomatch z),by decide⟩
  ·exact ⟨S,ts,List.mem_singleton.mp hv,k15 _ _ eS,fun j hj=>by have:=bts j hj;omega,lts⟩
 have eLs:(upd H14 Ls (.lst [.ref E0,.ref S])) Ls=some (.lst [.ref E0,.ref S]):=zab
 have s1215:=k13.trans (s14.trans k15)
 generalize upd H14 Ls (.lst [.ref E0,.ref S])=H15 at k15 some2 eLs s1215
 clear k15 eS bts lts nS s14
 have s1015:=s1012.trans s1215
 have s915:=s10.trans s1015
 have s215:=s29.trans s915
 have s115:=s2.trans s215
 have rg15:=rg.mono s215
 have rw15:=rw1.mono s115
 have s1115:=s12.trans s1215
 have ed15:=s1115 _ _ ed
 have fd15:=fd.mono s1115
 have eR15:=s1015 _ _ eR
 have at15:=at10.mono s1015
 have eX15:=s1215 _ _ eX
 refine ⟨Ls,rfl,⟨_,.of eLs⟩,zb0 (K:=K) (a:=Ls) (xs:=[.ref E0,.ref S]) (fun i σ HZ=>∃ (o8 o10:Option V),σ = [some (.ref a),some (.int inp),some (.ref r),some (.ref g),o4,some (.ref R),some (.ref d),some (.ref X),o8,none,o10,none,none]∧Same H15 HZ)
  ⟨_,_,rfl,Same.refl _⟩ (fun i σ HZ _ ⟨_,_,_,sZ⟩=>.of (sZ _ _ eLs)) ?_ ?_⟩
 ·rintro i v σ HZ hv ⟨o8,o10,rfl,sZ⟩
  obtain ⟨S2,t2,rfl,eS0,bt2,lt2⟩:=some2 v (List.mem_of_getElem? hv)
  have eS2:=sZ _ _ eS0
  have eRZ:=sZ _ _ eR15
  have atZ:=at15.mono sZ
  have rowA:∀ k∈t2,∃ qq,qs[k]? =some qq∧HZ qq=some (.lst ((zeu w k).map V.int)):=fun k hk=>by
   have lk:=bt2 k hk
   obtain ⟨qq,hqq⟩:∃ qq,qs[k]? =some qq:=⟨_,List.getElem?_eq_getElem (by omega)⟩
   obtain ⟨row,hrow,eq⟩:=atZ.get hqq
   refine ⟨qq,hqq,?_⟩
   unfold zeu
   rw [List.getD_eq_getElem?_getD,hrow]
   exact eq
  refine ⟨_,rfl,_,rfl,S2,rfl,⟨_,.of eS2⟩,fun D hD=>zbo (K:=K) (a:=S2) (xs:=zaD t2)
   (fun j H4=>∃ xs,Off [D] HZ H4∧H4 D=some (.lst xs)∧Paired (fun v row=>∃ q,v= .ref q∧q≠D∧H4 q=some (.lst (row.map V.int))) xs ((t2.take j).map (zeu w)))
   ⟨[],Off.start hD _,zab,.nil⟩ (fun j H4 _ ⟨_,off,_⟩=>.of (off.same _ _ eS2)) ?_ ?_⟩
  ·rintro j v H4 hv ⟨ys,off,eD,pr⟩
   obtain ⟨k,hk,rfl⟩:=zcF hv
   have lj:j < t2.length:=(List.getElem?_eq_some_iff.mp hk).1
   obtain ⟨qq,hqq,eqq⟩:=rowA k (List.mem_of_getElem? hk)
   have lp:=Paired.length pr
   rw [List.length_map,List.length_take] at lp
   refine ⟨_,rfl,_,rfl,R,_,_,_,rfl,rfl,.of (off.same _ _ eRZ),zc9 (by rw [List.getElem?_map,hqq];rfl),qq,_,rfl,.inl (.of (off.same _ _ eqq)),fun C hC=>?_⟩
   have kC:=zaf hC (.lst ((zeu w k).map V.int))
   have CD:C≠D:=Ne.symm (zal eD hC)
   refine ⟨ys,kC _ _ eD,big (by omega),ys++ [.ref C],(off.grow kC).write (.head _) _,zab,?_⟩
   rw [List.take_add_one,hk,List.map_append]
   exact Paired.snoc (Paired.mapP pr fun v row ⟨q,a1,a3,a4⟩=>⟨q,a1,a3,by rw [zai a3];exact kC _ _ a4⟩) ⟨C,rfl,CD,by rw [zai CD];exact zab⟩
  rintro H11 ⟨ys,off,eD,pr⟩
  rw [zaN,List.take_length] at pr
  have s11':=sZ.trans off.same
  have rD:Rep K H11 (.ref D) (.list ((t2.map (zeu w)).map rowD)):=.lst (.of eD) (zha (Paired.mapP pr fun v row ⟨q,a1,_,a4⟩=>⟨q,a1,a4⟩))
  refine ⟨.ref g,.ref D,w,t2.map (zeu w),rfl,rg15.mono s11',wf,rD,?_,by rw [List.length_map];omega,fun H13 s13'=>?_⟩
  ·intro row hrow
   obtain ⟨k,hk,rfl⟩:=List.mem_map.mp hrow
   have lk:k < (zaX w.ins.toNat).length:=by rw [many];exact bt2 k hk
   have rr:=zcB w.ins.toNat (zeu w k) (by
    unfold zeu
    rw [List.getD_eq_getElem?_getD,List.getElem?_eq_getElem lk]
    exact List.getElem_mem lk)
   exact ⟨by rw [rr.1];omega,rr.2⟩
  rw [zkq wf bt2]
  have s1513:=s11'.trans s13'
  refine ⟨_,rfl,.bl _,"bool",_,_,rfl,.of (.bl _),k_bb K,_,rfl,iteF ?_⟩
  refine ⟨_,rfl,_,rfl,_,rfl,d,S2,w,kvs,t2,rfl,s1513 _ _ ed15,fd15.mono s1513,wf,.of ((off.same.trans s13') _ _ eS2),fun H16 s16=>?_⟩
  exact ⟨rfl,_,rfl,ite2 (fun c=>absurd c (by simp)) (fun _=>⟨_,_,rfl,s1513.trans s16⟩)⟩
 rintro σ HZ ⟨o8,o10,rfl,sZ⟩
 obtain ⟨ms,ems⟩:∃ ms:List Int,ms=ds.drop 5:=⟨_,rfl⟩
 have ec:cutV (ds.map V.int) (some 5) none=ms.map V.int:=by
  rw [zf1 (by decide),ems,List.map_drop]
  rfl
 refine ⟨_,rfl,_,rfl,_,rfl,X,_,rfl,.of (sZ _ _ eX15),fun C5 h5=>?_⟩
 rw [ec]
 have k5:=zaf h5 (.lst (ms.map V.int))
 have sY:=sZ.trans k5
 refine ⟨d,C5,w,kvs,ms,rfl,sY _ _ ed15,fd15.mono sY,wf,zab,by rw [ems,List.length_drop];omega,fun z hz=>(bX z (by rw [ems] at hz;exact List.mem_of_mem_drop hz)).1,fun pa f ps H16 s16 pp=>?_⟩
 have s1516:=sY.trans s16
 obtain ⟨pa',fb,pl,xs,epa,hpa,hfb,hpl,pr,lxs⟩:=id pp
 cases epa
 refine ⟨_,rfl,(by show 2≤sizeLine;decide),fun T1 h1=>?_⟩
 have k1:=zaf h1 (.tup [.int 1,.ref pa])
 refine ⟨_,rfl,pa,_,_,_,rfl,rfl,.of (k1 _ _ hpa),rfl,(by show 2≤sizeLine;decide),fun T2 h2=>?_⟩
 have k2:=zaf h2 (.tup [.str "none",.ref fb])
 refine ⟨(by show 2≤sizeLine;decide),fun T3 h3=>?_⟩
 have k3':=zaf h3 (.tup [.int 0,.ref T2])
 refine ⟨(by show 2≤sizeLine;decide),fun L2 h4=>?_⟩
 have k4:=zaf h4 (.lst [.ref T1,.ref T3])
 have eL2:(upd (upd (upd (upd H16 T1 (.tup [.int 1,.ref pa])) T2 (.tup [.str "none",.ref fb])) T3 (.tup [.int 0,.ref T2])) L2 (.lst [.ref T1,.ref T3])) L2=some (.lst [.ref T1,.ref T3]):=zab
 have s1620:=k1.trans (k2.trans (k3'.trans k4))
 have each:∀ v∈[V.ref T1,.ref T3],∃ (T:Addr) (k:Int) (pv:V) (p:Pap),v= .ref T∧(upd (upd (upd (upd H16 T1 (.tup [.int 1,.ref pa])) T2 (.tup [.str "none",.ref fb])) T3 (.tup [.int 0,.ref T2])) L2 (.lst [.ref T1,.ref T3])) T=some (.tup [.int k,pv])∧zdr (upd (upd (upd (upd H16 T1 (.tup [.int 1,.ref pa])) T2 (.tup [.str "none",.ref fb])) T3 (.tup [.int 0,.ref T2])) L2 (.lst [.ref T1,.ref T3])) 5 pv p:=fun v hv=>by
  rcases List.mem_cons.mp hv with e | hv
  ·exact ⟨T1,1,.ref pa,.of f ps,e,(k2.trans (k3'.trans k4)) _ _ zab,(pp.mono s1620).upto (by decide)⟩
  ·exact ⟨T3,0,.ref T2,.none f,List.mem_singleton.mp hv,k4 _ _ zab,T2,fb,rfl,(k3'.trans k4) _ _ zab,hfb.same s1620⟩
 have s1520:=s1516.trans s1620
 generalize upd (upd (upd (upd H16 T1 (.tup [.int 1,.ref pa])) T2 (.tup [.str "none",.ref fb])) T3 (.tup [.int 0,.ref T2])) L2 (.lst [.ref T1,.ref T3])=H20 at eL2 each s1520
 refine ⟨L2,rfl,⟨_,.of eL2⟩,zb0 (K:=K) (a:=L2) (xs:=[.ref T1,.ref T3]) (fun i σ HZ=>∃ (o10 o11 o12:Option V),σ = [some (.ref a),some (.int inp),some (.ref r),some (.ref g),o4,some (.ref R),some (.ref d),some (.ref X),o8,some (.ref pa),o10,o11,o12]∧Same H20 HZ)
  ⟨_,_,_,rfl,Same.refl _⟩ (fun i σ HZ _ ⟨_,_,_,_,sZ⟩=>.of (sZ _ _ eL2)) ?_ ?_⟩
 ·rintro i v σ H21 hv ⟨o10,o11,o12,rfl,s21⟩
  obtain ⟨T4,k,pv,p,rfl,eT4,pp4⟩:=each v (List.mem_of_getElem? hv)
  have s1521:=s1520.trans s21
  refine ⟨T4,_,rfl,.of (s21 _ _ eT4),rfl,_,_,rfl,_,_,rfl,rfl,?_⟩
  refine ⟨_,rfl,_,rfl,_,rfl,.ref g,pv,k,w,p,rfl,rg15.mono s1521,wf,pp4.mono s21,fun H22 s22=>?_⟩
  refine ⟨_,rfl,.bl _,"bool",_,_,rfl,.of (.bl _),k_bb K,_,rfl,iteF ?_⟩
  refine ⟨_,rfl,_,rfl,(by show 0≤sizeLine;decide),fun E1 hE1=>?_⟩
  have kE1:=zaf hE1 (.lst [])
  have s2023:=s21.trans (s22.trans kE1)
  have s1523:=s1520.trans s2023
  refine ⟨_,rfl,_,rfl,d,E1,k,pv,w,kvs,[],p,rfl,s1523 _ _ ed15,fd15.mono s1523,wf,zab,by decide,pp4.mono s2023,fun H24 s24=>?_⟩
  exact ⟨rfl,_,rfl,ite2 (fun c=>absurd c (by simp)) (fun _=>⟨_,_,_,rfl,s2023.trans s24⟩)⟩
 ·rintro σ H21 ⟨o10,o11,o12,rfl,s21⟩
  have s1521:=s1520.trans s21
  exact ⟨_,rfl,_,rfl,zb4 w,zb4 w,rg15.mono s1521,rw15.mono s1521,zh5 wf,zh5 wf,fun _=>q _,fun ne=>absurd rfl ne⟩
end
theorem all_mk {l:PySem.W.OpenLaw}{w:World}{K:PySem.W.Frag}{h:Heap}{mg:Str→Option Value}{fa f1 f2 f3 f4 f5 f6 f7 f8 f9 f10 f11 f12 f13 f14 f15 f16 f17 f18 f19 f20 f21 f22 f23 f24 f25 f26 f27 f28 f29 f30 f31 f32 f33 f34 f35 f36 f37 f38 f39 f40 f41 f42 f43 f44 f45 f46 f47:Addr}(X:K.In h)(G:h.Ns mainGlobals mg)(hfa:mg "law" =some (.ref fa))
  {od1 an1 od2 an2 od3 an3 od4 an4 od5 an5 od6 an6 od7 an7 od8 an8 od9 an9 od10 an10 od11 an11 od12 an12 od13 an13 od14 an14 od15 an15 od16 an16 od17 an17 od18 an18 od19 an19 od20 an20 od21 an21 od22 an22 od23 an23 od24 an24 od25 an25 od26 an26 od27 an27 od28 an28 od29 an29 od30 an30 od31 an31 od32 an32 od33 an33 od34 an34 od35 an35 od36 an36 od37 an37 od38 an38 od39 an39 od40 an40 od41 an41 od42 an42 od43 an43 od44 an44 od45 an45 od46 an46 od47 an47:Option Addr} {sl1 sl2 sl3 sl4 sl5 sl6 sl7 sl8 sl9 sl10 sl11 sl12 sl13 sl14 sl15 sl16 sl17 sl18 sl19 sl20 sl21 sl22 sl23 sl24 sl25 sl26 sl27 sl28 sl29 sl30 sl31 sl32 sl33 sl34 sl35 sl36 sl37 sl38 sl39 sl40 sl41 sl42 sl43 sl44 sl45 sl46 sl47:Array (Option Value)} {oc1 kV1 dc1 pm1 cd1 ct1 oc2 kV2 dc2 pm2 cd2 ct2 oc3 kV3 dc3 pm3 cd3 ct3 oc4 kV4 dc4 pm4 cd4 ct4 oc5 kV5 dc5 pm5 cd5 ct5 oc6 kV6 dc6 pm6 cd6 ct6 oc7 kV7 dc7 pm7 cd7 ct7 oc8 kV8 dc8 pm8 cd8 ct8 oc9 kV9 dc9 pm9 cd9 ct9 oc10 kV10 dc10 pm10 cd10 ct10 oc11 kV11 dc11 pm11 cd11 ct11 oc12 kV12 dc12 pm12 cd12 ct12 oc13 kV13 dc13 pm13 cd13 ct13 oc14 kV14 dc14 pm14 cd14 ct14 oc15 kV15 dc15 pm15 cd15 ct15 oc16 kV16 dc16 pm16 cd16 ct16 oc17 kV17 dc17 pm17 cd17 ct17 oc18 kV18 dc18 pm18 cd18 ct18 oc19 kV19 dc19 pm19 cd19 ct19 oc20 kV20 dc20 pm20 cd20 ct20 oc21 kV21 dc21 pm21 cd21 ct21 oc22 kV22 dc22 pm22 cd22 ct22 oc23 kV23 dc23 pm23 cd23 ct23 oc24 kV24 dc24 pm24 cd24 ct24 oc25 kV25 dc25 pm25 cd25 ct25 oc26 kV26 dc26 pm26 cd26 ct26 oc27 kV27 dc27 pm27 cd27 ct27 oc28 kV28 dc28 pm28 cd28 ct28 oc29 kV29 dc29 pm29 cd29 ct29 oc30 kV30 dc30 pm30 cd30 ct30 oc31 kV31 dc31 pm31 cd31 ct31 oc32 kV32 dc32 pm32 cd32 ct32 oc33 kV33 dc33 pm33 cd33 ct33 oc34 kV34 dc34 pm34 cd34 ct34 oc35 kV35 dc35 pm35 cd35 ct35 oc36 kV36 dc36 pm36 cd36 ct36 oc37 kV37 dc37 pm37 cd37 ct37 oc38 kV38 dc38 pm38 cd38 ct38 oc39 kV39 dc39 pm39 cd39 ct39 oc40 kV40 dc40 pm40 cd40 ct40 oc41 kV41 dc41 pm41 cd41 ct41 oc42 kV42 dc42 pm42 cd42 ct42 oc43 kV43 dc43 pm43 cd43 ct43 oc44 kV44 dc44 pm44 cd44 ct44 oc45 kV45 dc45 pm45 cd45 ct45 oc46 kV46 dc46 pm46 cd46 ct46 oc47 kV47 dc47 pm47 cd47 ct47:Value}
  (a1:PySem.W.nsIn K mainGlobals "every_row" =some (some (.ref f1))) (l1:K.lookup f1=some ⟨oc1,od1,.func (PySem.W.fnOf "every_row" "every_row" (zaq zca) (zap zca) (zag zca) .none kV1 dc1 pm1 an1 cd1 ct1),sl1⟩) (c1:PySem.W.codeIn K cd1 "every_row" =true) (k1:PySem.W.keepIn K (.ref f1)=true)
  (a2:PySem.W.nsIn K mainGlobals "check_row" =some (some (.ref f2))) (l2:K.lookup f2=some ⟨oc2,od2,.func (PySem.W.fnOf "check_row" "check_row" (zaq zcc) (zap zcc) (zag zcc) .none kV2 dc2 pm2 an2 cd2 ct2),sl2⟩) (c2:PySem.W.codeIn K cd2 "check_row" =true) (k2:PySem.W.keepIn K (.ref f2)=true)
  {T3:Addr} {cT3:Value} {dT3:Option Addr} {kT3:Tok} {nT3:Nat} {sT3:Array (Option Value)}
  (a3:PySem.W.nsIn K mainGlobals "gate_worth" =some (some (.ref f3))) (l3:K.lookup f3=some ⟨oc3,od3,.func (PySem.W.fnOf "gate_worth" "gate_worth" (zaq zbR) (zap zbR) (zag zbR) (.ref T3) kV3 dc3 pm3 an3 cd3 ct3),sl3⟩) (c3:PySem.W.codeIn K cd3 "gate_worth" =true) (k3:PySem.W.keepIn K (.ref f3)=true)
  (v3:K.lookup T3=some ⟨cT3,dT3,.seq #[.int 1 kT3] nT3,sT3⟩)
  (a4:PySem.W.nsIn K mainGlobals "every_fault" =some (some (.ref f4))) (l4:K.lookup f4=some ⟨oc4,od4,.func (PySem.W.fnOf "every_fault" "every_fault" (zaq zbA) (zap zbA) (zag zbA) .none kV4 dc4 pm4 an4 cd4 ct4),sl4⟩) (c4:PySem.W.codeIn K cd4 "every_fault" =true) (k4:PySem.W.keepIn K (.ref f4)=true)
  {T5:Addr} {cT5:Value} {dT5:Option Addr} {kT5:Tok} {nT5:Nat} {sT5:Array (Option Value)}
  (a5:PySem.W.nsIn K mainGlobals "worths_with" =some (some (.ref f5))) (l5:K.lookup f5=some ⟨oc5,od5,.func (PySem.W.fnOf "worths_with" "worths_with" (zaq zby) (zap zby) (zag zby) (.ref T5) kV5 dc5 pm5 an5 cd5 ct5),sl5⟩) (c5:PySem.W.codeIn K cd5 "worths_with" =true) (k5:PySem.W.keepIn K (.ref f5)=true)
  (v5:K.lookup T5=some ⟨cT5,dT5,.seq #[.int 1 kT5] nT5,sT5⟩)
  (a6:PySem.W.nsIn K mainGlobals "leg_worths" =some (some (.ref f6))) (l6:K.lookup f6=some ⟨oc6,od6,.func (PySem.W.fnOf "leg_worths" "leg_worths" (zaq zbL) (zap zbL) (zag zbL) .none kV6 dc6 pm6 an6 cd6 ct6),sl6⟩) (c6:PySem.W.codeIn K cd6 "leg_worths" =true) (k6:PySem.W.keepIn K (.ref f6)=true)
  {T7:Addr} {cT7:Value} {dT7:Option Addr} {kT7:Tok} {nT7:Nat} {sT7:Array (Option Value)}
  (a7:PySem.W.nsIn K mainGlobals "outputs_with" =some (some (.ref f7))) (l7:K.lookup f7=some ⟨oc7,od7,.func (PySem.W.fnOf "outputs_with" "outputs_with" (zaq zbd) (zap zbd) (zag zbd) (.ref T7) kV7 dc7 pm7 an7 cd7 ct7),sl7⟩) (c7:PySem.W.codeIn K cd7 "outputs_with" =true) (k7:PySem.W.keepIn K (.ref f7)=true)
  (v7:K.lookup T7=some ⟨cT7,dT7,.seq #[.int 1 kT7] nT7,sT7⟩)
  (a8:PySem.W.nsIn K mainGlobals "outputs_seen" =some (some (.ref f8))) (l8:K.lookup f8=some ⟨oc8,od8,.func (PySem.W.fnOf "outputs_seen" "outputs_seen" (zaq zbj) (zap zbj) (zag zbj) .none kV8 dc8 pm8 an8 cd8 ct8),sl8⟩) (c8:PySem.W.codeIn K cd8 "outputs_seen" =true) (k8:PySem.W.keepIn K (.ref f8)=true)
  (a9:PySem.W.nsIn K mainGlobals "rows_at_once" =some (some (.ref f9))) (l9:K.lookup f9=some ⟨oc9,od9,.func (PySem.W.fnOf "rows_at_once" "rows_at_once" (zaq zbe) (zap zbe) (zag zbe) .none kV9 dc9 pm9 an9 cd9 ct9),sl9⟩) (c9:PySem.W.codeIn K cd9 "rows_at_once" =true) (k9:PySem.W.keepIn K (.ref f9)=true)
  (a10:PySem.W.nsIn K mainGlobals "outputs_in" =some (some (.ref f10))) (l10:K.lookup f10=some ⟨oc10,od10,.func (PySem.W.fnOf "outputs_in" "outputs_in" (zaq zcf) (zap zcf) (zag zcf) .none kV10 dc10 pm10 an10 cd10 ct10),sl10⟩) (c10:PySem.W.codeIn K cd10 "outputs_in" =true) (k10:PySem.W.keepIn K (.ref f10)=true)
  (a11:PySem.W.nsIn K mainGlobals "seen_of_each" =some (some (.ref f11))) (l11:K.lookup f11=some ⟨oc11,od11,.func (PySem.W.fnOf "seen_of_each" "seen_of_each" (zaq zbg) (zap zbg) (zag zbg) .none kV11 dc11 pm11 an11 cd11 ct11),sl11⟩) (c11:PySem.W.codeIn K cd11 "seen_of_each" =true) (k11:PySem.W.keepIn K (.ref f11)=true)
  (a12:PySem.W.nsIn K mainGlobals "unlike_numbers" =some (some (.ref f12))) (l12:K.lookup f12=some ⟨oc12,od12,.func (PySem.W.fnOf "unlike_numbers" "unlike_numbers" (zaq zaR) (zap zaR) (zag zaR) .none kV12 dc12 pm12 an12 cd12 ct12),sl12⟩) (c12:PySem.W.codeIn K cd12 "unlike_numbers" =true) (k12:PySem.W.keepIn K (.ref f12)=true)
  (a13:PySem.W.nsIn K mainGlobals "finding_rows" =some (some (.ref f13))) (l13:K.lookup f13=some ⟨oc13,od13,.func (PySem.W.fnOf "finding_rows" "finding_rows" (zaq zbb) (zap zbb) (zag zbb) .none kV13 dc13 pm13 an13 cd13 ct13),sl13⟩) (c13:PySem.W.codeIn K cd13 "finding_rows" =true) (k13:PySem.W.keepIn K (.ref f13)=true)
  (a14:PySem.W.nsIn K mainGlobals "finds_all" =some (some (.ref f14))) (l14:K.lookup f14=some ⟨oc14,od14,.func (PySem.W.fnOf "finds_all" "finds_all" (zaq zcb) (zap zcb) (zag zcb) .none kV14 dc14 pm14 an14 cd14 ct14),sl14⟩) (c14:PySem.W.codeIn K cd14 "finds_all" =true) (k14:PySem.W.keepIn K (.ref f14)=true)
  (a15:PySem.W.nsIn K mainGlobals "fewest_rows" =some (some (.ref f15))) (l15:K.lookup f15=some ⟨oc15,od15,.func (PySem.W.fnOf "fewest_rows" "fewest_rows" (zaq zbC) (zap zbC) (zag zbC) .none kV15 dc15 pm15 an15 cd15 ct15),sl15⟩) (c15:PySem.W.codeIn K cd15 "fewest_rows" =true) (k15:PySem.W.keepIn K (.ref f15)=true)
  (a16:PySem.W.nsIn K mainGlobals "need_paper" =some (some (.ref f16))) (l16:K.lookup f16=some ⟨oc16,od16,.func (PySem.W.fnOf "need_paper" "need_paper" (zaq zbS) (zap zbS) (zag zbS) .none kV16 dc16 pm16 an16 cd16 ct16),sl16⟩) (c16:PySem.W.codeIn K cd16 "need_paper" =true) (k16:PySem.W.keepIn K (.ref f16)=true)
  (a17:PySem.W.nsIn K mainGlobals "need_shows" =some (some (.ref f17))) (l17:K.lookup f17=some ⟨oc17,od17,.func (PySem.W.fnOf "need_shows" "need_shows" (zaq zbN) (zap zbN) (zag zbN) .none kV17 dc17 pm17 an17 cd17 ct17),sl17⟩) (c17:PySem.W.codeIn K cd17 "need_shows" =true) (k17:PySem.W.keepIn K (.ref f17)=true)
  (a18:PySem.W.nsIn K mainGlobals "check_inputs" =some (some (.ref f18))) (l18:K.lookup f18=some ⟨oc18,od18,.func (PySem.W.fnOf "check_inputs" "check_inputs" (zaq zba) (zap zba) (zag zba) .none kV18 dc18 pm18 an18 cd18 ct18),sl18⟩) (c18:PySem.W.codeIn K cd18 "check_inputs" =true) (k18:PySem.W.keepIn K (.ref f18)=true)
  (a19:PySem.W.nsIn K mainGlobals "meets_each" =some (some (.ref f19))) (l19:K.lookup f19=some ⟨oc19,od19,.func (PySem.W.fnOf "meets_each" "meets_each" (zaq zbO) (zap zbO) (zag zbO) .none kV19 dc19 pm19 an19 cd19 ct19),sl19⟩) (c19:PySem.W.codeIn K cd19 "meets_each" =true) (k19:PySem.W.keepIn K (.ref f19)=true)
  (a20:PySem.W.nsIn K mainGlobals "meet" =some (some (.ref f20))) (l20:K.lookup f20=some ⟨oc20,od20,.func (PySem.W.fnOf "meet" "meet" (zaq zfz) (zap zfz) (zag zfz) .none kV20 dc20 pm20 an20 cd20 ct20),sl20⟩) (c20:PySem.W.codeIn K cd20 "meet" =true) (k20:PySem.W.keepIn K (.ref f20)=true)
  (a21:PySem.W.nsIn K mainGlobals "fewest_numbers" =some (some (.ref f21))) (l21:K.lookup f21=some ⟨oc21,od21,.func (PySem.W.fnOf "fewest_numbers" "fewest_numbers" (zaq za6) (zap za6) (zag za6) .none kV21 dc21 pm21 an21 cd21 ct21),sl21⟩) (c21:PySem.W.codeIn K cd21 "fewest_numbers" =true) (k21:PySem.W.keepIn K (.ref f21)=true)
  (a22:PySem.W.nsIn K mainGlobals "longer_choices" =some (some (.ref f22))) (l22:K.lookup f22=some ⟨oc22,od22,.func (PySem.W.fnOf "longer_choices" "longer_choices" (zaq za7) (zap za7) (zag za7) .none kV22 dc22 pm22 an22 cd22 ct22),sl22⟩) (c22:PySem.W.codeIn K cd22 "longer_choices" =true) (k22:PySem.W.keepIn K (.ref f22)=true)
  (a23:PySem.W.nsIn K mainGlobals "need_behind" =some (some (.ref f23))) (l23:K.lookup f23=some ⟨oc23,od23,.func (PySem.W.fnOf "need_behind" "need_behind" (zaq zbX) (zap zbX) (zag zbX) .none kV23 dc23 pm23 an23 cd23 ct23),sl23⟩) (c23:PySem.W.codeIn K cd23 "need_behind" =true) (k23:PySem.W.keepIn K (.ref f23)=true)
  (a24:PySem.W.nsIn K mainGlobals "is_need_let_by" =some (some (.ref f24))) (l24:K.lookup f24=some ⟨oc24,od24,.func (PySem.W.fnOf "is_need_let_by" "is_need_let_by" (zaq zaS) (zap zaS) (zag zaS) .none kV24 dc24 pm24 an24 cd24 ct24),sl24⟩) (c24:PySem.W.codeIn K cd24 "is_need_let_by" =true) (k24:PySem.W.keepIn K (.ref f24)=true)
  (a25:PySem.W.nsIn K mainGlobals "plan_depth" =some (some (.ref f25))) (l25:K.lookup f25=some ⟨oc25,od25,.func (PySem.W.fnOf "plan_depth" "plan_depth" (zaq zbK) (zap zbK) (zag zbK) .none kV25 dc25 pm25 an25 cd25 ct25),sl25⟩) (c25:PySem.W.codeIn K cd25 "plan_depth" =true) (k25:PySem.W.keepIn K (.ref f25)=true)
  (a26:PySem.W.nsIn K mainGlobals "seen_of_all" =some (some (.ref f26))) (l26:K.lookup f26=some ⟨oc26,od26,.func (PySem.W.fnOf "seen_of_all" "seen_of_all" (zaq zbY) (zap zbY) (zag zbY) .none kV26 dc26 pm26 an26 cd26 ct26),sl26⟩) (c26:PySem.W.codeIn K cd26 "seen_of_all" =true) (k26:PySem.W.keepIn K (.ref f26)=true)
  (a27:PySem.W.nsIn K mainGlobals "next_number" =some (some (.ref f27))) (l27:K.lookup f27=some ⟨oc27,od27,.func (PySem.W.fnOf "next_number" "next_number" (zaq zbV) (zap zbV) (zag zbV) .none kV27 dc27 pm27 an27 cd27 ct27),sl27⟩) (c27:PySem.W.codeIn K cd27 "next_number" =true) (k27:PySem.W.keepIn K (.ref f27)=true)
  (a28:PySem.W.nsIn K mainGlobals "parts_at" =some (some (.ref f28))) (l28:K.lookup f28=some ⟨oc28,od28,.func (PySem.W.fnOf "parts_at" "parts_at" (zaq zcL) (zap zcL) (zag zcL) .none kV28 dc28 pm28 an28 cd28 ct28),sl28⟩) (c28:PySem.W.codeIn K cd28 "parts_at" =true) (k28:PySem.W.keepIn K (.ref f28)=true)
  (a29:PySem.W.nsIn K mainGlobals "depth_behind" =some (some (.ref f29))) (l29:K.lookup f29=some ⟨oc29,od29,.func (PySem.W.fnOf "depth_behind" "depth_behind" (zaq zbI) (zap zbI) (zag zbI) .none kV29 dc29 pm29 an29 cd29 ct29),sl29⟩) (c29:PySem.W.codeIn K cd29 "depth_behind" =true) (k29:PySem.W.keepIn K (.ref f29)=true)
  (a30:PySem.W.nsIn K mainGlobals "_law_cell_at" =some (some (.ref f30))) (l30:K.lookup f30=some ⟨oc30,od30,.func (PySem.W.fnOf "_law_cell_at" "_law_cell_at" (zaq zbB) (zap zbB) (zag zbB) .none kV30 dc30 pm30 an30 cd30 ct30),sl30⟩) (c30:PySem.W.codeIn K cd30 "_law_cell_at" =true) (k30:PySem.W.keepIn K (.ref f30)=true)
  (a31:PySem.W.nsIn K mainGlobals "_law_digits" =some (some (.ref f31))) (l31:K.lookup f31=some ⟨oc31,od31,.func (PySem.W.fnOf "_law_digits" "_law_digits" (zaq zbQ) (zap zbQ) (zag zbQ) .none kV31 dc31 pm31 an31 cd31 ct31),sl31⟩) (c31:PySem.W.codeIn K cd31 "_law_digits" =true) (k31:PySem.W.keepIn K (.ref f31)=true)
  (a32:PySem.W.nsIn K mainGlobals "_law_gate" =some (some (.ref f32))) (l32:K.lookup f32=some ⟨oc32,od32,.func (PySem.W.fnOf "_law_gate" "_law_gate" (zaq zct) (zap zct) (zag zct) .none kV32 dc32 pm32 an32 cd32 ct32),sl32⟩) (c32:PySem.W.codeIn K cd32 "_law_gate" =true) (k32:PySem.W.keepIn K (.ref f32)=true)
  (a33:PySem.W.nsIn K mainGlobals "_law_works_of" =some (some (.ref f33))) (l33:K.lookup f33=some ⟨oc33,od33,.func (PySem.W.fnOf "_law_works_of" "_law_works_of" (zaq zbf) (zap zbf) (zag zbf) .none kV33 dc33 pm33 an33 cd33 ct33),sl33⟩) (c33:PySem.W.codeIn K cd33 "_law_works_of" =true) (k33:PySem.W.keepIn K (.ref f33)=true)
  (a34:PySem.W.nsIn K mainGlobals "_law_worth" =some (some (.ref f34))) (l34:K.lookup f34=some ⟨oc34,od34,.func (PySem.W.fnOf "_law_worth" "_law_worth" (zaq zb8) (zap zb8) (zag zb8) .none kV34 dc34 pm34 an34 cd34 ct34),sl34⟩) (c34:PySem.W.codeIn K cd34 "_law_worth" =true) (k34:PySem.W.keepIn K (.ref f34)=true)
  (a35:PySem.W.nsIn K mainGlobals "_law_outs" =some (some (.ref f35))) (l35:K.lookup f35=some ⟨oc35,od35,.func (PySem.W.fnOf "_law_outs" "_law_outs" (zaq zcs) (zap zcs) (zag zcs) .none kV35 dc35 pm35 an35 cd35 ct35),sl35⟩) (c35:PySem.W.codeIn K cd35 "_law_outs" =true) (k35:PySem.W.keepIn K (.ref f35)=true)
  (a36:PySem.W.nsIn K mainGlobals "_law_faults" =some (some (.ref f36))) (l36:K.lookup f36=some ⟨oc36,od36,.func (PySem.W.fnOf "_law_faults" "_law_faults" (zaq zbP) (zap zbP) (zag zbP) .none kV36 dc36 pm36 an36 cd36 ct36),sl36⟩) (c36:PySem.W.codeIn K cd36 "_law_faults" =true) (k36:PySem.W.keepIn K (.ref f36)=true)
  (a37:PySem.W.nsIn K mainGlobals "_law_all_rows" =some (some (.ref f37))) (l37:K.lookup f37=some ⟨oc37,od37,.func (PySem.W.fnOf "_law_all_rows" "_law_all_rows" (zaq zbh) (zap zbh) (zag zbh) .none kV37 dc37 pm37 an37 cd37 ct37),sl37⟩) (c37:PySem.W.codeIn K cd37 "_law_all_rows" =true) (k37:PySem.W.keepIn K (.ref f37)=true)
  (a38:PySem.W.nsIn K mainGlobals "_law_answers" =some (some (.ref f38))) (l38:K.lookup f38=some ⟨oc38,od38,.func (PySem.W.fnOf "_law_answers" "_law_answers" (zaq zbx) (zap zbx) (zag zbx) .none kV38 dc38 pm38 an38 cd38 ct38),sl38⟩) (c38:PySem.W.codeIn K cd38 "_law_answers" =true) (k38:PySem.W.keepIn K (.ref f38)=true)
  (a39:PySem.W.nsIn K mainGlobals "_law_finding" =some (some (.ref f39))) (l39:K.lookup f39=some ⟨oc39,od39,.func (PySem.W.fnOf "_law_finding" "_law_finding" (zaq zbz) (zap zbz) (zag zbz) .none kV39 dc39 pm39 an39 cd39 ct39),sl39⟩) (c39:PySem.W.codeIn K cd39 "_law_finding" =true) (k39:PySem.W.keepIn K (.ref f39)=true)
  (a40:PySem.W.nsIn K mainGlobals "_law_open" =some (some (.ref f40))) (l40:K.lookup f40=some ⟨oc40,od40,.func (PySem.W.fnOf "_law_open" "_law_open" (zaq zcq) (zap zcq) (zag zcq) .none kV40 dc40 pm40 an40 cd40 ct40),sl40⟩) (c40:PySem.W.codeIn K cd40 "_law_open" =true) (k40:PySem.W.keepIn K (.ref f40)=true)
  (a41:PySem.W.nsIn K mainGlobals "_law_copy" =some (some (.ref f41))) (l41:K.lookup f41=some ⟨oc41,od41,.func (PySem.W.fnOf "_law_copy" "_law_copy" (zaq zcr) (zap zcr) (zag zcr) .none kV41 dc41 pm41 an41 cd41 ct41),sl41⟩) (c41:PySem.W.codeIn K cd41 "_law_copy" =true) (k41:PySem.W.keepIn K (.ref f41)=true)
  (a42:PySem.W.nsIn K mainGlobals "_law_refused" =some (some (.ref f42))) (l42:K.lookup f42=some ⟨oc42,od42,.func (PySem.W.fnOf "_law_refused" "_law_refused" (zaq zbw) (zap zbw) (zag zbw) .none kV42 dc42 pm42 an42 cd42 ct42),sl42⟩) (c42:PySem.W.codeIn K cd42 "_law_refused" =true) (k42:PySem.W.keepIn K (.ref f42)=true)
  (a43:PySem.W.nsIn K mainGlobals "_law_some" =some (some (.ref f43))) (l43:K.lookup f43=some ⟨oc43,od43,.func (PySem.W.fnOf "_law_some" "_law_some" (zaq zcn) (zap zcn) (zag zcn) .none kV43 dc43 pm43 an43 cd43 ct43),sl43⟩) (c43:PySem.W.codeIn K cd43 "_law_some" =true) (k43:PySem.W.keepIn K (.ref f43)=true)
  (a44:PySem.W.nsIn K mainGlobals "_law_found_by" =some (some (.ref f44))) (l44:K.lookup f44=some ⟨oc44,od44,.func (PySem.W.fnOf "_law_found_by" "_law_found_by" (zaq zbc) (zap zbc) (zag zbc) .none kV44 dc44 pm44 an44 cd44 ct44),sl44⟩) (c44:PySem.W.codeIn K cd44 "_law_found_by" =true) (k44:PySem.W.keepIn K (.ref f44)=true)
  (a45:PySem.W.nsIn K mainGlobals "_law_paper" =some (some (.ref f45))) (l45:K.lookup f45=some ⟨oc45,od45,.func (PySem.W.fnOf "_law_paper" "_law_paper" (zaq zb9) (zap zb9) (zag zb9) .none kV45 dc45 pm45 an45 cd45 ct45),sl45⟩) (c45:PySem.W.codeIn K cd45 "_law_paper" =true) (k45:PySem.W.keepIn K (.ref f45)=true)
  (a46:PySem.W.nsIn K mainGlobals "_law_walk" =some (some (.ref f46))) (l46:K.lookup f46=some ⟨oc46,od46,.func (PySem.W.fnOf "_law_walk" "_law_walk" (zaq zcp) (zap zcp) (zag zcp) .none kV46 dc46 pm46 an46 cd46 ct46),sl46⟩) (c46:PySem.W.codeIn K cd46 "_law_walk" =true) (k46:PySem.W.keepIn K (.ref f46)=true)
  (a47:PySem.W.nsIn K mainGlobals "law" =some (some (.ref f47))) (l47:K.lookup f47=some ⟨oc47,od47,.func (PySem.W.fnOf "law" "law" (zaq zfL) (zap zfL) (zag zfL) .none kV47 dc47 pm47 an47 cd47 ct47),sl47⟩) (c47:PySem.W.codeIn K cd47 "law" =true) (k47:PySem.W.keepIn K (.ref f47)=true)
  (z1:PySem.W.nsIn K mainGlobals "ValueError" =some none)
  (z2:PySem.W.nsIn K mainGlobals "all" =some none)
  (z3:PySem.W.nsIn K mainGlobals "any" =some none)
  (z4:PySem.W.nsIn K mainGlobals "bool" =some none)
  (z5:PySem.W.nsIn K mainGlobals "dict" =some none)
  (z6:PySem.W.nsIn K mainGlobals "enumerate" =some none)
  (z7:PySem.W.nsIn K mainGlobals "int" =some none)
  (z8:PySem.W.nsIn K mainGlobals "isinstance" =some none)
  (z9:PySem.W.nsIn K mainGlobals "len" =some none)
  (z10:PySem.W.nsIn K mainGlobals "list" =some none)
  (z11:PySem.W.nsIn K mainGlobals "max" =some none)
  (z12:PySem.W.nsIn K mainGlobals "min" =some none)
  (z13:PySem.W.nsIn K mainGlobals "range" =some none)
  (z14:PySem.W.nsIn K mainGlobals "sum" =some none)
  (z15:PySem.W.nsIn K mainGlobals "tuple" =some none)
  (z16:PySem.W.nsIn K mainGlobals "zip" =some none)
  {u1_:Addr} (au1:PySem.W.nsIn K mainGlobals "WELL" =some (some (.ref u1_))) (ku1:TupK K u1_ ["well"])
  {s1_:Tok} (as1:PySem.W.nsIn K mainGlobals "MOST_INPUTS" =some (some (.int 3 s1_)))
  {x1_:Addr} (ax1:PySem.W.nsIn K mainGlobals "StuckError" =some (some (.ref x1_))) (kx1:XcOk K x1_ "ValueError" "ValueError.__new__" [.type "ValueError",.type "Exception",.type "BaseException",.type "object"])
  {x2_:Addr} (ax2:PySem.W.nsIn K mainGlobals "NoWorks" =some (some (.ref x2_))) (kx2:XcOk K x2_ "ValueError" "ValueError.__new__" [.type "ValueError",.type "Exception",.type "BaseException",.type "object"])
  {x3_:Addr} (ax3:PySem.W.nsIn K mainGlobals "NoRow" =some (some (.ref x3_))) (kx3:XcOk K x3_ "ValueError" "ValueError.__new__" [.type "ValueError",.type "Exception",.type "BaseException",.type "object"])
  {x4_:Addr} (ax4:PySem.W.nsIn K mainGlobals "NoFault" =some (some (.ref x4_))) (kx4:XcOk K x4_ "ValueError" "ValueError.__new__" [.type "ValueError",.type "Exception",.type "BaseException",.type "object"])
  {x5_:Addr} (ax5:PySem.W.nsIn K mainGlobals "NoText" =some (some (.ref x5_))) (kx5:XcOk K x5_ "ValueError" "ValueError.__new__" [.type "ValueError",.type "Exception",.type "BaseException",.type "object"])
  {x6_:Addr} (ax6:PySem.W.nsIn K mainGlobals "NoOrder" =some (some (.ref x6_))) (kx6:XcOk K x6_ "ValueError" "ValueError.__new__" [.type "ValueError",.type "Exception",.type "BaseException",.type "object"])
  {x7_:Addr} (ax7:PySem.W.nsIn K mainGlobals "TooMany" =some (some (.ref x7_))) (kx7:XcOk K x7_ "ValueError" "ValueError.__new__" [.type "ValueError",.type "Exception",.type "BaseException",.type "object"])
  (ff1:PySem.W.kitAny K (.ref x7_) [.ref x4_,.ref x6_,.ref x3_,.ref x5_,.ref x2_]=some false)
  (ff2:PySem.W.kitOne K (.ref x7_) (.ref x1_)=some true)
  (ff3:PySem.W.kitOne K (.ref x7_) (.type "ValueError")=some true)
  (ff4:(zhI K x7_).contains (.ref x7_)=true)
  :∃ fd:FuncData,(∀ (s:Shared) (v:Value),BindsTo s fd ⟨[v],[]⟩ [("script",v)])∧∀ base:Heap,K.In base→base.Ns mainGlobals mg→FnOk l.prog w K mg base CX0 15 fa fd ["script"] (zhY K):=by
 have e:=hfa.symm.trans (PySem.W.mg_of X G a47)
 cases e
 have F1:=zaE (st:=zca) l1 c1 k1
 have b1:=F1.binds (ps:=["works"]) fun _ _ _ _ _ _ us hl=>by obtain ⟨x0,e⟩:=zdP hl;subst e;rfl
 have F2:=zaE (st:=zcc) l2 c2 k2
 have b2:=F2.binds (ps:=["works","row"]) fun _ _ _ _ _ _ us hl=>by obtain ⟨x0,x1,e⟩:=zde hl;subst e;rfl
 have F3:=zhq (st:=zbR) l3 c3 k3
 have b3:=F3.binds (ps:=["kind","worths","ones"]) (ds:=[]) fun _ _ _ _ _ _ s us X hl=>match us,hl with | [_,_,_],_=>PySem.W.binds_K X rfl v3 rfl rfl rfl
 have e3:=F3.binds (ps:=["kind","worths","ones"]) (ds:=[.int 1 kT3]) fun _ _ _ _ _ _ s us X hl=>match us,(show us.length=2 by rw [List.length_append] at hl;exact Nat.succ.inj hl) with | [_,_],_=>PySem.W.binds_K X rfl v3 rfl rfl rfl
 have F4:=zaE (st:=zbA) l4 c4 k4
 have b4:=F4.binds (ps:=["works"]) fun _ _ _ _ _ _ us hl=>by obtain ⟨x0,e⟩:=zdP hl;subst e;rfl
 have F5:=zhq (st:=zby) l5 c5 k5
 have b5:=F5.binds (ps:=["works","stuck","row","ones"]) (ds:=[]) fun _ _ _ _ _ _ s us X hl=>match us,hl with | [_,_,_,_],_=>PySem.W.binds_K X rfl v5 rfl rfl rfl
 have e5:=F5.binds (ps:=["works","stuck","row","ones"]) (ds:=[.int 1 kT5]) fun _ _ _ _ _ _ s us X hl=>match us,(show us.length=3 by rw [List.length_append] at hl;exact Nat.succ.inj hl) with | [_,_,_],_=>PySem.W.binds_K X rfl v5 rfl rfl rfl
 have F6:=zaE (st:=zbL) l6 c6 k6
 have b6:=F6.binds (ps:=["stuck","gate","worths"]) fun _ _ _ _ _ _ us hl=>by obtain ⟨x0,x1,x2,e⟩:=zin hl;subst e;rfl
 have F7:=zhq (st:=zbd) l7 c7 k7
 have b7:=F7.binds (ps:=["works","stuck","row","ones"]) (ds:=[]) fun _ _ _ _ _ _ s us X hl=>match us,hl with | [_,_,_,_],_=>PySem.W.binds_K X rfl v7 rfl rfl rfl
 have e7:=F7.binds (ps:=["works","stuck","row","ones"]) (ds:=[.int 1 kT7]) fun _ _ _ _ _ _ s us X hl=>match us,(show us.length=3 by rw [List.length_append] at hl;exact Nat.succ.inj hl) with | [_,_,_],_=>PySem.W.binds_K X rfl v7 rfl rfl rfl
 have F8:=zaE (st:=zbj) l8 c8 k8
 have b8:=F8.binds (ps:=["works","stuck"]) fun _ _ _ _ _ _ us hl=>by obtain ⟨x0,x1,e⟩:=zde hl;subst e;rfl
 have F9:=zaE (st:=zbe) l9 c9 k9
 have b9:=F9.binds (ps:=["inputs"]) fun _ _ _ _ _ _ us hl=>by obtain ⟨x0,e⟩:=zdP hl;subst e;rfl
 have F10:=zaE (st:=zcf) l10 c10 k10
 have b10:=F10.binds (ps:=["seen","number"]) fun _ _ _ _ _ _ us hl=>by obtain ⟨x0,x1,e⟩:=zde hl;subst e;rfl
 have F11:=zaE (st:=zbg) l11 c11 k11
 have b11:=F11.binds (ps:=["works"]) fun _ _ _ _ _ _ us hl=>by obtain ⟨x0,e⟩:=zdP hl;subst e;rfl
 have F12:=zaE (st:=zaR) l12 c12 k12
 have b12:=F12.binds (ps:=["seen","others"]) fun _ _ _ _ _ _ us hl=>by obtain ⟨x0,x1,e⟩:=zde hl;subst e;rfl
 have F13:=zaE (st:=zbb) l13 c13 k13
 have b13:=F13.binds (ps:=["works"]) fun _ _ _ _ _ _ us hl=>by obtain ⟨x0,e⟩:=zdP hl;subst e;rfl
 have F14:=zaE (st:=zcb) l14 c14 k14
 have b14:=F14.binds (ps:=["works","rows"]) fun _ _ _ _ _ _ us hl=>by obtain ⟨x0,x1,e⟩:=zde hl;subst e;rfl
 have F15:=zaE (st:=zbC) l15 c15 k15
 have b15:=F15.binds (ps:=["works"]) fun _ _ _ _ _ _ us hl=>by obtain ⟨x0,e⟩:=zdP hl;subst e;rfl
 have F16:=zaE (st:=zbS) l16 c16 k16
 have b16:=F16.binds (ps:=["works"]) fun _ _ _ _ _ _ us hl=>by obtain ⟨x0,e⟩:=zdP hl;subst e;rfl
 have F17:=zaE (st:=zbN) l17 c17 k17
 have b17:=F17.binds (ps:=["works","k","paper"]) fun _ _ _ _ _ _ us hl=>by obtain ⟨x0,x1,x2,e⟩:=zin hl;subst e;rfl
 have F18:=zaE (st:=zba) l18 c18 k18
 have b18:=F18.binds (ps:=["works"]) fun _ _ _ _ _ _ us hl=>by obtain ⟨x0,e⟩:=zdP hl;subst e;rfl
 have F19:=zaE (st:=zbO) l19 c19 k19
 have b19:=F19.binds (ps:=["taken","finding"]) fun _ _ _ _ _ _ us hl=>by obtain ⟨x0,x1,e⟩:=zde hl;subst e;rfl
 have F20:=zaE (st:=zfz) l20 c20 k20
 have b20:=F20.binds (ps:=["numbers","others"]) fun _ _ _ _ _ _ us hl=>by obtain ⟨x0,x1,e⟩:=zde hl;subst e;rfl
 have F21:=zaE (st:=za6) l21 c21 k21
 have b21:=F21.binds (ps:=["count","finding"]) fun _ _ _ _ _ _ us hl=>by obtain ⟨x0,x1,e⟩:=zde hl;subst e;rfl
 have F22:=zaE (st:=za7) l22 c22 k22
 have b22:=F22.binds (ps:=["choices","count"]) fun _ _ _ _ _ _ us hl=>by obtain ⟨x0,x1,e⟩:=zde hl;subst e;rfl
 have F23:=zaE (st:=zbX) l23 c23 k23
 have b23:=F23.binds (ps:=["finding","taken","k"]) fun _ _ _ _ _ _ us hl=>by obtain ⟨x0,x1,x2,e⟩:=zin hl;subst e;rfl
 have F24:=zaE (st:=zaS) l24 c24 k24
 have b24:=F24.binds (ps:=["finding","taken","k","paper"]) fun _ _ _ _ _ _ us hl=>by obtain ⟨x0,x1,x2,x3,e⟩:=lenV4 hl;subst e;rfl
 have F25:=zaE (st:=zbK) l25 c25 k25
 have b25:=F25.binds (ps:=["works"]) fun _ _ _ _ _ _ us hl=>by obtain ⟨x0,e⟩:=zdP hl;subst e;rfl
 have F26:=zaE (st:=zbY) l26 c26 k26
 have b26:=F26.binds (ps:=["works"]) fun _ _ _ _ _ _ us hl=>by obtain ⟨x0,e⟩:=zdP hl;subst e;rfl
 have F27:=zaE (st:=zbV) l27 c27 k27
 have b27:=F27.binds (ps:=["left","count"]) fun _ _ _ _ _ _ us hl=>by obtain ⟨x0,x1,e⟩:=zde hl;subst e;rfl
 have F28:=zaE (st:=zcL) l28 c28 k28
 have b28:=F28.binds (ps:=["left","number"]) fun _ _ _ _ _ _ us hl=>by obtain ⟨x0,x1,e⟩:=zde hl;subst e;rfl
 have F29:=zaE (st:=zbI) l29 c29 k29
 have b29:=F29.binds (ps:=["left","count"]) fun _ _ _ _ _ _ us hl=>by obtain ⟨x0,x1,e⟩:=zde hl;subst e;rfl
 have F30:=zaE (st:=zbB) l30 c30 k30
 have b30:=F30.binds (ps:=["script","k"]) fun _ _ _ _ _ _ us hl=>by obtain ⟨x0,x1,e⟩:=zde hl;subst e;rfl
 have F31:=zaE (st:=zbQ) l31 c31 k31
 have b31:=F31.binds (ps:=["cell","many","top"]) fun _ _ _ _ _ _ us hl=>by obtain ⟨x0,x1,x2,e⟩:=zin hl;subst e;rfl
 have F32:=zaE (st:=zct) l32 c32 k32
 have b32:=F32.binds (ps:=["cell","wires"]) fun _ _ _ _ _ _ us hl=>by obtain ⟨x0,x1,e⟩:=zde hl;subst e;rfl
 have F33:=zaE (st:=zbf) l33 c33 k33
 have b33:=F33.binds (ps:=["script","inputs","most"]) fun _ _ _ _ _ _ us hl=>by obtain ⟨x0,x1,x2,e⟩:=zin hl;subst e;rfl
 have F34:=zaE (st:=zb8) l34 c34 k34
 have b34:=F34.binds (ps:=["kind","legs"]) fun _ _ _ _ _ _ us hl=>by obtain ⟨x0,x1,e⟩:=zde hl;subst e;rfl
 have F35:=zaE (st:=zcs) l35 c35 k35
 have b35:=F35.binds (ps:=["works","fault","row"]) fun _ _ _ _ _ _ us hl=>by obtain ⟨x0,x1,x2,e⟩:=zin hl;subst e;rfl
 have F36:=zaE (st:=zbP) l36 c36 k36
 have b36:=F36.binds (ps:=["works"]) fun _ _ _ _ _ _ us hl=>by obtain ⟨x0,e⟩:=zdP hl;subst e;rfl
 have F37:=zaE (st:=zbh) l37 c37 k37
 have b37:=F37.binds (ps:=["inputs"]) fun _ _ _ _ _ _ us hl=>by obtain ⟨x0,e⟩:=zdP hl;subst e;rfl
 have F38:=zaE (st:=zbx) l38 c38 k38
 have b38:=F38.binds (ps:=["works"]) fun _ _ _ _ _ _ us hl=>by obtain ⟨x0,e⟩:=zdP hl;subst e;rfl
 have F39:=zaE (st:=zbz) l39 c39 k39
 have b39:=F39.binds (ps:=["works"]) fun _ _ _ _ _ _ us hl=>by obtain ⟨x0,e⟩:=zdP hl;subst e;rfl
 have F40:=zaE (st:=zcq) l40 c40 k40
 have b40:=F40.binds (ps:=["finding","taken"]) fun _ _ _ _ _ _ us hl=>by obtain ⟨x0,x1,e⟩:=zde hl;subst e;rfl
 have F41:=zaE (st:=zcr) l41 c41 k41
 have b41:=F41.binds (ps:=["works"]) fun _ _ _ _ _ _ us hl=>by obtain ⟨x0,e⟩:=zdP hl;subst e;rfl
 have F42:=zaE (st:=zbw) l42 c42 k42
 have b42:=F42.binds (ps:=["which","works"]) fun _ _ _ _ _ _ us hl=>by obtain ⟨x0,x1,e⟩:=zde hl;subst e;rfl
 have F43:=zaE (st:=zcn) l43 c43 k43
 have b43:=F43.binds (ps:=["number","many"]) fun _ _ _ _ _ _ us hl=>by obtain ⟨x0,x1,e⟩:=zde hl;subst e;rfl
 have F44:=zaE (st:=zbc) l44 c44 k44
 have b44:=F44.binds (ps:=["finding","some"]) fun _ _ _ _ _ _ us hl=>by obtain ⟨x0,x1,e⟩:=zde hl;subst e;rfl
 have F45:=zaE (st:=zb9) l45 c45 k45
 have b45:=F45.binds (ps:=["finding","xs"]) fun _ _ _ _ _ _ us hl=>by obtain ⟨x0,x1,e⟩:=zde hl;subst e;rfl
 have F46:=zaE (st:=zcp) l46 c46 k46
 have b46:=F46.binds (ps:=["finding","taken","k","paper"]) fun _ _ _ _ _ _ us hl=>by obtain ⟨x0,x1,x2,x3,e⟩:=lenV4 hl;subst e;rfl
 have F47:=zaE (st:=zfL) l47 c47 k47
 have b47:=F47.binds (ps:=["script"]) fun _ _ _ _ _ _ us hl=>by obtain ⟨x0,e⟩:=zdP hl;subst e;rfl
 refine ⟨PySem.W.fnOf "law" "law" (zaq zfL) (zap zfL) (zag zfL) .none kV47 dc47 pm47 an47 cd47 ct47,fun s v=>.of_eq rfl,fun base _ _=>?_⟩
 exact ok_law (t:=⟨f1,_,f2,_,f3,_,T3,kT3,f4,_,f5,_,T5,kT5,f6,_,f7,_,T7,kT7,f8,_,f9,_,f10,_,f11,_,f12,_,f13,_,f14,_,f15,_,f16,_,f17,_,f18,_,f19,_,f20,_,f21,_,f22,_,f23,_,f24,_,f25,_,f26,_,f27,_,f28,_,f29,_,f30,_,f31,_,f32,_,f33,_,f34,_,f35,_,f36,_,f37,_,f38,_,f39,_,f40,_,f41,_,f42,_,f43,_,f44,_,f45,_,f46,_,_,_,u1_,s1_,x1_,x2_,x3_,x4_,x5_,x6_,x7_⟩) ⟨⟨F1,b1,PySem.W.mg_of X G a1⟩,⟨F2,b2,PySem.W.mg_of X G a2⟩,⟨F3,b3,e3,PySem.W.mg_of X G a3⟩,⟨F4,b4,PySem.W.mg_of X G a4⟩,⟨F5,b5,e5,PySem.W.mg_of X G a5⟩,⟨F6,b6,PySem.W.mg_of X G a6⟩,⟨F7,b7,e7,PySem.W.mg_of X G a7⟩,⟨F8,b8,PySem.W.mg_of X G a8⟩,⟨F9,b9,PySem.W.mg_of X G a9⟩,⟨F10,b10,PySem.W.mg_of X G a10⟩,⟨F11,b11,PySem.W.mg_of X G a11⟩,⟨F12,b12,PySem.W.mg_of X G a12⟩,⟨F13,b13,PySem.W.mg_of X G a13⟩,⟨F14,b14,PySem.W.mg_of X G a14⟩,⟨F15,b15,PySem.W.mg_of X G a15⟩,⟨F16,b16,PySem.W.mg_of X G a16⟩,⟨F17,b17,PySem.W.mg_of X G a17⟩,⟨F18,b18,PySem.W.mg_of X G a18⟩,⟨F19,b19,PySem.W.mg_of X G a19⟩,⟨F20,b20,PySem.W.mg_of X G a20⟩,⟨F21,b21,PySem.W.mg_of X G a21⟩,⟨F22,b22,PySem.W.mg_of X G a22⟩,⟨F23,b23,PySem.W.mg_of X G a23⟩,⟨F24,b24,PySem.W.mg_of X G a24⟩,⟨F25,b25,PySem.W.mg_of X G a25⟩,⟨F26,b26,PySem.W.mg_of X G a26⟩,⟨F27,b27,PySem.W.mg_of X G a27⟩,⟨F28,b28,PySem.W.mg_of X G a28⟩,⟨F29,b29,PySem.W.mg_of X G a29⟩,⟨F30,b30,PySem.W.mg_of X G a30⟩,⟨F31,b31,PySem.W.mg_of X G a31⟩,⟨F32,b32,PySem.W.mg_of X G a32⟩,⟨F33,b33,PySem.W.mg_of X G a33⟩,⟨F34,b34,PySem.W.mg_of X G a34⟩,⟨F35,b35,PySem.W.mg_of X G a35⟩,⟨F36,b36,PySem.W.mg_of X G a36⟩,⟨F37,b37,PySem.W.mg_of X G a37⟩,⟨F38,b38,PySem.W.mg_of X G a38⟩,⟨F39,b39,PySem.W.mg_of X G a39⟩,⟨F40,b40,PySem.W.mg_of X G a40⟩,⟨F41,b41,PySem.W.mg_of X G a41⟩,⟨F42,b42,PySem.W.mg_of X G a42⟩,⟨F43,b43,PySem.W.mg_of X G a43⟩,⟨F44,b44,PySem.W.mg_of X G a44⟩,⟨F45,b45,PySem.W.mg_of X G a45⟩,⟨F46,b46,PySem.W.mg_of X G a46⟩,⟨F47,b47,PySem.W.mg_of X G a47⟩,PySem.W.mg_none_of X G z1,PySem.W.mg_none_of X G z2,PySem.W.mg_none_of X G z3,PySem.W.mg_none_of X G z4,PySem.W.mg_none_of X G z5,PySem.W.mg_none_of X G z6,PySem.W.mg_none_of X G z7,PySem.W.mg_none_of X G z8,PySem.W.mg_none_of X G z9,PySem.W.mg_none_of X G z10,PySem.W.mg_none_of X G z11,PySem.W.mg_none_of X G z12,PySem.W.mg_none_of X G z13,PySem.W.mg_none_of X G z14,PySem.W.mg_none_of X G z15,PySem.W.mg_none_of X G z16,PySem.W.mg_of X G au1,ku1,PySem.W.mg_of X G as1,PySem.W.mg_of X G ax1,kx1,PySem.W.mg_of X G ax2,kx2,PySem.W.mg_of X G ax3,kx3,PySem.W.mg_of X G ax4,kx4,PySem.W.mg_of X G ax5,kx5,PySem.W.mg_of X G ax6,kx6,PySem.W.mg_of X G ax7,kx7,ff1,ff2,ff3,ff4⟩
theorem walk {l:PySem.W.OpenLaw}{q:Program}{loose:List Str}{XP:(Str→Option Value)→Heap→Prop}{YP:World→Heap→Prop}{d:DefRec}{K:Params→PySem.W.Frag}(hn:l.most=some 63)(hdf:d.params.defaults= [])
  (hY:∀ (w:World) (h:Heap),YP w h→(K w.params).In h)
  (F:∀ (w:World) (mg:Str→Option Value) (fa:Addr) (h:Heap),(K w.params).In h→h.Ns mainGlobals mg→mg d.name=some (.ref fa)→
   ∃ fd:FuncData,(∀ (s:Shared) (u:Value),BindsTo s fd ⟨[u],[]⟩ [("script",u)])∧∀ base:Heap,(K w.params).In base→base.Ns mainGlobals mg→FnOk l.prog w (K w.params) mg base CX0 15 fa fd ["script"] (zhY (K w.params))):
  PySem.W.WalkO q loose XP YP l.row.toRowW d [] (fun f vs=>PySem.call f vs):=
 L2.zlS (n:=63) (k:=15) (x:="script") (CX:=fun _=>CX0) (sp:=fun w=>zhY (K w.params)) hn (by decide) hdf ⟨rfl,by decide,by decide,rfl⟩ hY F (fun _ _ a ns hl _ hS=>⟨a,ns,rfl,hS,hl,fun _=>rfl⟩) fun _ _ _ _ _ z=>z
end My
open PySem PySem.W PyProof.Rows
set_option maxRecDepth 100000 in
set_option maxHeartbeats 0 in
theorem PySem.Challenge.cw_stuckwires_k37_more_inputs_than_three_holds : PySem.Challenge.rw_stuckwires_k37_more_inputs_than_three.Holds := by
 w_on;o_law
 refine PySem.W.holds_open (q:=My.view) (loose:=["gate_worth","worths_with","outputs_with"])
  (Xt:=fun s=>xlAt My.view [] s && recOk (RowW.records (OpenRow.toRowW PySem.Challenge.rw_stuckwires_k37_more_inputs_than_three.row)) s) (XP:=XL My.view [])
  (Yf:=Hook.obs (kHook My.part My.ze9 (fun _=>by kernel_rfl))) (Ya:=Hook.val (kHook My.part My.ze9 (fun _=>by kernel_rfl)))
  (YP:=Hook.says (kHook My.part My.ze9 (fun _=>by kernel_rfl))) (N:=5940) ?hl (Hook.of _) (Hook.keeps _)
  (fun s e=>xl_of s (Bool.and_eq_true_iff.mp e).1) XL.keeps (by rfl) (by rfl) (by rfl)
  (fun s e=>recFacts_of (Bool.and_eq_true_iff.mp e).2) (by rfl) (by first | assumption | decide+kernel) (by decide+kernel)
  ⟨rfl,rfl,rfl,rfl,rfl,by decide+kernel⟩ ?hw ?hc
 case hl=>exact My.hl0
 case hw=>w_witness2
 k_fill
 refine My.walk (l:=PySem.Challenge.rw_stuckwires_k37_more_inputs_than_three) rfl rfl (fun w h Y=>PySem.W.kIn_of Y) ?F
 case F=>
  intro w mg fa h KX G hmg
  refine' My.all_mk KX G hmg ?a1 ?l1 ?c1 ?k1 ?a2 ?l2 ?c2 ?k2 ?a3 ?l3 ?c3 ?k3 ?v3 ?a4 ?l4 ?c4 ?k4 ?a5 ?l5 ?c5 ?k5 ?v5 ?a6 ?l6 ?c6 ?k6 ?a7 ?l7 ?c7 ?k7 ?v7 ?a8 ?l8 ?c8 ?k8 ?a9 ?l9 ?c9 ?k9 ?a10 ?l10 ?c10 ?k10 ?a11 ?l11 ?c11 ?k11 ?a12 ?l12 ?c12 ?k12 ?a13 ?l13 ?c13 ?k13 ?a14 ?l14 ?c14 ?k14 ?a15 ?l15 ?c15 ?k15 ?a16 ?l16 ?c16 ?k16 ?a17 ?l17 ?c17 ?k17 ?a18 ?l18 ?c18 ?k18 ?a19 ?l19 ?c19 ?k19 ?a20 ?l20 ?c20 ?k20 ?a21 ?l21 ?c21 ?k21 ?a22 ?l22 ?c22 ?k22 ?a23 ?l23 ?c23 ?k23 ?a24 ?l24 ?c24 ?k24 ?a25 ?l25 ?c25 ?k25 ?a26 ?l26 ?c26 ?k26 ?a27 ?l27 ?c27 ?k27 ?a28 ?l28 ?c28 ?k28 ?a29 ?l29 ?c29 ?k29 ?a30 ?l30 ?c30 ?k30 ?a31 ?l31 ?c31 ?k31 ?a32 ?l32 ?c32 ?k32 ?a33 ?l33 ?c33 ?k33 ?a34 ?l34 ?c34 ?k34 ?a35 ?l35 ?c35 ?k35 ?a36 ?l36 ?c36 ?k36 ?a37 ?l37 ?c37 ?k37 ?a38 ?l38 ?c38 ?k38 ?a39 ?l39 ?c39 ?k39 ?a40 ?l40 ?c40 ?k40 ?a41 ?l41 ?c41 ?k41 ?a42 ?l42 ?c42 ?k42 ?a43 ?l43 ?c43 ?k43 ?a44 ?l44 ?c44 ?k44 ?a45 ?l45 ?c45 ?k45 ?a46 ?l46 ?c46 ?k46 ?a47 ?l47 ?c47 ?k47 ?z1 ?z2 ?z3 ?z4 ?z5 ?z6 ?z7 ?z8 ?z9 ?z10 ?z11 ?z12 ?z13 ?z14 ?z15 ?z16 ?au1 ?ku1 ?as1 ?ax1 ?kx1 ?ax2 ?kx2 ?ax3 ?kx3 ?ax4 ?kx4 ?ax5 ?kx5 ?ax6 ?kx6 ?ax7 ?kx7 ?ff1 ?ff2 ?ff3 ?ff4
  (case a1=>k_is)
  (case l1=>k_is)
  (case c1=>k_is)
  (case k1=>k_is)
  (case a2=>k_is)
  (case l2=>k_is)
  (case c2=>k_is)
  (case k2=>k_is)
  (case a3=>k_is)
  (case l3=>k_is)
  (case c3=>k_is)
  (case k3=>k_is)
  (case v3=>k_is)
  (case a4=>k_is)
  (case l4=>k_is)
  (case c4=>k_is)
  (case k4=>k_is)
  (case a5=>k_is)
  (case l5=>k_is)
  (case c5=>k_is)
  (case k5=>k_is)
  (case v5=>k_is)
  (case a6=>k_is)
  (case l6=>k_is)
  (case c6=>k_is)
  (case k6=>k_is)
  (case a7=>k_is)
  (case l7=>k_is)
  (case c7=>k_is)
  (case k7=>k_is)
  (case v7=>k_is)
  (case a8=>k_is)
  (case l8=>k_is)
  (case c8=>k_is)
  (case k8=>k_is)
  (case a9=>k_is)
  (case l9=>k_is)
  (case c9=>k_is)
  (case k9=>k_is)
  (case a10=>k_is)
  (case l10=>k_is)
  (case c10=>k_is)
  (case k10=>k_is)
  (case a11=>k_is)
  (case l11=>k_is)
  (case c11=>k_is)
  (case k11=>k_is)
  (case a12=>k_is)
  (case l12=>k_is)
  (case c12=>k_is)
  (case k12=>k_is)
  (case a13=>k_is)
  (case l13=>k_is)
  (case c13=>k_is)
  (case k13=>k_is)
  (case a14=>k_is)
  (case l14=>k_is)
  (case c14=>k_is)
  (case k14=>k_is)
  (case a15=>k_is)
  (case l15=>k_is)
  (case c15=>k_is)
  (case k15=>k_is)
  (case a16=>k_is)
  (case l16=>k_is)
  (case c16=>k_is)
  (case k16=>k_is)
  (case a17=>k_is)
  (case l17=>k_is)
  (case c17=>k_is)
  (case k17=>k_is)
  (case a18=>k_is)
  (case l18=>k_is)
  (case c18=>k_is)
  (case k18=>k_is)
  (case a19=>k_is)
  (case l19=>k_is)
  (case c19=>k_is)
  (case k19=>k_is)
  (case a20=>k_is)
  (case l20=>k_is)
  (case c20=>k_is)
  (case k20=>k_is)
  (case a21=>k_is)
  (case l21=>k_is)
  (case c21=>k_is)
  (case k21=>k_is)
  (case a22=>k_is)
  (case l22=>k_is)
  (case c22=>k_is)
  (case k22=>k_is)
  (case a23=>k_is)
  (case l23=>k_is)
  (case c23=>k_is)
  (case k23=>k_is)
  (case a24=>k_is)
  (case l24=>k_is)
  (case c24=>k_is)
  (case k24=>k_is)
  (case a25=>k_is)
  (case l25=>k_is)
  (case c25=>k_is)
  (case k25=>k_is)
  (case a26=>k_is)
  (case l26=>k_is)
  (case c26=>k_is)
  (case k26=>k_is)
  (case a27=>k_is)
  (case l27=>k_is)
  (case c27=>k_is)
  (case k27=>k_is)
  (case a28=>k_is)
  (case l28=>k_is)
  (case c28=>k_is)
  (case k28=>k_is)
  (case a29=>k_is)
  (case l29=>k_is)
  (case c29=>k_is)
  (case k29=>k_is)
  (case a30=>k_is)
  (case l30=>k_is)
  (case c30=>k_is)
  (case k30=>k_is)
  (case a31=>k_is)
  (case l31=>k_is)
  (case c31=>k_is)
  (case k31=>k_is)
  (case a32=>k_is)
  (case l32=>k_is)
  (case c32=>k_is)
  (case k32=>k_is)
  (case a33=>k_is)
  (case l33=>k_is)
  (case c33=>k_is)
  (case k33=>k_is)
  (case a34=>k_is)
  (case l34=>k_is)
  (case c34=>k_is)
  (case k34=>k_is)
  (case a35=>k_is)
  (case l35=>k_is)
  (case c35=>k_is)
  (case k35=>k_is)
  (case a36=>k_is)
  (case l36=>k_is)
  (case c36=>k_is)
  (case k36=>k_is)
  (case a37=>k_is)
  (case l37=>k_is)
  (case c37=>k_is)
  (case k37=>k_is)
  (case a38=>k_is)
  (case l38=>k_is)
  (case c38=>k_is)
  (case k38=>k_is)
  (case a39=>k_is)
  (case l39=>k_is)
  (case c39=>k_is)
  (case k39=>k_is)
  (case a40=>k_is)
  (case l40=>k_is)
  (case c40=>k_is)
  (case k40=>k_is)
  (case a41=>k_is)
  (case l41=>k_is)
  (case c41=>k_is)
  (case k41=>k_is)
  (case a42=>k_is)
  (case l42=>k_is)
  (case c42=>k_is)
  (case k42=>k_is)
  (case a43=>k_is)
  (case l43=>k_is)
  (case c43=>k_is)
  (case k43=>k_is)
  (case a44=>k_is)
  (case l44=>k_is)
  (case c44=>k_is)
  (case k44=>k_is)
  (case a45=>k_is)
  (case l45=>k_is)
  (case c45=>k_is)
  (case k45=>k_is)
  (case a46=>k_is)
  (case l46=>k_is)
  (case c46=>k_is)
  (case k46=>k_is)
  (case a47=>k_is)
  (case l47=>k_is)
  (case c47=>k_is)
  (case k47=>k_is)
  (case z1=>k_is)
  (case z2=>k_is)
  (case z3=>k_is)
  (case z4=>k_is)
  (case z5=>k_is)
  (case z6=>k_is)
  (case z7=>k_is)
  (case z8=>k_is)
  (case z9=>k_is)
  (case z10=>k_is)
  (case z11=>k_is)
  (case z12=>k_is)
  (case z13=>k_is)
  (case z14=>k_is)
  (case z15=>k_is)
  (case z16=>k_is)
  (case au1=>k_is)
  (case ku1=>(unfold L2.TupK;kernel_rfl))
  (case as1=>k_is)
  (case ax1=>k_is)
  (case kx1=>exact ⟨by kernel_rfl,PySem.F.attr_ValueError,by kernel_rfl,by kernel_rfl,by kernel_rfl,by decide,by decide⟩)
  (case ax2=>k_is)
  (case kx2=>exact ⟨by kernel_rfl,PySem.F.attr_ValueError,by kernel_rfl,by kernel_rfl,by kernel_rfl,by decide,by decide⟩)
  (case ax3=>k_is)
  (case kx3=>exact ⟨by kernel_rfl,PySem.F.attr_ValueError,by kernel_rfl,by kernel_rfl,by kernel_rfl,by decide,by decide⟩)
  (case ax4=>k_is)
  (case kx4=>exact ⟨by kernel_rfl,PySem.F.attr_ValueError,by kernel_rfl,by kernel_rfl,by kernel_rfl,by decide,by decide⟩)
  (case ax5=>k_is)
  (case kx5=>exact ⟨by kernel_rfl,PySem.F.attr_ValueError,by kernel_rfl,by kernel_rfl,by kernel_rfl,by decide,by decide⟩)
  (case ax6=>k_is)
  (case kx6=>exact ⟨by kernel_rfl,PySem.F.attr_ValueError,by kernel_rfl,by kernel_rfl,by kernel_rfl,by decide,by decide⟩)
  (case ax7=>k_is)
  (case kx7=>exact ⟨by kernel_rfl,PySem.F.attr_ValueError,by kernel_rfl,by kernel_rfl,by kernel_rfl,by decide,by decide⟩)
  (case ff1=>kernel_rfl)
  (case ff2=>kernel_rfl)
  (case ff3=>kernel_rfl)
  (case ff4=>kernel_rfl)
