import PyProof.Rows.All
import Wide.All
import OpenK.AllK
import Wide.FinOn
import Lean
import PyProof.EqAt
import PyProof.EqKinds
import PyProof.TupleCall
import PySem.Challenge.RW_stuckwires_k26_whole_works_side_by_side
set_option Elab.async false
set_option linter.all false
set_option maxRecDepth 100000
set_option genSizeOf false
local macro_rules | `(tactic| omega)=>`(tactic| lia)
namespace L2
open PySem
noncomputable def zaw (s:Stmt):Arguments:=match s with
 | .FunctionDef _ a _ _ _ _ _ _ _ _=>a
 | _=>{posonlyargs:=[],args:=[],vararg:=none,kwonlyargs:=[],kw_defaults:=[],kwarg:=none,defaults:=[]}
noncomputable def zau (s:Stmt):List Stmt:=match s with
 | .FunctionDef _ _ b _ _ _ _ _ _ _=>b
 | _=>[]
noncomputable def zah (s:Stmt):Scope:=match s with
 | .FunctionDef _ _ _ _ _ _ sc _ _ _=>sc
 | _=>{kind:=.function,names:=[],isGenerator:=false,isCoroutine:=false}
end L2
namespace My
open PySem L2
noncomputable def top (i:Nat):Stmt:=PySem.Challenge.pw_stuckwires_k26_whole_works_side_by_side.main.body.getD i (.Pass ⟨0,0,0,0⟩)
noncomputable abbrev zco:Stmt:=top 4
noncomputable abbrev zb5:Stmt:=top 5
noncomputable abbrev zbU:Stmt:=top 7
noncomputable abbrev zbz:Stmt:=top 8
noncomputable abbrev zbP:Stmt:=top 9
noncomputable abbrev zcc:Stmt:=top 10
noncomputable abbrev zbB:Stmt:=top 11
noncomputable abbrev zbO:Stmt:=top 14
noncomputable abbrev zbK:Stmt:=top 15
noncomputable abbrev zcl:Stmt:=top 16
noncomputable abbrev zca:Stmt:=top 17
noncomputable abbrev zb8:Stmt:=top 18
noncomputable abbrev zby:Stmt:=top 19
noncomputable abbrev zbS:Stmt:=top 20
noncomputable abbrev zbi:Stmt:=top 21
noncomputable abbrev zcg:Stmt:=top 22
noncomputable abbrev zbA:Stmt:=top 24
noncomputable abbrev zbv:Stmt:=top 25
noncomputable abbrev zbC:Stmt:=top 26
noncomputable abbrev za7:Stmt:=top 27
noncomputable abbrev zb7:Stmt:=top 29
noncomputable abbrev zcn:Stmt:=top 30
noncomputable abbrev zbu:Stmt:=top 31
noncomputable abbrev zcm:Stmt:=top 33
noncomputable abbrev zbQ:Stmt:=top 35
noncomputable abbrev zbT:Stmt:=top 36
noncomputable abbrev zcF:Stmt:=top 37
noncomputable abbrev zcj:Stmt:=top 38
noncomputable abbrev zcp:Stmt:=top 39
noncomputable abbrev zb6:Stmt:=top 40
noncomputable abbrev zck:Stmt:=top 41
noncomputable abbrev zbR:Stmt:=top 42
noncomputable abbrev zcH:Stmt:=top 43
noncomputable abbrev zaY:Stmt:=top 44
noncomputable abbrev za0:Stmt:=top 45
noncomputable abbrev zci:Stmt:=top 46
noncomputable abbrev za6:Stmt:=top 47
noncomputable abbrev zbx:Stmt:=top 48
noncomputable abbrev zch:Stmt:=top 49
noncomputable abbrev zcZ:Stmt:=top 50
noncomputable abbrev zg0:Stmt:=top 51
end My
namespace My
open PySem PySem.W
noncomputable abbrev dE (P:Params) (x:Str) (n:Nat) (v:Value):DictEntry:=.mk (PyData.keyHash P x) (.str x n) v
noncomputable abbrev tO (vs:Array Value):Obj:=.mk (.type "tuple") none (.seq vs) #[]
noncomputable abbrev fO (x:Str) (s:Stmt) (dV kV doc pm:Value) (an:Option Addr) (cd ct:Value):Obj:=.mk (.type "function") none (.func (PySem.W.fnOf x x (L2.zaw s) (L2.zau s) (L2.zah s) dV kV doc pm an cd ct)) #[]
noncomputable def part:Params→Frag:=fun P=>
 (nat_lit 2,PySem.Obj.mk .none none (PySem.Data.dict #[]) #[])::
 (nat_lit 3,PySem.Obj.mk (.type "dict") none (PySem.Data.dict #[dE P "__name__" 165 (.str "law_stuckwires_k26_whole_works_side_by_side" 417),dE P "__doc__" 166 .none,dE P "__package__" 167 .none,dE P "__loader__" 168 (.builtin "__main__.__loader__#opaque"),dE P "__spec__" 169 .none,dE P "__annotations__" 170 (.ref 6),dE P "__builtins__" 171 (.ref 4),dE P "__file__" 173 (.str "/claim/cut.py" 172),dE P "__cached__" 174 .none,dE P "StuckError" 206 (.ref 24),dE P "NoFault" 222 (.ref 37),dE P "every_row" 230 (.ref 44),dE P "gate_worth" 242 (.ref 52),dE P "every_fault" 250 (.ref 57),dE P "stuck_places" 262 (.ref 64),dE P "worths_with" 269 (.ref 70),dE P "leg_worths" 275 (.ref 75),dE P "outputs_with" 282 (.ref 81),dE P "FOLDED_KINDS" 288 (.ref 82),dE P "every_pairs" 294 (.ref 87),dE P "input_pairs" 301 (.ref 94),dE P "leg_pairs" 307 (.ref 99),dE P "with_stuck" 313 (.ref 104),dE P "gate_pairs" 319 (.ref 109),dE P "every_choice" 325 (.ref 114),dE P "chosen_pair" 331 (.ref 119),dE P "outputs_alike" 337 (.ref 124),dE P "are_alike" 343 (.ref 129),dE P "outputs_seen" 351 (.ref 134),dE P "rows_at_once" 357 (.ref 139),dE P "first_unlike" 367 (.ref 146),dE P "unlike_numbers" 373 (.ref 151),dE P "first_test" 383 (.ref 158),dE P "test_told" 393 (.ref 165),dE P "paper_behind" 405 (.ref 172),dE P "parted_at" 416 (.ref 179),dE P "_law_cell_at" 426 (.ref 186),dE P "_law_numbers" 439 (.ref 193),dE P "_law_gate" 454 (.ref 200),dE P "_law_works" 460 (.ref 205),dE P "_law_worth" 468 (.ref 212),dE P "_law_things" 477 (.ref 219),dE P "_law_wires" 496 (.ref 226),dE P "_law_outputs" 502 (.ref 231),dE P "_law_rows" 513 (.ref 238),dE P "_law_every_fault" 527 (.ref 245),dE P "_law_some_faults" 533 (.ref 250),dE P "_law_first" 542 (.ref 257),dE P "_law_moved_wire" 551 (.ref 264),dE P "_law_together" 557 (.ref 269),dE P "_law_moved" 569 (.ref 276),dE P "_law_due" 582 (.ref 283),dE P "law" 601 (.ref 290)] 53) #[])::
 (nat_lit 15,tO #[.type "ValueError"])::
 (nat_lit 22,tO #[])::
 (nat_lit 23,PySem.Obj.mk (.type "dict") none (PySem.Data.dict #[dE P "__module__" 196 (.str "stuckwires.errors" 187),dE P "__firstlineno__" 200 (.int 2 199),dE P "__static_attributes__" 201 (.ref 22),dE P "__weakref__" 203 (.ref 25),dE P "__doc__" 204 .none] 3) #[])::
 (nat_lit 24,PySem.Obj.mk (.type "type") none (PySem.Data.cls (PySem.ClassData.mk "StuckError" [.type "ValueError"] [.ref 24,.type "ValueError",.type "Exception",.type "BaseException",.type "object"] 23 "StuckError" Bool.true [] [.ref 37] Bool.false none Bool.false)) #[Option.some (.ref 15),none,Option.some (.str "StuckError" 189),Option.some (.str "StuckError" 197),Option.some (.builtin "ValueError.__new__"),Option.some (.bool Bool.true)])::
 (nat_lit 25,PySem.Obj.mk (.type "getset_descriptor") none (PySem.Data.fields #[.str "__weakref__" 202,.ref 24,.builtin "ExceptionGroup.__weakref__",.none]) #[])::
 (nat_lit 28,tO #[.ref 24])::
 (nat_lit 35,tO #[])::
 (nat_lit 36,PySem.Obj.mk (.type "dict") none (PySem.Data.dict #[dE P "__module__" 214 (.str "stuckwires.errors" 187),dE P "__firstlineno__" 218 (.int 4 217),dE P "__static_attributes__" 219 (.ref 35),dE P "__doc__" 220 .none] 2) #[])::
 (nat_lit 37,PySem.Obj.mk (.type "type") none (PySem.Data.cls (PySem.ClassData.mk "NoFault" [.ref 24] [.ref 37,.ref 24,.type "ValueError",.type "Exception",.type "BaseException",.type "object"] 36 "NoFault" Bool.true [] [] Bool.false none Bool.false)) #[Option.some (.ref 28),none,Option.some (.str "NoFault" 207),Option.some (.str "NoFault" 215),Option.some (.builtin "ValueError.__new__"),Option.some (.bool Bool.true)])::
 (nat_lit 40,tO #[])::
 (nat_lit 43,PySem.Obj.mk (.type "code") none (PySem.Data.fields #[.str "every_row" 225,.str "every_row" 226,.str "/claim/cut.py" 227,.int 7 0,.int 1 0,.int 0 0,.int 0 0,.int 3 0,.ref 40,.bool Bool.true,.int 181 0,.ref 41,.none,.none,.none,.ref 42,.int 228 0,.int 7 0,.str "/claim/cut.py" 229]) #[])::
 (nat_lit 44,fO "every_row" zco .none .none .none (.str "stuckwires.works" 223) none (.ref 43) .none)::
 (nat_lit 45,tO #[.int 1 231])::
 (nat_lit 46,tO #[])::
 (nat_lit 48,tO #[.str "kind" 235,.str "worths" 236,.str "ones" 237,.str "told" 238,.str "worth" 239])::
 (nat_lit 49,tO #[])::
 (nat_lit 51,PySem.Obj.mk (.type "code") none (PySem.Data.fields #[.str "gate_worth" 232,.str "gate_worth" 233,.str "/claim/cut.py" 234,.int 12 0,.int 3 0,.int 0 0,.int 0 0,.int 3 0,.ref 46,.bool Bool.true,.int 181 0,.ref 47,.none,.ref 48,.ref 49,.ref 50,.int 240 0,.int 12 0,.str "/claim/cut.py" 241]) #[])::
 (nat_lit 52,fO "gate_worth" zb5 (.ref 45) .none .none (.str "stuckwires.works" 223) none (.ref 51) .none)::
 (nat_lit 53,tO #[])::
 (nat_lit 56,PySem.Obj.mk (.type "code") none (PySem.Data.fields #[.str "every_fault" 245,.str "every_fault" 246,.str "/claim/cut.py" 247,.int 27 0,.int 1 0,.int 0 0,.int 0 0,.int 3 0,.ref 53,.bool Bool.true,.int 181 0,.ref 54,.none,.none,.none,.ref 55,.int 248 0,.int 27 0,.str "/claim/cut.py" 249]) #[])::
 (nat_lit 57,fO "every_fault" zbU .none .none .none (.str "stuckwires.faults" 243) none (.ref 56) .none)::
 (nat_lit 58,tO #[])::
 (nat_lit 60,tO #[.str "works" 254,.str "faults" 255,.str "known_faults" 256,.str "stuck" 257,.str "fault" 258,.str "place" 259])::
 (nat_lit 61,tO #[])::
 (nat_lit 63,PySem.Obj.mk (.type "code") none (PySem.Data.fields #[.str "stuck_places" 251,.str "stuck_places" 252,.str "/claim/cut.py" 253,.int 37 0,.int 2 0,.int 0 0,.int 0 0,.int 3 0,.ref 58,.bool Bool.true,.int 181 0,.ref 59,.none,.ref 60,.ref 61,.ref 62,.int 260 0,.int 37 0,.str "/claim/cut.py" 261]) #[])::
 (nat_lit 64,fO "stuck_places" zbz .none .none .none (.str "stuckwires.faults" 243) none (.ref 63) .none)::
 (nat_lit 65,tO #[.int 1 263])::
 (nat_lit 66,tO #[])::
 (nat_lit 69,PySem.Obj.mk (.type "code") none (PySem.Data.fields #[.str "worths_with" 264,.str "worths_with" 265,.str "/claim/cut.py" 266,.int 48 0,.int 4 0,.int 0 0,.int 0 0,.int 3 0,.ref 66,.bool Bool.true,.int 181 0,.ref 67,.none,.none,.none,.ref 68,.int 267 0,.int 48 0,.str "/claim/cut.py" 268]) #[])::
 (nat_lit 70,fO "worths_with" zbP (.ref 65) .none .none (.str "stuckwires.faults" 243) none (.ref 69) .none)::
 (nat_lit 71,tO #[])::
 (nat_lit 74,PySem.Obj.mk (.type "code") none (PySem.Data.fields #[.str "leg_worths" 270,.str "leg_worths" 271,.str "/claim/cut.py" 272,.int 55 0,.int 3 0,.int 0 0,.int 0 0,.int 3 0,.ref 71,.bool Bool.true,.int 181 0,.ref 72,.none,.none,.none,.ref 73,.int 273 0,.int 55 0,.str "/claim/cut.py" 274]) #[])::
 (nat_lit 75,fO "leg_worths" zcc .none .none .none (.str "stuckwires.faults" 243) none (.ref 74) .none)::
 (nat_lit 76,tO #[.int 1 276])::
 (nat_lit 77,tO #[])::
 (nat_lit 80,PySem.Obj.mk (.type "code") none (PySem.Data.fields #[.str "outputs_with" 277,.str "outputs_with" 278,.str "/claim/cut.py" 279,.int 57 0,.int 4 0,.int 0 0,.int 0 0,.int 3 0,.ref 77,.bool Bool.true,.int 181 0,.ref 78,.none,.none,.none,.ref 79,.int 280 0,.int 57 0,.str "/claim/cut.py" 281]) #[])::
 (nat_lit 81,fO "outputs_with" zbB (.ref 76) .none .none (.str "stuckwires.faults" 243) none (.ref 80) .none)::
 (nat_lit 82,tO #[.str "and" 285,.str "or" 286,.str "odd" 287])::
 (nat_lit 83,tO #[])::
 (nat_lit 86,PySem.Obj.mk (.type "code") none (PySem.Data.fields #[.str "every_pairs" 289,.str "every_pairs" 290,.str "/claim/cut.py" 291,.int 62 0,.int 3 0,.int 0 0,.int 0 0,.int 3 0,.ref 83,.bool Bool.true,.int 181 0,.ref 84,.none,.none,.none,.ref 85,.int 292 0,.int 62 0,.str "/claim/cut.py" 293]) #[])::
 (nat_lit 87,fO "every_pairs" zbO .none .none .none (.str "stuckwires.papers" 283) none (.ref 86) .none)::
 (nat_lit 88,tO #[])::
 (nat_lit 90,tO #[.str "worth" 298])::
 (nat_lit 91,tO #[])::
 (nat_lit 93,PySem.Obj.mk (.type "code") none (PySem.Data.fields #[.str "input_pairs" 295,.str "input_pairs" 296,.str "/claim/cut.py" 297,.int 71 0,.int 1 0,.int 0 0,.int 0 0,.int 3 0,.ref 88,.bool Bool.true,.int 181 0,.ref 89,.none,.ref 90,.ref 91,.ref 92,.int 299 0,.int 71 0,.str "/claim/cut.py" 300]) #[])::
 (nat_lit 94,fO "input_pairs" zbK .none .none .none (.str "stuckwires.papers" 283) none (.ref 93) .none)::
 (nat_lit 95,tO #[])::
 (nat_lit 98,PySem.Obj.mk (.type "code") none (PySem.Data.fields #[.str "leg_pairs" 302,.str "leg_pairs" 303,.str "/claim/cut.py" 304,.int 75 0,.int 3 0,.int 0 0,.int 0 0,.int 3 0,.ref 95,.bool Bool.true,.int 181 0,.ref 96,.none,.none,.none,.ref 97,.int 305 0,.int 75 0,.str "/claim/cut.py" 306]) #[])::
 (nat_lit 99,fO "leg_pairs" zcl .none .none .none (.str "stuckwires.papers" 283) none (.ref 98) .none)::
 (nat_lit 100,tO #[])::
 (nat_lit 103,PySem.Obj.mk (.type "code") none (PySem.Data.fields #[.str "with_stuck" 308,.str "with_stuck" 309,.str "/claim/cut.py" 310,.int 77 0,.int 3 0,.int 0 0,.int 0 0,.int 3 0,.ref 100,.bool Bool.true,.int 181 0,.ref 101,.none,.none,.none,.ref 102,.int 311 0,.int 77 0,.str "/claim/cut.py" 312]) #[])::
 (nat_lit 104,fO "with_stuck" zca .none .none .none (.str "stuckwires.papers" 283) none (.ref 103) .none)::
 (nat_lit 105,tO #[])::
 (nat_lit 108,PySem.Obj.mk (.type "code") none (PySem.Data.fields #[.str "gate_pairs" 314,.str "gate_pairs" 315,.str "/claim/cut.py" 316,.int 81 0,.int 2 0,.int 0 0,.int 0 0,.int 3 0,.ref 105,.bool Bool.true,.int 181 0,.ref 106,.none,.none,.none,.ref 107,.int 317 0,.int 81 0,.str "/claim/cut.py" 318]) #[])::
 (nat_lit 109,fO "gate_pairs" zb8 .none .none .none (.str "stuckwires.papers" 283) none (.ref 108) .none)::
 (nat_lit 110,tO #[])::
 (nat_lit 113,PySem.Obj.mk (.type "code") none (PySem.Data.fields #[.str "every_choice" 320,.str "every_choice" 321,.str "/claim/cut.py" 322,.int 86 0,.int 1 0,.int 0 0,.int 0 0,.int 3 0,.ref 110,.bool Bool.true,.int 181 0,.ref 111,.none,.none,.none,.ref 112,.int 323 0,.int 86 0,.str "/claim/cut.py" 324]) #[])::
 (nat_lit 114,fO "every_choice" zby .none .none .none (.str "stuckwires.papers" 283) none (.ref 113) .none)::
 (nat_lit 115,tO #[])::
 (nat_lit 118,PySem.Obj.mk (.type "code") none (PySem.Data.fields #[.str "chosen_pair" 326,.str "chosen_pair" 327,.str "/claim/cut.py" 328,.int 94 0,.int 2 0,.int 0 0,.int 0 0,.int 3 0,.ref 115,.bool Bool.true,.int 181 0,.ref 116,.none,.none,.none,.ref 117,.int 329 0,.int 94 0,.str "/claim/cut.py" 330]) #[])::
 (nat_lit 119,fO "chosen_pair" zbS .none .none .none (.str "stuckwires.papers" 283) none (.ref 118) .none)::
 (nat_lit 120,tO #[])::
 (nat_lit 123,PySem.Obj.mk (.type "code") none (PySem.Data.fields #[.str "outputs_alike" 332,.str "outputs_alike" 333,.str "/claim/cut.py" 334,.int 98 0,.int 3 0,.int 0 0,.int 0 0,.int 3 0,.ref 120,.bool Bool.true,.int 181 0,.ref 121,.none,.none,.none,.ref 122,.int 335 0,.int 98 0,.str "/claim/cut.py" 336]) #[])::
 (nat_lit 124,fO "outputs_alike" zbi .none .none .none (.str "stuckwires.papers" 283) none (.ref 123) .none)::
 (nat_lit 125,tO #[])::
 (nat_lit 128,PySem.Obj.mk (.type "code") none (PySem.Data.fields #[.str "are_alike" 338,.str "are_alike" 339,.str "/claim/cut.py" 340,.int 101 0,.int 1 0,.int 0 0,.int 0 0,.int 3 0,.ref 125,.bool Bool.true,.int 181 0,.ref 126,.none,.none,.none,.ref 127,.int 341 0,.int 101 0,.str "/claim/cut.py" 342]) #[])::
 (nat_lit 129,fO "are_alike" zcg .none .none .none (.str "stuckwires.papers" 283) none (.ref 128) .none)::
 (nat_lit 130,tO #[])::
 (nat_lit 133,PySem.Obj.mk (.type "code") none (PySem.Data.fields #[.str "outputs_seen" 346,.str "outputs_seen" 347,.str "/claim/cut.py" 348,.int 104 0,.int 2 0,.int 0 0,.int 0 0,.int 3 0,.ref 130,.bool Bool.true,.int 181 0,.ref 131,.none,.none,.none,.ref 132,.int 349 0,.int 104 0,.str "/claim/cut.py" 350]) #[])::
 (nat_lit 134,fO "outputs_seen" zbA .none .none .none (.str "stuckwires.seen" 344) none (.ref 133) .none)::
 (nat_lit 135,tO #[])::
 (nat_lit 138,PySem.Obj.mk (.type "code") none (PySem.Data.fields #[.str "rows_at_once" 352,.str "rows_at_once" 353,.str "/claim/cut.py" 354,.int 109 0,.int 1 0,.int 0 0,.int 0 0,.int 3 0,.ref 135,.bool Bool.true,.int 181 0,.ref 136,.none,.none,.none,.ref 137,.int 355 0,.int 109 0,.str "/claim/cut.py" 356]) #[])::
 (nat_lit 139,fO "rows_at_once" zbv .none .none .none (.str "stuckwires.seen" 344) none (.ref 138) .none)::
 (nat_lit 140,tO #[])::
 (nat_lit 142,tO #[.str "works" 361,.str "stuck" 362,.str "others" 363,.str "numbers" 364])::
 (nat_lit 143,tO #[])::
 (nat_lit 145,PySem.Obj.mk (.type "code") none (PySem.Data.fields #[.str "first_unlike" 358,.str "first_unlike" 359,.str "/claim/cut.py" 360,.int 117 0,.int 3 0,.int 0 0,.int 0 0,.int 3 0,.ref 140,.bool Bool.true,.int 181 0,.ref 141,.none,.ref 142,.ref 143,.ref 144,.int 365 0,.int 117 0,.str "/claim/cut.py" 366]) #[])::
 (nat_lit 146,fO "first_unlike" zbC .none .none .none (.str "stuckwires.seen" 344) none (.ref 145) .none)::
 (nat_lit 147,tO #[])::
 (nat_lit 150,PySem.Obj.mk (.type "code") none (PySem.Data.fields #[.str "unlike_numbers" 368,.str "unlike_numbers" 369,.str "/claim/cut.py" 370,.int 120 0,.int 2 0,.int 0 0,.int 0 0,.int 3 0,.ref 147,.bool Bool.true,.int 181 0,.ref 148,.none,.none,.none,.ref 149,.int 371 0,.int 120 0,.str "/claim/cut.py" 372]) #[])::
 (nat_lit 151,fO "unlike_numbers" za7 .none .none .none (.str "stuckwires.seen" 344) none (.ref 150) .none)::
 (nat_lit 152,tO #[])::
 (nat_lit 154,tO #[.str "works" 379,.str "faults" 380])::
 (nat_lit 155,tO #[])::
 (nat_lit 157,PySem.Obj.mk (.type "code") none (PySem.Data.fields #[.str "first_test" 376,.str "first_test" 377,.str "/claim/cut.py" 378,.int 126 0,.int 2 0,.int 0 0,.int 0 0,.int 3 0,.ref 152,.bool Bool.true,.int 181 0,.ref 153,.none,.ref 154,.ref 155,.ref 156,.int 381 0,.int 126 0,.str "/claim/cut.py" 382]) #[])::
 (nat_lit 158,fO "first_test" zb7 .none .none .none (.str "stuckwires.findings" 374) none (.ref 157) .none)::
 (nat_lit 159,tO #[])::
 (nat_lit 161,tO #[.str "works" 387,.str "faults" 388,.str "stuck" 389,.str "row" 390])::
 (nat_lit 162,tO #[])::
 (nat_lit 164,PySem.Obj.mk (.type "code") none (PySem.Data.fields #[.str "test_told" 384,.str "test_told" 385,.str "/claim/cut.py" 386,.int 128 0,.int 2 0,.int 0 0,.int 0 0,.int 3 0,.ref 159,.bool Bool.true,.int 181 0,.ref 160,.none,.ref 161,.ref 162,.ref 163,.int 391 0,.int 128 0,.str "/claim/cut.py" 392]) #[])::
 (nat_lit 165,fO "test_told" zcn .none .none .none (.str "stuckwires.findings" 374) none (.ref 164) .none)::
 (nat_lit 166,tO #[])::
 (nat_lit 168,tO #[.str "works" 397,.str "stuck" 398,.str "known" 399,.str "ahead" 400,.str "low" 401,.str "high" 402])::
 (nat_lit 169,tO #[])::
 (nat_lit 171,PySem.Obj.mk (.type "code") none (PySem.Data.fields #[.str "paper_behind" 394,.str "paper_behind" 395,.str "/claim/cut.py" 396,.int 134 0,.int 3 0,.int 0 0,.int 0 0,.int 3 0,.ref 166,.bool Bool.true,.int 181 0,.ref 167,.none,.ref 168,.ref 169,.ref 170,.int 403 0,.int 134 0,.str "/claim/cut.py" 404]) #[])::
 (nat_lit 172,fO "paper_behind" zbu .none .none .none (.str "stuckwires.findings" 374) none (.ref 171) .none)::
 (nat_lit 173,tO #[])::
 (nat_lit 175,tO #[.str "works" 411,.str "faults" 412,.str "others" 413])::
 (nat_lit 176,tO #[])::
 (nat_lit 178,PySem.Obj.mk (.type "code") none (PySem.Data.fields #[.str "parted_at" 408,.str "parted_at" 409,.str "/claim/cut.py" 410,.int 142 0,.int 3 0,.int 0 0,.int 0 0,.int 3 0,.ref 173,.bool Bool.true,.int 181 0,.ref 174,.none,.ref 175,.ref 176,.ref 177,.int 414 0,.int 142 0,.str "/claim/cut.py" 415]) #[])::
 (nat_lit 179,fO "parted_at" zcm .none .none .none (.str "stuckwires.groups" 406) none (.ref 178) .none)::
 (nat_lit 180,tO #[])::
 (nat_lit 182,tO #[.str "script" 422,.str "k" 423])::
 (nat_lit 183,tO #[])::
 (nat_lit 185,PySem.Obj.mk (.type "code") none (PySem.Data.fields #[.str "_law_cell_at" 419,.str "_law_cell_at" 420,.str "/claim/cut.py" 421,.int 145 0,.int 2 0,.int 0 0,.int 0 0,.int 3 0,.ref 180,.bool Bool.true,.int 181 0,.ref 181,.none,.ref 182,.ref 183,.ref 184,.int 424 0,.int 145 0,.str "/claim/cut.py" 425]) #[])::
 (nat_lit 186,fO "_law_cell_at" zbQ .none .none .none (.str "law_stuckwires_k26_whole_works_side_by_side" 417) none (.ref 185) .none)::
 (nat_lit 187,tO #[])::
 (nat_lit 189,tO #[.str "cell" 430,.str "many" 431,.str "base" 432,.str "row" 433,.str "rest" 434,.str "k" 435,.str "stir" 436])::
 (nat_lit 190,tO #[])::
 (nat_lit 192,PySem.Obj.mk (.type "code") none (PySem.Data.fields #[.str "_law_numbers" 427,.str "_law_numbers" 428,.str "/claim/cut.py" 429,.int 149 0,.int 3 0,.int 0 0,.int 0 0,.int 3 0,.ref 187,.bool Bool.true,.int 181 0,.ref 188,.none,.ref 189,.ref 190,.ref 191,.int 437 0,.int 149 0,.str "/claim/cut.py" 438]) #[])::
 (nat_lit 193,fO "_law_numbers" zbT .none .none .none (.str "law_stuckwires_k26_whole_works_side_by_side" 417) none (.ref 192) .none)::
 (nat_lit 194,tO #[])::
 (nat_lit 196,tO #[.str "row" 443,.str "wires" 444,.str "two" 445,.str "kinds" 446,.str "kind" 447,.str "many" 448,.str "legs" 449,.str "number" 450,.str "leg" 451])::
 (nat_lit 197,tO #[])::
 (nat_lit 199,PySem.Obj.mk (.type "code") none (PySem.Data.fields #[.str "_law_gate" 440,.str "_law_gate" 441,.str "/claim/cut.py" 442,.int 162 0,.int 3 0,.int 0 0,.int 0 0,.int 3 0,.ref 194,.bool Bool.true,.int 181 0,.ref 195,.none,.ref 196,.ref 197,.ref 198,.int 452 0,.int 162 0,.str "/claim/cut.py" 453]) #[])::
 (nat_lit 200,fO "_law_gate" zcF .none .none .none (.str "law_stuckwires_k26_whole_works_side_by_side" 417) none (.ref 199) .none)::
 (nat_lit 201,tO #[])::
 (nat_lit 204,PySem.Obj.mk (.type "code") none (PySem.Data.fields #[.str "_law_works" 455,.str "_law_works" 456,.str "/claim/cut.py" 457,.int 179 0,.int 4 0,.int 0 0,.int 0 0,.int 3 0,.ref 201,.bool Bool.true,.int 181 0,.ref 202,.none,.none,.none,.ref 203,.int 458 0,.int 179 0,.str "/claim/cut.py" 459]) #[])::
 (nat_lit 205,fO "_law_works" zcj .none .none .none (.str "law_stuckwires_k26_whole_works_side_by_side" 417) none (.ref 204) .none)::
 (nat_lit 206,tO #[])::
 (nat_lit 208,tO #[.str "kind" 464,.str "legs" 465])::
 (nat_lit 209,tO #[])::
 (nat_lit 211,PySem.Obj.mk (.type "code") none (PySem.Data.fields #[.str "_law_worth" 461,.str "_law_worth" 462,.str "/claim/cut.py" 463,.int 195 0,.int 2 0,.int 0 0,.int 0 0,.int 3 0,.ref 206,.bool Bool.true,.int 181 0,.ref 207,.none,.ref 208,.ref 209,.ref 210,.int 466 0,.int 195 0,.str "/claim/cut.py" 467]) #[])::
 (nat_lit 212,fO "_law_worth" zcp .none .none .none (.str "law_stuckwires_k26_whole_works_side_by_side" 417) none (.ref 211) .none)::
 (nat_lit 213,tO #[])::
 (nat_lit 215,tO #[.str "faults" 472,.str "stuck" 473,.str "fault" 474])::
 (nat_lit 216,tO #[])::
 (nat_lit 218,PySem.Obj.mk (.type "code") none (PySem.Data.fields #[.str "_law_things" 469,.str "_law_things" 470,.str "/claim/cut.py" 471,.int 207 0,.int 1 0,.int 0 0,.int 0 0,.int 3 0,.ref 213,.bool Bool.true,.int 181 0,.ref 214,.none,.ref 215,.ref 216,.ref 217,.int 475 0,.int 207 0,.str "/claim/cut.py" 476]) #[])::
 (nat_lit 219,fO "_law_things" zb6 .none .none .none (.str "law_stuckwires_k26_whole_works_side_by_side" 417) none (.ref 218) .none)::
 (nat_lit 220,tO #[])::
 (nat_lit 222,tO #[.str "works" 481,.str "stuck" 482,.str "row" 483,.str "inputs" 484,.str "gates" 485,.str "outputs" 486,.str "worths" 487,.str "wire" 488,.str "number" 489,.str "kind" 490,.str "legs" 491,.str "own" 492,.str "place" 493])::
 (nat_lit 223,tO #[])::
 (nat_lit 225,PySem.Obj.mk (.type "code") none (PySem.Data.fields #[.str "_law_wires" 478,.str "_law_wires" 479,.str "/claim/cut.py" 480,.int 212 0,.int 3 0,.int 0 0,.int 0 0,.int 3 0,.ref 220,.bool Bool.true,.int 181 0,.ref 221,.none,.ref 222,.ref 223,.ref 224,.int 494 0,.int 212 0,.str "/claim/cut.py" 495]) #[])::
 (nat_lit 226,fO "_law_wires" zck .none .none .none (.str "law_stuckwires_k26_whole_works_side_by_side" 417) none (.ref 225) .none)::
 (nat_lit 227,tO #[])::
 (nat_lit 230,PySem.Obj.mk (.type "code") none (PySem.Data.fields #[.str "_law_outputs" 497,.str "_law_outputs" 498,.str "/claim/cut.py" 499,.int 224 0,.int 3 0,.int 0 0,.int 0 0,.int 3 0,.ref 227,.bool Bool.true,.int 181 0,.ref 228,.none,.none,.none,.ref 229,.int 500 0,.int 224 0,.str "/claim/cut.py" 501]) #[])::
 (nat_lit 231,fO "_law_outputs" zbR .none .none .none (.str "law_stuckwires_k26_whole_works_side_by_side" 417) none (.ref 230) .none)::
 (nat_lit 232,tO #[])::
 (nat_lit 234,tO #[.str "inputs" 506,.str "rows" 507,.str "k" 508,.str "longer" 509,.str "row" 510])::
 (nat_lit 235,tO #[])::
 (nat_lit 237,PySem.Obj.mk (.type "code") none (PySem.Data.fields #[.str "_law_rows" 503,.str "_law_rows" 504,.str "/claim/cut.py" 505,.int 227 0,.int 1 0,.int 0 0,.int 0 0,.int 3 0,.ref 232,.bool Bool.true,.int 181 0,.ref 233,.none,.ref 234,.ref 235,.ref 236,.int 511 0,.int 227 0,.str "/claim/cut.py" 512]) #[])::
 (nat_lit 238,fO "_law_rows" zcH .none .none .none (.str "law_stuckwires_k26_whole_works_side_by_side" 417) none (.ref 237) .none)::
 (nat_lit 239,tO #[])::
 (nat_lit 241,tO #[.str "works" 517,.str "inputs" 518,.str "gates" 519,.str "outputs" 520,.str "found" 521,.str "wire" 522,.str "number" 523,.str "place" 524])::
 (nat_lit 242,tO #[])::
 (nat_lit 244,PySem.Obj.mk (.type "code") none (PySem.Data.fields #[.str "_law_every_fault" 514,.str "_law_every_fault" 515,.str "/claim/cut.py" 516,.int 235 0,.int 1 0,.int 0 0,.int 0 0,.int 3 0,.ref 239,.bool Bool.true,.int 181 0,.ref 240,.none,.ref 241,.ref 242,.ref 243,.int 525 0,.int 235 0,.str "/claim/cut.py" 526]) #[])::
 (nat_lit 245,fO "_law_every_fault" zaY .none .none .none (.str "law_stuckwires_k26_whole_works_side_by_side" 417) none (.ref 244) .none)::
 (nat_lit 246,tO #[])::
 (nat_lit 249,PySem.Obj.mk (.type "code") none (PySem.Data.fields #[.str "_law_some_faults" 528,.str "_law_some_faults" 529,.str "/claim/cut.py" 530,.int 244 0,.int 2 0,.int 0 0,.int 0 0,.int 3 0,.ref 246,.bool Bool.true,.int 181 0,.ref 247,.none,.none,.none,.ref 248,.int 531 0,.int 244 0,.str "/claim/cut.py" 532]) #[])::
 (nat_lit 250,fO "_law_some_faults" za0 .none .none .none (.str "law_stuckwires_k26_whole_works_side_by_side" 417) none (.ref 249) .none)::
 (nat_lit 251,tO #[])::
 (nat_lit 253,tO #[.str "works" 537,.str "faults" 538,.str "row" 539])::
 (nat_lit 254,tO #[])::
 (nat_lit 256,PySem.Obj.mk (.type "code") none (PySem.Data.fields #[.str "_law_first" 534,.str "_law_first" 535,.str "/claim/cut.py" 536,.int 252 0,.int 2 0,.int 0 0,.int 0 0,.int 3 0,.ref 251,.bool Bool.true,.int 181 0,.ref 252,.none,.ref 253,.ref 254,.ref 255,.int 540 0,.int 252 0,.str "/claim/cut.py" 541]) #[])::
 (nat_lit 257,fO "_law_first" zci .none .none .none (.str "law_stuckwires_k26_whole_works_side_by_side" 417) none (.ref 256) .none)::
 (nat_lit 258,tO #[])::
 (nat_lit 260,tO #[.str "wire" 546,.str "one" 547,.str "other" 548])::
 (nat_lit 261,tO #[])::
 (nat_lit 263,PySem.Obj.mk (.type "code") none (PySem.Data.fields #[.str "_law_moved_wire" 543,.str "_law_moved_wire" 544,.str "/claim/cut.py" 545,.int 257 0,.int 3 0,.int 0 0,.int 0 0,.int 3 0,.ref 258,.bool Bool.true,.int 181 0,.ref 259,.none,.ref 260,.ref 261,.ref 262,.int 549 0,.int 257 0,.str "/claim/cut.py" 550]) #[])::
 (nat_lit 264,fO "_law_moved_wire" za6 .none .none .none (.str "law_stuckwires_k26_whole_works_side_by_side" 417) none (.ref 263) .none)::
 (nat_lit 265,tO #[])::
 (nat_lit 268,PySem.Obj.mk (.type "code") none (PySem.Data.fields #[.str "_law_together" 552,.str "_law_together" 553,.str "/claim/cut.py" 554,.int 261 0,.int 2 0,.int 0 0,.int 0 0,.int 3 0,.ref 265,.bool Bool.true,.int 181 0,.ref 266,.none,.none,.none,.ref 267,.int 555 0,.int 261 0,.str "/claim/cut.py" 556]) #[])::
 (nat_lit 269,fO "_law_together" zbx .none .none .none (.str "law_stuckwires_k26_whole_works_side_by_side" 417) none (.ref 268) .none)::
 (nat_lit 270,tO #[])::
 (nat_lit 272,tO #[.str "one" 561,.str "other" 562,.str "faults" 563,.str "second" 564,.str "found" 565,.str "fault" 566])::
 (nat_lit 273,tO #[])::
 (nat_lit 275,PySem.Obj.mk (.type "code") none (PySem.Data.fields #[.str "_law_moved" 558,.str "_law_moved" 559,.str "/claim/cut.py" 560,.int 270 0,.int 4 0,.int 0 0,.int 0 0,.int 3 0,.ref 270,.bool Bool.true,.int 181 0,.ref 271,.none,.ref 272,.ref 273,.ref 274,.int 567 0,.int 270 0,.str "/claim/cut.py" 568]) #[])::
 (nat_lit 276,fO "_law_moved" zch .none .none .none (.str "law_stuckwires_k26_whole_works_side_by_side" 417) none (.ref 275) .none)::
 (nat_lit 277,tO #[])::
 (nat_lit 279,tO #[.str "one" 573,.str "other" 574,.str "faults" 575,.str "others" 576,.str "rows" 577,.str "first" 578,.str "second" 579])::
 (nat_lit 280,tO #[])::
 (nat_lit 282,PySem.Obj.mk (.type "code") none (PySem.Data.fields #[.str "_law_due" 570,.str "_law_due" 571,.str "/claim/cut.py" 572,.int 280 0,.int 4 0,.int 0 0,.int 0 0,.int 3 0,.ref 277,.bool Bool.true,.int 181 0,.ref 278,.none,.ref 279,.ref 280,.ref 281,.int 580 0,.int 280 0,.str "/claim/cut.py" 581]) #[])::
 (nat_lit 283,fO "_law_due" zcZ .none .none .none (.str "law_stuckwires_k26_whole_works_side_by_side" 417) none (.ref 282) .none)::
 (nat_lit 284,tO #[])::
 (nat_lit 286,tO #[.str "script" 586,.str "half" 587,.str "one" 588,.str "other" 589,.str "both" 590,.str "row" 591,.str "faults" 592,.str "others" 593,.str "ones" 594,.str "seconds" 595,.str "due" 596,.str "word" 597,.str "answer" 598])::
 (nat_lit 287,tO #[])::
 (nat_lit 289,PySem.Obj.mk (.type "code") none (PySem.Data.fields #[.str "law" 583,.str "law" 584,.str "/claim/cut.py" 585,.int 289 0,.int 1 0,.int 0 0,.int 0 0,.int 3 0,.ref 284,.bool Bool.true,.int 181 0,.ref 285,.none,.ref 286,.ref 287,.ref 288,.int 599 0,.int 289 0,.str "/claim/cut.py" 600]) #[])::
 (nat_lit 290,fO "law" zg0 .none .none .none (.str "law_stuckwires_k26_whole_works_side_by_side" 417) none (.ref 289) .none)::[]
def zh9:List Addr:=[2,3,15,22,23,24,25,28,35,36,37,40,43,44,45,46,48,49,51,52,53,56,57,58,60,61,63,64,65,66,69,70,71,74,75,76,77,80,81,82,83,86,87,88,90,91,93,94,95,98,99,100,103,104,105,108,109,110,113,114,115,118,119,120,123,124,125,128,129,130,133,134,135,138,139,140,142,143,145,146,147,150,151,152,154,155,157,158,159,161,162,164,165,166,168,169,171,172,173,175,176,178,179,180,182,183,185,186,187,189,190,192,193,194,196,197,199,200,201,204,205,206,208,209,211,212,213,215,216,218,219,220,222,223,225,226,227,230,231,232,234,235,237,238,239,241,242,244,245,246,249,250,251,253,254,256,257,258,260,261,263,264,265,268,269,270,272,273,275,276,277,279,280,282,283,284,286,287,289,290]
noncomputable def view:Program:={PySem.Challenge.pw_stuckwires_k26_whole_works_side_by_side with main:={PySem.Challenge.pw_stuckwires_k26_whole_works_side_by_side.main with body:=[1,2,4,7,8,10,13,14,15,16,17,18,19,20,21,22,24,25,26,27,29,30,31,33,35,36,37,38,39,40,41,42,43,44,45,46,47,48,49,50,51].map top}}
end My
section
open PySem PySem.W PyProof.Rows
set_option maxRecDepth 100000 in
set_option maxHeartbeats 0 in
theorem My.hl0:PySem.W.LeftO PySem.Challenge.rw_stuckwires_k26_whole_works_side_by_side.row.prog My.view ["gate_worth","worths_with","outputs_with"] (fun s=>xlAt My.view [] s && recOk (RowW.records (OpenRow.toRowW PySem.Challenge.rw_stuckwires_k26_whole_works_side_by_side.row)) s) (Hook.obs (kHook My.part My.zh9 (fun _=>by kernel_rfl))) (Hook.val (kHook My.part My.zh9 (fun _=>by kernel_rfl))) 3546:=by intro w;kernel_rfl
end
namespace L2
open PySem PySem.Spec PyProof.Rows
noncomputable abbrev Key:=Sum Int Str
noncomputable def zkt:Key→Value→Bool
 | .inl k,v=>Value.isInt k v
 | .inr x,v=>Value.isStrOf x v
noncomputable def keyH (w:World):Key→Int
 | .inl k=>hashInt k
 | .inr x=>hashStr w x
theorem zbL:∀ {k:Key} {v:Value},zkt k v=true→(∃ i t,k=Sum.inl i∧v=Value.int i t)∨(∃ x t,k=Sum.inr x∧v=Value.str x t)
 | .inl i,v,h=>by
  obtain ⟨t,e⟩:=Value.isInt_shape (k:=i) (v:=v) h
  exact .inl ⟨i,t,rfl,e⟩
 | .inr x,v,h=>by
  obtain ⟨t,e⟩:=Value.isStrOf_shape (x:=x) (v:=v) h
  exact .inr ⟨x,t,rfl,e⟩
theorem zl6 (i:Int)(t:Tok):zkt (.inl i) (.int i t)=true:=by simp [zkt,Value.isInt]
theorem zk0 (x:Str)(t:Tok):zkt (.inr x) (.str x t)=true:=by simp [zkt,Value.isStrOf]
theorem key_ll (a b:Int):decide ((Sum.inl a:Key)=Sum.inl b)=(a==b):=by
 by_cases e:a=b
 ·subst e;simp
 ·have h:¬(Sum.inl a:Key)=Sum.inl b:=fun q=>e (Sum.inl.inj q)
  rw [decide_eq_false h]
  exact (beq_eq_false_iff_ne.mpr e).symm
theorem key_rr (a b:Str):decide ((Sum.inr a:Key)=Sum.inr b)=decide (a=b):=by
 by_cases e:a=b
 ·subst e;simp
 ·have h:¬(Sum.inr a:Key)=Sum.inr b:=fun q=>e (Sum.inr.inj q)
  rw [decide_eq_false h,decide_eq_false e]
theorem key_lr (a:Int)(b:Str):decide ((Sum.inl a:Key)=Sum.inr b)=false:=decide_eq_false (fun q=>nomatch q)
theorem key_rl (a:Str)(b:Int):decide ((Sum.inr a:Key)=Sum.inl b)=false:=decide_eq_false (fun q=>nomatch q)
noncomputable def zaX (prog:Program) (w:World):PySem.KeyKind prog w Key where
 is:=zkt
 hash:=keyH w
 inj:=fun v a b ha hb=>by
  rcases zbL ha with ⟨i,t,rfl,rfl⟩ | ⟨x,t,rfl,rfl⟩
  ·rcases zbL hb with ⟨j,u,rfl,e⟩ | ⟨y,u,rfl,e⟩
   ·injection e with e1 _;rw [e1]
   ·exact nomatch e
  ·rcases zbL hb with ⟨j,u,rfl,e⟩ | ⟨y,u,rfl,e⟩
   ·exact nomatch e
   ·injection e with e1 _;rw [e1]
 byValue:=fun k v h=>by
  rcases zbL h with ⟨i,t,rfl,rfl⟩ | ⟨x,t,rfl,rfl⟩ <;> rfl
 pyHash:=fun hv h=>by
  rcases zbL hv with ⟨i,t,rfl,rfl⟩ | ⟨x,t,rfl,rfl⟩
  ·exact wpAny_pyHash_int h
  ·exact wpAny_pyHash_str h
 eqBool:=fun hu hv h=>by
  rcases zbL hu with ⟨i,t,rfl,rfl⟩ | ⟨x,t,rfl,rfl⟩
  ·rcases zbL hv with ⟨j,u,rfl,rfl⟩ | ⟨y,u,rfl,rfl⟩
   ·rw [key_ll] at h;exact wpAny_eqBool_int h
   ·rw [key_lr] at h;exact SeqAt.EqAt.int_str i t y u _ _ _ _ h
  ·rcases zbL hv with ⟨j,u,rfl,rfl⟩ | ⟨y,u,rfl,rfl⟩
   ·rw [key_rl] at h;exact SeqAt.EqAt.str_int x t j u _ _ _ _ h
   ·rw [key_rr] at h;exact wpAny_eqBool_str h
 «strs» :=fun k x t v h=>by
  rcases zbL h with ⟨i,u,rfl,e⟩ | ⟨y,u,rfl,e⟩
  ·exact nomatch e
  ·injection e with e1 _
   subst e1
   cases v <;> rfl
theorem zjf (prog:Program)(w:World)(i:Int)(t:Tok):(zaX prog w).is (.inl i) (.int i t)=true:=zl6 i t
theorem zjz (prog:Program)(w:World)(x:Str)(t:Tok):(zaX prog w).is (.inr x) (.str x t)=true:=zk0 x t
end L2
namespace L2
open PySem PySem.Spec PyProof.Rows
inductive V where
 | non | bl (b:Bool) | int (i:Int) | str (x:Str) | byt (b:Array UInt8) | flt (b:UInt64) | ref (a:Addr) | ty (n:String)
 deriving DecidableEq
noncomputable def RelV:V→Value→Prop
 | .non,u=>u=Value.none
 | .bl b,u=>u=Value.bool b
 | .int i,u=>∃ t,u=Value.int i t
 | .str x,u=>∃ t,u=Value.str x t
 | .byt b,u=>∃ t,u=Value.bytes b t
 | .flt b,u=>∃ t,u=Value.float b t
 | .ref a,u=>u=Value.ref a
 | .ty n,u=>u=Value.type n
noncomputable abbrev Vals:List V→List Value→Prop:=Paired RelV
theorem Vals.length {xs:List V}{us:List Value}(r:Vals xs us):xs.length=us.length:=Paired.length r
theorem Vals.get:∀ {xs:List V} {us:List Value} {i:Nat} {x:V},Vals xs us→xs[i]? =some x→∃ u,us[i]? =some u∧RelV x u
 | _,_,_,_,.nil,e=>by simp at e
 | _,_,0,_,.cons r _,e=>by simp at e;subst e;exact ⟨_,rfl,r⟩
 | _,_,i+1,x,.cons _ t,e=>by
  obtain ⟨u,h1,h2⟩:=Vals.get (i:=i) (x:=x) t (by simpa using e)
  exact ⟨u,by simpa using h1,h2⟩
theorem Vals.append:∀ {xs ys:List V} {us ws:List Value},Vals xs us→Vals ys ws→Vals (xs++ys) (us++ws)
 | _,_,_,_,.nil,s=>s
 | _,_,_,_,.cons r t,s=>.cons r (Vals.append t s)
theorem Vals.take:∀ {xs:List V} {us:List Value} (n:Nat),Vals xs us→Vals (xs.take n) (us.take n)
 | _,_,0,_=>.nil
 | _,_,_+1,.nil=>.nil
 | _,_,n+1,.cons r t=>.cons r (Vals.take n t)
theorem Vals.drop:∀ {xs:List V} {us:List Value} (n:Nat),Vals xs us→Vals (xs.drop n) (us.drop n)
 | _,_,0,r=>r
 | _,_,_+1,.nil=>.nil
 | _,_,n+1,.cons _ t=>Vals.drop n t
noncomputable def RelO:Option V→Option Value→Prop
 | some v,some u=>RelV v u
 | none,none=>True
 | _,_=>False
noncomputable def KV {κ :Type}:List (κ×V)→List (κ×Value)→Prop:=Paired fun (p: κ×V) (q: κ×Value)=>p.1=q.1∧RelV p.2 q.2
noncomputable def kV:Key→V
 | .inl i=>.int i
 | .inr x=>.str x
inductive HO where
  | lst (xs:List V)
  | tup (xs:List V)
  | dK (kvs:List (Key×V)) | dT (kvs:List (List Key×V))
  | set (S:Int→Bool) (n:Nat)
  | ins (C dx:Addr) (fs:List (Str×V))
  | own (x:Addr)
  | xd (fs:List (Str×V))
  | met (f x:Addr)
  | rng (lo hi:Int)
  | frz (o:Obj) (u:HO)
  | tbl (ps:Array Value)
  | ext (φ :Heap→Prop)
noncomputable abbrev Hp:=Addr→Option HO
noncomputable def upd (H:Hp) (a:Addr) (o:HO):Hp:=fun b=>if b=a then some o else H b
theorem zab {H:Hp}{a:Addr}{o:HO}:upd H a o a=some o:=by unfold upd;rw [if_pos rfl]
theorem zam {H:Hp}{a b:Addr}{o:HO}(h:b≠a):upd H a o b=H b:=by unfold upd;rw [if_neg h]
theorem zmW {H:Hp}{a b:Addr}{o u:HO}(h:H a=some o)(h':H b=some u)(d:o≠u):a≠b:=by
 intro e;subst e;rw [h] at h';exact d (Option.some.inj h')
theorem zap {H:Hp}{a b:Addr}{o:HO}(h:H a=some o)(h':H b=none):a≠b:=by
 intro e;subst e;rw [h] at h';cases h'
noncomputable def RdT (H:Hp) (b:Addr) (xs:List V):Prop:=H b=some (.tup xs)∨∃ o,H b=some (.frz o (.tup xs))
theorem RdT.put {H:Hp}{a c:Addr}{o:HO}{xs:List V}(q:RdT H c xs)(n:c≠a):RdT (upd H a o) c xs:=by
 rcases q with q | ⟨u,q⟩
 ·exact .inl (by rw [zam n];exact q)
 ·exact .inr ⟨u,by rw [zam n];exact q⟩
theorem RdT.upd {H:Hp}{a c:Addr}{o:HO}{xs:List V}(q:RdT H c xs)(n:H a=none):RdT (L2.upd H a o) c xs:=by
 rcases q with q | ⟨u,q⟩
 ·exact RdT.put (.inl q) (zap q n)
 ·exact RdT.put (.inr ⟨u,q⟩) (zap q n)
theorem RdT.same {H H':Hp}{c:Addr}{xs:List V}(q:RdT H c xs)(s:∀ b o,H b=some o→H' b=some o):RdT H' c xs:=by
 rcases q with q | ⟨u,q⟩
 ·exact .inl (s _ _ q)
 ·exact .inr ⟨u,s _ _ q⟩
theorem RdT.write {H:Hp}{D c:Addr}{l:List V}{o:HO}{xs:List V}(q:RdT H c xs)(hD:H D=some (.lst l)):RdT (L2.upd H D o) c xs:=by
 rcases q with q | ⟨u,q⟩
 ·exact RdT.put (.inl q) (zmW q hD (fun z=>nomatch z))
 ·exact RdT.put (.inr ⟨u,q⟩) (zmW q hD (fun z=>nomatch z))
theorem RdT.keep {H H':Hp}{c:Addr}{xs:List V}(q:RdT H c xs)(k:∀ o,H c=some o→(∃ ys,o= .tup ys∨∃ u,o= .frz u (.tup ys))→H' c=some o):RdT H' c xs:=by
 rcases q with q | ⟨u,q⟩
 ·exact .inl (k _ q ⟨xs,.inl rfl⟩)
 ·exact .inr ⟨u,k _ q ⟨xs,.inr ⟨u,rfl⟩⟩⟩
section
variable (P:Program) (w:World)
noncomputable def zcB (H:Hp) (h:Heap) (a:Addr):HO→Prop
 | .lst xs=>xs.length≤sizeLine∧∃ (its:List Value) (n:Nat),Vals xs its∧h.get? a=some {cls:=.type "list",data:=.seq its.toArray n}
 | .tup xs=>xs.length≤sizeLine∧∃ its:List Value,Vals xs its∧IsTup h a its.toArray
 | .dK kvs=>kvs.length≤sizeLine∧(a==sysModules)=false∧∃ vs,KV kvs vs∧h.DictOf (zaX P w) a vs
 | .dT kvs=>kvs.length≤sizeLine∧(a==sysModules)=false∧∃ xs:List (List Key×Addr×Value),
   Paired (fun (p:List Key×V) (q:List Key×Addr×Value)=>p.1=q.1∧RdT H q.2.1 (p.1.map kV)∧RelV p.2 q.2.2) kvs xs∧
   ∃ o es ep,h.get? a=some o∧o.ExactDict∧o.data= .dict es ep∧es.toList=xs.map (entryOfKey (tupleKind (zaX P w)))∧(xs.map (·.1)).Nodup
 | .set S n=>h.SetOf (intKind P w) a S n
 | .ins C dx fs=>H dx=some (.own a)∧fs.length≤1000∧dx≠a∧h.get? a=some (PySem.W.instObj C dx)∧
   ∃ mA,h.Ns1 dx mA∧(∀ f,RelO (fs.lookup f) (mA f))∧PySem.Within mA (fs.map (·.1))
 | .own _=>∃ o,h.get? a=some o
 | .xd fs=>∃ mA,h.Ns1 a mA∧∀ f,RelO (fs.lookup f) (mA f)
 | .rng lo hi=>∃ t u v,h.get? a=some {cls:=.type "range",data:=.fields #[.int lo t,.int hi u,.int 1 v]}
 | .frz o u=>h.get? a=some o∧zcB H h a u
 | .tbl ps=>h.get? a=some {cls:=.none,data:=.fields ps}
 | .met f x=>h.get? a=some (PySem.W.methodObj (.ref f) (.ref x))
 | .ext φ =>φ h∧(∃ o,h.get? a=some o)∧∀ h1 h2:Heap,φ h1→(∀ o,h1.get? a=some o→h2.get? a=some o)→φ h2
noncomputable def HOk (H:Hp) (h:Heap):Prop:=∀ a o,H a=some o→zcB P w H h a o
end
section
variable {P:Program} {w:World} {H H':Hp} {h h':Heap} {a:Addr} {o:HO}
theorem zcB.lt (x:zcB P w H h a o):a < h.objs.size:=by
 cases o with
 | lst xs=>obtain ⟨_,_,_,_,e⟩:=x;exact Heap.lt_size e
 | tup xs=>obtain ⟨_,_,_,p⟩:=x;exact p.lt
 | dK kvs=>obtain ⟨_,_,_,_,o,_,_,e,_⟩:=x;exact Heap.lt_size e
 | dT kvs=>obtain ⟨_,_,_,_,o,_,_,e,_⟩:=x;exact Heap.lt_size e
 | set S n=>obtain ⟨o,_,_,_,e,_⟩:=x;exact Heap.lt_size e
 | ins C dx fs=>obtain ⟨_,_,_,e,_⟩:=x;exact Heap.lt_size e
 | own y=>obtain ⟨_,e⟩:=x;exact Heap.lt_size e
 | xd fs=>obtain ⟨_,⟨_,_,_,e,_⟩,_⟩:=x;exact Heap.lt_size e
 | rng lo hi=>obtain ⟨_,_,_,e⟩:=x;exact Heap.lt_size e
 | frz ob u=>obtain ⟨e,_⟩:=x;exact Heap.lt_size e
 | tbl ps=>exact Heap.lt_size (show h.get? a=some _ from x)
 | met f y=>exact Heap.lt_size (show h.get? a=some _ from x)
 | ext φ =>obtain ⟨_,⟨_,e⟩,_⟩:=x;exact Heap.lt_size e
theorem Paired.mapP {α β :Type}{F G: α→β→Prop}:∀ {l₁ :List α} {l₂ :List β},Paired F l₁ l₂→(∀ a b,F a b→G a b)→Paired G l₁ l₂
 | _,_,.nil,_=>.nil
 | _,_,.cons r t,f=>.cons (f _ _ r) (Paired.mapP t f)
theorem zcB.stay (x:zcB P w H h a o)(k:∀ b u,(b=a∨H b=some (.own a))→h.get? b=some u→h'.get? b=some u)
  (ho:∀ b,H b=some (.own a)→H' b=some (.own a)) (ht:∀ b xs,RdT H b xs→RdT H' b xs):zcB P w H' h' a o:=by
 induction o with
 | lst xs=>obtain ⟨z,its,n,r,e⟩:=x;exact ⟨z,its,n,r,k _ _ (.inl rfl) e⟩
 | tup xs=>obtain ⟨z,its,r,ob,e,c⟩:=x;exact ⟨z,its,r,ob,k _ _ (.inl rfl) e,c⟩
 | dK kvs=>obtain ⟨z,y,vs,r,ob,es,ep,e,c⟩:=x;exact ⟨z,y,vs,r,ob,es,ep,k _ _ (.inl rfl) e,c⟩
 | dT kvs=>
  obtain ⟨z,y,xs,r,ob,es,ep,e,c⟩:=x
  exact ⟨z,y,xs,Paired.mapP r fun p q z=>⟨z.1,ht _ _ z.2.1,z.2.2⟩,ob,es,ep,k _ _ (.inl rfl) e,c⟩
 | set S n=>obtain ⟨ob,es,ep,t,e,c⟩:=x;exact ⟨ob,es,ep,t,k _ _ (.inl rfl) e,c⟩
 | ins C dx fs=>
  obtain ⟨d,z,ne,e,mA,⟨od,es,ep,e2,c⟩,r⟩:=x
  exact ⟨ho _ d,z,ne,k _ _ (.inl rfl) e,mA,⟨od,es,ep,k _ _ (.inr d) e2,c⟩,r⟩
 | own y=>obtain ⟨ob,e⟩:=x;exact ⟨ob,k _ _ (.inl rfl) e⟩
 | xd fs=>obtain ⟨mA,⟨od,es,ep,e,c⟩,r⟩:=x;exact ⟨mA,⟨od,es,ep,k _ _ (.inl rfl) e,c⟩,r⟩
 | rng lo hi=>obtain ⟨t,u,v,e⟩:=x;exact ⟨t,u,v,k _ _ (.inl rfl) e⟩
 | frz ob u ih=>obtain ⟨e,q⟩:=x;exact ⟨k _ _ (.inl rfl) e,ih q⟩
 | tbl ps=>
  have e:h.get? a=some {cls:=.none,data:=.fields ps}:=x
  show h'.get? a=some {cls:=.none,data:=.fields ps}
  exact k a _ (.inl rfl) e
 | met f y=>
  have e:h.get? a=some (PySem.W.methodObj (.ref f) (.ref y)):=x
  show h'.get? a=some (PySem.W.methodObj (.ref f) (.ref y))
  exact k a _ (.inl rfl) e
 | ext φ =>obtain ⟨p,⟨o,e⟩,st⟩:=x;exact ⟨st _ _ p fun o q=>k _ _ (.inl rfl) q,⟨o,k _ _ (.inl rfl) e⟩,st⟩
theorem HOk.lt (x:HOk P w H h)(e:H a=some o):a < h.objs.size:=(x a o e).lt
theorem HOk.fresh (x:HOk P w H h)(e:h.objs.size≤a):H a=none:=by
 cases q:H a with
 | none=>rfl
 | some u=>exact absurd (Nat.lt_of_lt_of_le (x.lt q) e) (Nat.lt_irrefl _)
theorem HOk.kept (x:HOk P w H h)(k:∀ b u,h.get? b=some u→h'.get? b=some u):HOk P w H h':=fun a o e=>
 (x a o e).stay (fun b u _ q=>k b u q) (fun _ q=>q) fun _ _ q=>q
theorem HOk.laid (x:HOk P w H h)(k:∀ b u,h.get? b=some u→h'.get? b=some u)(hp:h.objs.size≤a)(new:zcB P w (upd H a o) h' a o):HOk P w (upd H a o) h':=fun b u e=>by
 have hn:=x.fresh hp
 by_cases hb:b=a
 ·subst hb;rw [zab] at e;cases e;exact new
 ·rw [zam hb] at e
  exact (x b u e).stay (fun c v _ q=>k c v q) (fun c q=>by rw [zam (zap q hn)];exact q) fun c xs q=>q.upd hn
end
noncomputable def Rd (H:Hp) (a:Addr) (u:HO):Prop:=H a=some u∨∃ o,H a=some (.frz o u)
theorem Rd.ok {P:Program}{w:World}{H:Hp}{h:Heap}{a:Addr}{u:HO}(r:Rd H a u)(x:HOk P w H h):zcB P w H h a u:=by
 rcases r with r | ⟨o,r⟩
 ·exact x a u r
 ·obtain ⟨_,q⟩:=x a _ r
  exact q
noncomputable def Mut:Option HO→Prop
 | some (.lst _)=>True
 | some (.dK _)=>True
 | some (.dT _)=>True
 | some (.set _ _)=>True
 | some (.ins _ _ _)=>True
 | some (.ext _)=>True
 | _=>False
section
variable {P:Program} {w:World} {H:Hp} {h h':Heap} {x e:Addr} {o':HO}
theorem HOk.write (ok:HOk P w H h)(mu:Mut (H x))(he:e=x∨H e=some (.own x))(k:∀ b u,b≠e→h.get? b=some u→h'.get? b=some u)(heo:∃ u,h'.get? e=some u)
  (new:zcB P w (upd H x o') h' x o'):HOk P w (upd H x o') h':=fun b u q=>by
 have nown:∀ c y,H c=some (.own y)→c≠x:=fun c y r z=>by subst z;rw [r] at mu;exact mu
 have ntup:∀ c xs,RdT H c xs→c≠x:=fun c xs r z=>by subst z;rcases r with r | ⟨_,r⟩ <;> (rw [r] at mu;exact mu)
 by_cases hb:b=x
 ·subst hb;rw [zab] at q;cases q;exact new
 ·rw [zam hb] at q
  by_cases hbe:b=e
  ·have q':H b=some (.own x):=by
    rcases he with z | z
    ·exact absurd (hbe.trans z) hb
    ·rw [hbe];exact z
   rw [q] at q';cases q'
   obtain ⟨v,hv⟩:=heo
   exact ⟨v,by rw [hbe];exact hv⟩
  ·refine (ok b u q).stay (fun c v hc r=>k c v ?_ r) (fun c r=>by rw [zam (nown c b r)];exact r) fun c xs r=>r.put (ntup c xs r)
   rcases hc with rfl | hc
   ·exact hbe
   ·rintro rfl
    rcases he with z | z
    ·exact nown c b hc z
    ·rw [hc] at z;cases z;exact hb rfl
end
structure Un (fs ex:List Addr) (H H':Hp) (h h':Heap):Prop where
 keep:∀ b o,h.get? b=some o→H b=none→b∉fs→b∉ex→h'.get? b=some o
 slot:∀ b o,h.get? b=some o→H b=none→b∈fs→b∉ex→∃ sl,h'.get? b=some {o with slots:=sl}
 free:∀ b o,h.get? b=some o→H b=none→b∉ex→H' b=none
 there:∀ b o,h.get? b=some o→b∉ex→∃ o',h'.get? b=some o'
 tups:∀ b xs,H b=some (.tup xs)→H' b=some (.tup xs)
 frzs:∀ b o u,H b=some (.frz o u)→H' b=some (.frz o u)
 tbls:∀ b ps,H b=some (.tbl ps)→∃ more,H' b=some (.tbl (ps++more))
section
variable {fs fs' ex ex':List Addr} {H H1 H2:Hp} {h h1 h2 h':Heap} {a x e:Addr} {o:HO}
theorem Un.any (u:Un fs ex H H1 h h1){b:Addr}{ob:Obj}(q:h.get? b=some ob)(n:H b=none)(hx:b∉ex):∃ sl,h1.get? b=some {ob with slots:=sl}:=by
 by_cases hb:b∈fs
 ·exact u.slot b ob q n hb hx
 ·exact ⟨ob.slots,u.keep b ob q n hb hx⟩
theorem Un.kept (k:∀ b u,h.get? b=some u→h'.get? b=some u):Un fs ex H H h h':=
 ⟨fun b ob q _ _ _=>k b ob q,fun b ob q _ _ _=>⟨ob.slots,k b ob q⟩,fun _ _ _ n _=>n,fun b ob q _=>⟨ob,k b ob q⟩,fun _ _ q=>q,fun _ _ _ q=>q,fun _ ps q=>⟨#[],by rw [q];simp⟩⟩
theorem Un.refl:Un fs ex H H h h:=Un.kept fun _ _ q=>q
theorem Un.laid (k:∀ b u,h.get? b=some u→h'.get? b=some u)(hp:h.objs.size≤a)(hn:H a=none):Un fs ex H (upd H a o) h h' where
 keep:=fun b u q _ _ _=>k b u q
 slot:=fun b u q _ _ _=>⟨u.slots,k b u q⟩
 free:=fun b u q n _=>by rw [zam (Nat.ne_of_lt (Nat.lt_of_lt_of_le (Heap.lt_size q) hp))];exact n
 there:=fun b u q _=>⟨u,k b u q⟩
 tups:=fun b xs q=>by rw [zam (zap q hn)];exact q
 frzs:=fun b u xs q=>by rw [zam (zap q hn)];exact q
 tbls:=fun b ps q=>⟨#[],by rw [zam (zap q hn),q];simp⟩
theorem Un.write (mu:Mut (H x))(he:e=x∨H e=some (.own x))(k:∀ b u,b≠e→h.get? b=some u→h'.get? b=some u)(heo:∃ u,h'.get? e=some u):Un fs ex H (upd H x o) h h':=by
 have hx:∀ b,H b=none→b≠x:=fun b n z=>by subst z;rw [n] at mu;exact mu
 have hb:∀ b,H b=none→b≠e:=fun b n z=>by
  subst z
  rcases he with r | r
  ·exact hx b n r
  ·rw [n] at r;cases r
 have hm:∀ b u,H b=some u→¬Mut (some u)→b≠x:=fun b u q nm z=>by subst z;rw [q] at mu;exact nm mu
 refine ⟨fun b u q n _ _=>k b u (hb b n) q,fun b u q n _ _=>⟨u.slots,k b u (hb b n) q⟩,fun b u q n _=>by rw [zam (hx b n)];exact n,fun b u q _=>?_,
  fun b xs q=>by rw [zam (hm b _ q fun z=>z)];exact q,fun b u xs q=>by rw [zam (hm b _ q fun z=>z)];exact q,fun b ps q=>⟨#[],by rw [zam (hm b _ q fun z=>z),q];simp⟩⟩
 by_cases hbe:b=e
 ·subst hbe;exact heo
 ·exact ⟨u,k b u hbe q⟩
end
noncomputable def trk (h:Heap) (H:Hp):List Addr:=(List.range h.objs.size).filter fun a=>(H a).isSome
noncomputable def hidT (h:Heap) (H:Hp):Heap:=PySem.W.hideAll h (trk h H)
theorem zlH (h:Heap)(H:Hp):(hidT h H).objs.size=h.objs.size:=PySem.W.hideAll_size _ _
theorem zmw {h:Heap}{H:Hp}{b:Addr}{o:Obj}(e:h.get? b=some o)(n:H b=none):(hidT h H).get? b=some o:=
 PySem.W.hideAll_get _ e fun hm=>by
  have q:(H b).isSome=true:=(List.mem_filter.mp hm).2
  rw [n] at q;simp at q
theorem znL {h:Heap}{H:Hp}{b:Addr}{o:Obj}(e:(hidT h H).get? b=some o):h.get? b=some o∧H b=none:=by
 have e':h.get? b=some o:=PySem.W.of_hideAll (trk h H) e
 refine ⟨e',?_⟩
 cases q:H b with
 | none=>rfl
 | some x=>
  have hm:b∈trk h H:=List.mem_filter.mpr ⟨List.mem_range.mpr (Heap.lt_size e'),by simp [q]⟩
  have z:(hidT h H).get? b=none:=PySem.W.hideAll_none (trk h H) hm
  rw [z] at e;cases e
noncomputable def zoc (g h:Heap) (L:Addr):List (Addr×Obj):=(List.range h.objs.size).filterMap fun a=>if a=L∨(g.get? a).isSome=true then none else (h.get? a).map fun o=>(a,o)
noncomputable def rest (g h:Heap) (L d:Addr):List (Addr×Obj):=(zoc g h L).filter fun p=>decide (p.1≠d)
end L2
namespace L2
open PySem PySem.Spec PyProof.Rows
structure Mod (K:PySem.W.Frag) (mg:Str→Option Value) (base:Heap):Prop where
 kin:K.In base
 glob:base.Ns mainGlobals mg
 blt:∃ mb,base.Ns builtinsNs mb∧∀ x:Str,x≠"__name__"→mb x=bootBuiltins x
 nolimit:base.NoLimit
structure Cx where
 prog:Program
 w:World
 K:PySem.W.Frag
 mg:Str→Option Value
 base:Heap
 A:Around
 N:List Str
 s₀ :Shared
 H₀ :Hp
 env:Env
 outer:List Env
 stack:List Env
 ex:List Addr
 fn:Str→Bool
 calm:Bool
 pn:List (Addr×Obj)
 xe:Value→Shared→Prop
noncomputable def frs (l:List Env):List Addr:=l.filterMap (·.frame)
noncomputable abbrev Cx.fs (X:Cx):List Addr:=frs X.outer
noncomputable def Vis (sc:Scope) (x:Str):Prop:=sc.names.lookup x=some .local∨sc.names.lookup x=some .cell∨sc.names.lookup x=some .free
noncomputable def Loc (sc:Scope) (x:Str):Prop:=sc.names.lookup x=some .local∨sc.names.lookup x=some .cell
noncomputable def Look (env:Env) (h:Heap) (m:Str→Option Value) (x:Str) (u:Value):Prop:=
 (env.kindOf x=some .local∧m x=some u)∨((env.kindOf x=some .cell∨env.kindOf x=some .free)∧∃ c,env.cells.lookup x=some c∧h.IsCell c (some u))
structure Cx.Ok (X:Cx):Prop where
 mod:Mod X.K X.mg X.base
 kind:X.env.scope.kind= .function
 glob:X.env.globals=mainGlobals
 blt:X.env.builtins=builtinsNs
 above:X.s₀.heap.objs.size≤X.env.locals
 inj:∀ x y c,X.env.cells.lookup x=some c→X.env.cells.lookup y=some c→x=y
 has:∀ x,(X.env.kindOf x=some .cell∨X.env.kindOf x=some .free)→∃ c,X.env.cells.lookup x=some c
 cab:∀ x c,X.fn x=true→X.env.cells.lookup x=some c→X.s₀.heap.objs.size≤c
 hd:X.calm=true→X.A.handled=none
 frames:X.A.frames=some X.stack
 stk:X.stack=X.outer∨(X.stack=X.env::X.outer∧X.env.frame=some X.env.locals)
 exf:∀ b∈X.ex,b≠X.env.locals∧∀ x c,X.env.cells.lookup x=some c→c≠b
 bs:∀ b o,X.base.get? b=some o→X.s₀.heap.get? b=some o∧X.H₀ b=none
 bsz:X.base.objs.size≤X.s₀.heap.objs.size
 noex:∀ b o,X.base.get? b=some o→b∉X.ex
 exfs:∀ b∈X.ex,b∉X.fs
 funs:X.s₀.heap.FunFrames X.base X.outer
 frf:∀ b∈X.fs,X.H₀ b=none
structure Inv (X:Cx) (pins:List (Addr×Obj)) (σ :List (Option V)) (H:Hp) (s:Shared):Prop where
 ok:X.Ok
 os:s.os=X.s₀.os
 bare:AllBare s.gens
 base:Un X.fs X.ex X.H₀ H X.s₀.heap s.heap
 loc:∃ m,s.heap.Ns X.env.locals m∧∀ (i:Nat) (x:Str) (v:V),X.N[i]? =some x→σ[i]? =some (some v)→Vis X.env.scope x→∃ u,RelV v u∧Look X.env s.heap m x u
 cell:∀ x c,X.env.cells.lookup x=some c→∃ v,s.heap.IsCell c v
 free:H X.env.locals=none
 freeC:∀ x c,X.env.cells.lookup x=some c→H c=none
 pin:∀ p∈X.pn++pins,s.heap.get? p.1=some p.2∧H p.1=none∧p.1≠X.env.locals∧p.1∉X.fs∧∀ v,p.2.data≠.cell v
 hok:HOk X.prog X.w H s.heap
 len: σ.length=X.N.length
section
variable {X:Cx} {pins:List (Addr×Obj)} {σ :List (Option V)} {H H':Hp} {s:Shared} {h':Heap}
theorem Cx.Ok.nofr (ok:X.Ok){b:Addr}{o:Obj}(e:X.base.get? b=some o):b∉X.fs:=fun hb=>by
 have:=(ok.funs.mem hb).1
 rw [e] at this;cases this
theorem Inv.bs (I:Inv X pins σ H s):∀ b o,X.base.get? b=some o→s.heap.get? b=some o∧H b=none:=fun b o e=>
 ⟨I.base.keep b o (I.ok.bs b o e).1 (I.ok.bs b o e).2 (I.ok.nofr e) (I.ok.noex b o e),I.base.free b o (I.ok.bs b o e).1 (I.ok.bs b o e).2 (I.ok.noex b o e)⟩
theorem Inv.bk (I:Inv X pins σ H s):∀ b o,X.base.get? b=some o→s.heap.get? b=some o:=fun b o e=>(I.bs b o e).1
theorem Inv.mod (I:Inv X pins σ H s):Mod X.K X.mg X.base:=I.ok.mod
theorem Inv.kIn (I:Inv X pins σ H s):X.K.In s.heap:=I.ok.mod.kin.keeps I.bk
theorem Inv.lt (I:Inv X pins σ H s):X.env.locals < s.heap.objs.size:=let ⟨_,hn,_⟩:=I.loc;hn.lt
theorem Inv.sz (I:Inv X pins σ H s):X.s₀.heap.objs.size≤s.heap.objs.size:=Nat.le_trans I.ok.above (Nat.le_of_lt I.lt)
theorem Inv.nofs (I:Inv X pins σ H s){a:Addr}(h:s.heap.objs.size≤a):a∉X.fs:=fun hb=>by
 obtain ⟨_,o,ho,_⟩:=I.ok.funs.mem hb
 exact absurd (Nat.lt_of_lt_of_le (Heap.lt_size ho) (Nat.le_trans I.sz h)) (Nat.lt_irrefl _)
theorem Inv.cne (I:Inv X pins σ H s):∀ x c,X.env.cells.lookup x=some c→c≠X.env.locals:=fun x c e z=>by
 obtain ⟨v,o,ho,hd⟩:=I.cell x c e
 obtain ⟨m,⟨o',es,ep,ho',hd',_⟩,_⟩:=I.loc
 rw [z,ho'] at ho;cases ho;rw [hd'] at hd;cases hd
theorem Inv.funs (I:Inv X pins σ H s):s.heap.FunFrames X.base X.outer:=by
 have all:∀ (l:List Env),(∀ b∈frs l,b∈X.fs)→X.s₀.heap.FunFrames X.base l→s.heap.FunFrames X.base l:=by
  intro l
  induction l with
  | nil=>intro _ _;trivial
  | cons env r ih=>
   intro hs hl
   obtain ⟨hk,⟨L,o,hf,hn,ho,hd⟩,hr⟩:=hl
   have hL:L∈X.fs:=hs L (by unfold frs;rw [List.filterMap_cons,hf];exact List.mem_cons_self)
   obtain ⟨sl,e⟩:=I.base.slot L o ho (I.ok.frf L hL) hL fun z=>I.ok.exfs L z hL
   exact ⟨hk,⟨L,_,hf,hn,e,hd⟩,ih (fun b hb=>hs b (by unfold frs;rw [List.filterMap_cons,hf];exact List.mem_cons_of_mem _ hb)) hr⟩
 exact all X.outer (fun _ hb=>hb) I.ok.funs
theorem Inv.stack (I:Inv X pins σ H s):s.heap.FunFrames X.base X.stack:=by
 rcases I.ok.stk with e | ⟨e,hf⟩
 ·rw [e];exact I.funs
 ·rw [e]
  obtain ⟨m,hn,_⟩:=I.loc
  refine .cons (by rw [I.ok.kind];decide) hf hn ?_ I.funs
  exact Heap.get?_none_of_le (Nat.le_trans I.ok.bsz I.ok.above)
theorem Inv.stkSub (I:Inv X pins σ H s):∀ b∈frs X.stack,b∈X.env.locals::X.fs:=fun b hb=>by
 rcases I.ok.stk with e | ⟨e,hf⟩
 ·rw [e] at hb;exact List.mem_cons_of_mem _ hb
 ·rw [e] at hb
  unfold frs at hb
  rw [List.filterMap_cons,hf] at hb
  exact hb
theorem Inv.stkFree (I:Inv X pins σ H s):∀ b∈frs X.stack,H b=none:=fun b hb=>by
 rcases List.mem_cons.mp (I.stkSub b hb) with e | hb
 ·rw [e];exact I.free
 ·obtain ⟨_,o,ho,_⟩:=I.ok.funs.mem hb
  exact I.base.free b o ho (I.ok.frf b hb) fun z=>I.ok.exfs b z hb
theorem Inv.step {g':Array GenState}{t':Nat}{d':Drawn}{ch:List Addr}(I:Inv X pins σ H s)
  (hch:∀ b∈ch,(b∈X.ex∨X.s₀.heap.objs.size≤b)∧b≠X.env.locals∧(∀ x c,X.env.cells.lookup x=some c→c≠b)∧∀ p∈X.pn++pins,p.1≠b)
  (keep:∀ b o,b≠X.env.locals→b∉X.fs→b∉ch→s.heap.get? b=some o→H b=none→h'.get? b=some o)
  (slot:∀ b o,b≠X.env.locals→b∈X.fs→b∉ch→s.heap.get? b=some o→H b=none→∃ sl,h'.get? b=some {o with slots:=sl}) (free:∀ b o,b∉ch→s.heap.get? b=some o→H b=none→H' b=none)
  (there:∀ b o,b∉ch→s.heap.get? b=some o→∃ o',h'.get? b=some o')
  (tups:∀ b xs,H b=some (.tup xs)→H' b=some (.tup xs)) (frzs:∀ b o u,H b=some (.frz o u)→H' b=some (.frz o u)) (tbls:∀ b ps,H b=some (.tbl ps)→∃ more,H' b=some (.tbl (ps++more)))
  (ns:∀ m,s.heap.Ns X.env.locals m→h'.Ns X.env.locals m) (hok:HOk X.prog X.w H' h') (hg:AllBare g'):
  Inv X pins σ H' {s with heap:=h',gens:=g',drawn:=d',toks:=t'}:=by
 have neL:∀ b o,X.s₀.heap.get? b=some o→b≠X.env.locals:=fun b o e=>Nat.ne_of_lt (Nat.lt_of_lt_of_le (Heap.lt_size e) I.ok.above)
 have neC:∀ b o,X.s₀.heap.get? b=some o→b∉X.ex→b∉ch:=fun b o e hx hb=>by
  rcases (hch b hb).1 with z | z
  ·exact hx z
  ·exact absurd (Nat.lt_of_lt_of_le (Heap.lt_size e) z) (Nat.lt_irrefl _)
 have cellK:∀ x c,X.env.cells.lookup x=some c→∀ v,s.heap.IsCell c v→h'.IsCell c v:=fun x c e v ⟨o,ho,hd⟩=>by
  have nch:c∉ch:=fun z=>(hch c z).2.2.1 x c e rfl
  by_cases hc:c∈X.fs
  ·obtain ⟨sl,q⟩:=slot c o (I.cne x c e) hc nch ho (I.freeC x c e)
   exact ⟨_,q,hd⟩
  ·exact ⟨o,keep c o (I.cne x c e) hc nch ho (I.freeC x c e),hd⟩
 refine ⟨I.ok,I.os,hg,⟨fun b o e n hb hx=>?_,fun b o e n hb hx=>?_,fun b o e n hx=>?_,fun b o e hx=>?_,fun b xs e=>tups b xs (I.base.tups b xs e),fun b o xs e=>frzs b o xs (I.base.frzs b o xs e),fun b ps e=>?_⟩,?_,fun x c e=>?_,?_,fun x c e=>?_,fun p hp=>?_,hok,I.len⟩
 ·exact keep b o (neL b o e) hb (neC b o e hx) (I.base.keep b o e n hb hx) (I.base.free b o e n hx)
 ·obtain ⟨sl,e1⟩:=I.base.slot b o e n hb hx
  obtain ⟨sl',e2⟩:=slot b _ (neL b o e) hb (neC b o e hx) e1 (I.base.free b o e n hx)
  exact ⟨sl',e2⟩
 ·obtain ⟨o',e1⟩:=I.base.there b o e hx
  exact free b o' (neC b o e hx) e1 (I.base.free b o e n hx)
 ·obtain ⟨o',e1⟩:=I.base.there b o e hx
  exact there b o' (neC b o e hx) e1
 ·obtain ⟨m1,e1⟩:=I.base.tbls b ps e
  obtain ⟨m2,e2⟩:=tbls b _ e1
  exact ⟨m1++m2,by rw [e2,Array.append_assoc]⟩
 ·obtain ⟨m,hn,hl⟩:=I.loc
  refine ⟨m,ns m hn,fun i x v e1 e2 e3=>?_⟩
  obtain ⟨u,r,l⟩:=hl i x v e1 e2 e3
  refine ⟨u,r,?_⟩
  rcases l with l | ⟨k,c,e,z⟩
  ·exact .inl l
  ·exact .inr ⟨k,c,e,cellK x c e _ z⟩
 ·obtain ⟨v,z⟩:=I.cell x c e
  exact ⟨v,cellK x c e v z⟩
 ·obtain ⟨m,⟨o,_,_,ho,_⟩,_⟩:=I.loc
  exact free _ o (fun z=>(hch _ z).2.1 rfl) ho I.free
 ·obtain ⟨v,o,ho,hd⟩:=I.cell x c e
  exact free c o (fun z=>(hch c z).2.2.1 x c e rfl) ho (I.freeC x c e)
 ·obtain ⟨e,n,ne,nf,d⟩:=I.pin p hp
  have nch:p.1∉ch:=fun z=>(hch p.1 z).2.2.2 p hp rfl
  exact ⟨keep p.1 p.2 ne nf nch e n,free p.1 p.2 nch e n,ne,nf,d⟩
theorem Inv.un {t':Nat}(I:Inv X pins σ H s)(u:Un X.fs [] H H' s.heap h')(hok:HOk X.prog X.w H' h'):Inv X pins σ H' {s with heap:=h',toks:=t'}:=by
 obtain ⟨m,⟨o,es,ep,ho,r⟩,_⟩:=id I.loc
 obtain ⟨sl,hL⟩:=u.any ho I.free (by simp)
 exact I.step (g':=s.gens) (d':=s.drawn) (ch:=[]) (fun _ z=>nomatch z) (fun b o _ hb _ e n=>u.keep b o e n hb (by simp)) (fun b o _ hb _ e n=>u.slot b o e n hb (by simp)) (fun b o _ e n=>u.free b o e n (by simp)) (fun b o _ e=>u.there b o e (by simp)) u.tups u.frzs u.tbls (fun m' hm=>by
  obtain ⟨o',es',ep',ho',r'⟩:=hm
  rw [ho] at ho';cases ho'
  exact ⟨_,es',ep',hL,r'⟩) hok I.bare
theorem Inv.call {g':Array GenState}{t':Nat}{d':Drawn}{ch:List Addr}(I:Inv X pins σ H s)(u:Un (frs X.stack) ch H H' s.heap h')(hok:HOk X.prog X.w H' h')(hg:AllBare g')
  (hch:∀ b∈ch,(b∈X.ex∨X.s₀.heap.objs.size≤b)∧b≠X.env.locals∧(∀ x c,X.env.cells.lookup x=some c→c≠b)∧∀ p∈X.pn++pins,p.1≠b):
  Inv X pins σ H' {s with heap:=h',gens:=g',drawn:=d',toks:=t'}:=by
 obtain ⟨m,⟨o,es,ep,ho,r⟩,_⟩:=id I.loc
 obtain ⟨sl,hL⟩:=u.any ho I.free fun z=>(hch _ z).2.1 rfl
 exact I.step (ch:=ch) hch (fun b o hL hb hc e n=>u.keep b o e n (fun z=>(List.mem_cons.mp (I.stkSub b z)).elim hL hb) hc) (fun b o _ _ hc e n=>u.any e n hc) (fun b o hc e n=>u.free b o e n hc) (fun b o hc e=>u.there b o e hc) u.tups u.frzs u.tbls (fun m' hm=>by
  obtain ⟨o',es',ep',ho',r'⟩:=hm
  rw [ho] at ho';cases ho'
  exact ⟨_,es',ep',hL,r'⟩) hok hg
theorem Inv.turned {t':Nat}{it:Addr}(I:Inv X pins σ H s)(k:∀ b o,b≠it→s.heap.get? b=some o→h'.get? b=some o)(hn:H it=none)(hL:it≠X.env.locals)
  (h1:it∈X.ex∨X.s₀.heap.objs.size≤it) (h2:∀ x c,X.env.cells.lookup x=some c→c≠it) (h3:∀ p∈X.pn++pins,p.1≠it):Inv X pins σ H {s with heap:=h',toks:=t'}:=by
 have nit:∀ b u,H b=some u→b≠it:=fun b u e z=>by rw [z,hn] at e;cases e
 refine I.step (g':=s.gens) (d':=s.drawn) (ch:=[it]) (fun b hb=>?_) (fun b o _ _ hc e _=>k b o (fun z=>hc (by simp [z])) e) (fun b o _ _ hc e _=>⟨o.slots,k b o (fun z=>hc (by simp [z])) e⟩) (fun _ _ _ _ n=>n)
  (fun b o hc e=>⟨o,k b o (fun z=>hc (by simp [z])) e⟩) (fun _ _ e=>e) (fun _ _ _ e=>e) (fun b ps e=>⟨#[],by rw [e];simp⟩) (fun m hm=>?_) (fun b u e=>?_) I.bare
 ·have e:b=it:=by simpa using hb
  subst e
  exact ⟨h1,hL,h2,h3⟩
 ·obtain ⟨o,es,ep,ho,r⟩:=hm
  exact ⟨o,es,ep,k _ o (Ne.symm hL) ho,r⟩
 ·refine (I.hok b u e).stay (fun c v hc q=>k c v ?_ q) (fun _ q=>q) fun _ _ q=>q
  rcases hc with z | z
  ·rw [z];exact nit b u e
  ·exact nit c _ z
theorem Inv.tok (I:Inv X pins σ H s)(t:Nat):Inv X pins σ H {s with toks:=t}:=I.un (h':=s.heap) (t':=t) Un.refl I.hok
theorem Inv.kept {t':Nat}(I:Inv X pins σ H s)(k:∀ b u,s.heap.get? b=some u→h'.get? b=some u):Inv X pins σ H {s with heap:=h',toks:=t'}:=I.un (Un.kept k) (I.hok.kept k)
theorem Inv.laid {a:Addr}{o:HO}{t':Nat}(I:Inv X pins σ H s)(k:∀ b u,s.heap.get? b=some u→h'.get? b=some u)(hp:s.heap.objs.size≤a)(new:zcB X.prog X.w (upd H a o) h' a o):
  Inv X pins σ (upd H a o) {s with heap:=h',toks:=t'}:=I.un (Un.laid k hp (I.hok.fresh hp)) (I.hok.laid k hp new)
theorem Inv.write {x e:Addr}{o:HO}{t':Nat}(I:Inv X pins σ H s)(mu:Mut (H x))(he:e=x∨H e=some (.own x))(k:∀ b u,b≠e→s.heap.get? b=some u→h'.get? b=some u)(heo:∃ u,h'.get? e=some u)
  (new:zcB X.prog X.w (upd H x o) h' x o):Inv X pins σ (upd H x o) {s with heap:=h',toks:=t'}:=I.un (Un.write mu he k heo) (I.hok.write mu he k heo new)
theorem Inv.weak {σ':List (Option V)}(I:Inv X pins σ H s)(hl: σ'.length= σ.length)(w:∀ (i:Nat) v,σ'[i]? =some (some v)→σ[i]? =some (some v)):Inv X pins σ' H s:=
 ⟨I.ok,I.os,I.bare,I.base,let ⟨m,hn,hl'⟩:=I.loc;⟨m,hn,fun i x v e1 e2 e3=>hl' i x v e1 (w i v e2) e3⟩,I.cell,I.free,I.freeC,I.pin,I.hok,hl.trans I.len⟩
theorem Inv.pins_of {pins':List (Addr×Obj)}(I:Inv X pins σ H s)(h:∀ p∈pins',s.heap.get? p.1=some p.2∧H p.1=none∧p.1≠X.env.locals∧p.1∉X.fs∧∀ v,p.2.data≠.cell v):Inv X pins' σ H s:=
 ⟨I.ok,I.os,I.bare,I.base,I.loc,I.cell,I.free,I.freeC,fun p hp=>(List.mem_append.mp hp).elim (fun z=>I.pin p (List.mem_append_left _ z)) (h p),I.hok,I.len⟩
theorem zj8 {N:List Str}(hN:N.Nodup){i j:Nat}{x:Str}(a:N[i]? =some x)(b:N[j]? =some x):i=j:=by
 obtain ⟨h1,e1⟩:=List.getElem?_eq_some_iff.mp a
 obtain ⟨h2,e2⟩:=List.getElem?_eq_some_iff.mp b
 exact (List.getElem_inj hN).mp (e1.trans e2.symm)
theorem zid {M:Model}{A:Around}{E:Value→Shared→Prop}{i:Nat}{x:Str}{v:V}{u:Value}{Q:Unit→Shared→Prop}(I:Inv X pins σ H s)(hN:X.N.Nodup)(hi:X.N[i]? =some x)(hx:Loc X.env.scope x)(r:RelV v u)
  (h:∀ s',Inv X pins (σ.set i (some v)) H s'→(∃ a,Heap.SameBut a s.heap s'.heap∧(a=X.env.locals∨X.env.cells.lookup x=some a))→Q () s') (hf:X.fn x=true∨X.env.scope.names.lookup x=some .local:=by first | exact .inl rfl | exact .inr rfl | assumption):wpAny M A (storeName X.env x u) Q E s:=by
 obtain ⟨m,hn,hl⟩:=id I.loc
 have hcls:(X.env.scope.kind== .class || (X.env.scope.kind== .module && X.env.locals !=X.env.globals))=false:=by rw [I.ok.kind];rfl
 have hiσ :i < σ.length:=by rw [I.len];exact (List.getElem?_eq_some_iff.mp hi).1
 have cne:=I.cne
 have tracked:∀ {a:Addr} {h':Heap},(∃ o,s.heap.get? a=some o∧H a=none)→Heap.SameBut a s.heap h'→HOk X.prog X.w H h':=fun {a h'} ha hs b ob e=>by
  obtain ⟨_,_,hfree⟩:=ha
  refine (I.hok b ob e).stay (fun c w' hc q=>(hs.2 c ?_).trans q) (fun _ q=>q) fun _ _ q=>q
  rintro rfl
  rcases hc with rfl | hc
  ·rw [hfree] at e;cases e
  ·rw [hfree] at hc;cases hc
 rcases hx with hk | hk
 ·refine wpAny_storeName_local hk hn (fun h' hn' hs=>?_) hcls
  obtain ⟨oL,_,_,hoL,_⟩:=id hn
  refine h _ ⟨I.ok,I.os,I.bare,⟨fun b o e n hb hx=>?_,fun b o e n hb hx=>?_,I.base.free,fun b o e hx=>?_,I.base.tups,I.base.frzs,I.base.tbls⟩,⟨_,hn',fun j y v' e1 e2 e3=>?_⟩,fun y c e=>?_,I.free,I.freeC,fun p hp=>?_,tracked ⟨oL,hoL,I.free⟩ hs,by simpa using I.len⟩ ⟨_,hs,.inl rfl⟩
  ·exact (hs.2 b (Nat.ne_of_lt (Nat.lt_of_lt_of_le (Heap.lt_size e) I.ok.above))).trans (I.base.keep b o e n hb hx)
  ·obtain ⟨sl,e1⟩:=I.base.slot b o e n hb hx
   exact ⟨sl,(hs.2 b (Nat.ne_of_lt (Nat.lt_of_lt_of_le (Heap.lt_size e) I.ok.above))).trans e1⟩
  ·obtain ⟨o',e1⟩:=I.base.there b o e hx
   exact ⟨o',(hs.2 b (Nat.ne_of_lt (Nat.lt_of_lt_of_le (Heap.lt_size e) I.ok.above))).trans e1⟩
  ·by_cases hj:j=i
   ·subst hj
    rw [hi] at e1;cases e1
    rw [List.getElem?_set_self hiσ] at e2
    cases e2
    exact ⟨u,r,.inl ⟨hk,by simp⟩⟩
   ·rw [List.getElem?_set_ne (Ne.symm hj)] at e2
    obtain ⟨u',r',q⟩:=hl j y v' e1 e2 e3
    refine ⟨u',r',?_⟩
    rcases q with ⟨k,e⟩ | ⟨k,c,e,z⟩
    ·refine .inl ⟨k,?_⟩
     have:y≠x:=fun e=>hj (zj8 hN e1 (e ▸ hi))
     simp [this,e]
    ·exact .inr ⟨k,c,e,z.sameBut hs (cne y c e)⟩
  ·obtain ⟨w',z⟩:=I.cell y c e
   exact ⟨w',z.sameBut hs (cne y c e)⟩
  ·obtain ⟨e,n,ne,nf,d⟩:=I.pin p hp
   exact ⟨(hs.2 p.1 ne).trans e,n,ne,nf,d⟩
 ·have hfn:X.fn x=true:=by
   rcases hf with z | z
   ·exact z
   ·rw [z] at hk;cases hk
  obtain ⟨c,hc⟩:=I.ok.has x (.inl hk)
  obtain ⟨w',z⟩:=I.cell x c hc
  refine wpAny_storeName_cell I.ok.kind hk hc z (fun h' hc' hs=>?_)
  obtain ⟨oc,hoc,hocd⟩:=id z
  refine h {s with heap:=h'} ⟨I.ok,I.os,I.bare,⟨fun b o e n hb hx=>?_,fun b o e n hb hx=>?_,I.base.free,fun b o e hx=>?_,I.base.tups,I.base.frzs,I.base.tbls⟩,⟨m,hn.sameBut hs (Ne.symm (cne x c hc)),fun j y v' e1 e2 e3=>?_⟩,fun y c' e=>?_,I.free,I.freeC,fun p hp=>?_,tracked ⟨oc,hoc,I.freeC x c hc⟩ hs,by simpa using I.len⟩ ⟨c,hs,.inr hc⟩
  ·exact (hs.2 b (Nat.ne_of_lt (Nat.lt_of_lt_of_le (Heap.lt_size e) (I.ok.cab x c hfn hc)))).trans (I.base.keep b o e n hb hx)
  ·obtain ⟨sl,e1⟩:=I.base.slot b o e n hb hx
   exact ⟨sl,(hs.2 b (Nat.ne_of_lt (Nat.lt_of_lt_of_le (Heap.lt_size e) (I.ok.cab x c hfn hc)))).trans e1⟩
  ·obtain ⟨o',e1⟩:=I.base.there b o e hx
   exact ⟨o',(hs.2 b (Nat.ne_of_lt (Nat.lt_of_lt_of_le (Heap.lt_size e) (I.ok.cab x c hfn hc)))).trans e1⟩
  ·by_cases hj:j=i
   ·subst hj
    rw [hi] at e1;cases e1
    rw [List.getElem?_set_self hiσ] at e2
    cases e2
    exact ⟨u,r,.inr ⟨.inl hk,c,hc,hc'⟩⟩
   ·rw [List.getElem?_set_ne (Ne.symm hj)] at e2
    obtain ⟨u',r',q⟩:=hl j y v' e1 e2 e3
    refine ⟨u',r',?_⟩
    rcases q with q | ⟨k,c',e,z'⟩
    ·exact .inl q
    ·refine .inr ⟨k,c',e,z'.sameBut hs ?_⟩
     rintro rfl
     exact hj (zj8 hN e1 (I.ok.inj _ _ _ e hc ▸ hi))
  ·by_cases hcc:c'=c
   ·subst hcc;exact ⟨_,hc'⟩
   ·obtain ⟨w2,z2⟩:=I.cell y c' e
    exact ⟨w2,z2.sameBut hs hcc⟩
  ·obtain ⟨e,n,ne,nf,d⟩:=I.pin p hp
   refine ⟨(hs.2 p.1 ?_).trans e,n,ne,nf,d⟩
   intro q
   rw [q,hoc] at e
   have q':oc=p.2:=Option.some.inj e
   exact d w' (by rw [← q'];exact hocd)
theorem zkd {M:Model}{A:Around}{E:Value→Shared→Prop}{i:Nat}{x:Str}{v:V}{u:Value}{Q:Unit→Shared→Prop}(I:Inv X pins σ H s)(hN:X.N.Nodup)(hi:X.N[i]? =some x)(hx:Loc X.env.scope x)(r:RelV v u)
  (h:∀ s',Inv X pins (σ.set i (some v)) H s'→Q () s') (hf:X.fn x=true∨X.env.scope.names.lookup x=some .local:=by first | exact .inl rfl | exact .inr rfl | assumption):wpAny M A (storeName X.env x u) Q E s:=
 zid I hN hi hx r (fun s' I' _=>h s' I') hf
theorem Inv.call' {s':Shared}{ch:List Addr}(I:Inv X pins σ H s)(ho:s'.os=s.os)(u:Un (frs X.stack) ch H H' s.heap s'.heap)(hok:HOk X.prog X.w H' s'.heap)(hg:AllBare s'.gens)
  (hch:∀ b∈ch,(b∈X.ex∨X.s₀.heap.objs.size≤b)∧b≠X.env.locals∧(∀ x c,X.env.cells.lookup x=some c→c≠b)∧∀ p∈X.pn++pins,p.1≠b):Inv X pins σ H' s':=by
 obtain ⟨h',g',d',t',o'⟩:=s'
 have e:o'=s.os:=ho
 subst e
 exact I.call (g':=g') (t':=t') (d':=d') u hok hg hch
end
noncomputable abbrev XK:=Value→Option Addr→Hp→Prop
noncomputable abbrev St:=List (Option V)
noncomputable abbrev VK:=V→Hp→Prop
noncomputable abbrev TE:=St→Hp→VK→Prop
noncomputable abbrev TT:=St→Hp→(Bool→Hp→Prop)→Prop
noncomputable abbrev TA:=St→Hp→(List V→Hp→Prop)→Prop
structure Ends where
 nx:St→Hp→Prop
 rt:VK
 bk:St→Hp→Prop:=fun _ _=>False
 ct:St→Hp→Prop:=fun _ _=>False
noncomputable abbrev TS:=Ends→St→Hp→Prop
noncomputable def EP (X:Cx) (pins:List (Addr×Obj)) (σ :St) (Q:VK) (u:Value) (s':Shared):Prop:=∃ v H',Inv X pins σ H' s'∧RelV v u∧Q v H'
noncomputable def TP (X:Cx) (pins:List (Addr×Obj)) (σ :St) (Q:Bool→Hp→Prop) (b:Bool) (s':Shared):Prop:=∃ H',Inv X pins σ H' s'∧Q b H'
noncomputable def AP (X:Cx) (pins:List (Addr×Obj)) (σ :St) (Q:List V→Hp→Prop) (us:List Value) (s':Shared):Prop:=∃ vs H',Inv X pins σ H' s'∧Vals vs us∧Q vs H'
noncomputable def SP (X:Cx) (pins:List (Addr×Obj)) (D:Ends) (f:Flow) (s':Shared):Prop:=
 match f with
 | .next=>∃ σ' H',Inv X pins σ' H' s'∧D.nx σ' H'
 | .brk=>∃ σ' H',Inv X pins σ' H' s'∧D.bk σ' H'
 | .cont=>∃ σ' H',Inv X pins σ' H' s'∧D.ct σ' H'
 | .ret u=>∃ v σ' H',Inv X pins σ' H' s'∧RelV v u∧D.rt v H'
noncomputable def PE (X:Cx) (e:Expr) (t:TE):Prop:=
 ∀ (pins:List (Addr×Obj)) (s:Shared) (σ :St) (H:Hp) (Q:VK),Inv X pins σ H s→t σ H Q→wpAny (model X.prog X.w) X.A (eval e X.env) (EP X pins σ Q) X.xe s
noncomputable def PT (X:Cx) (e:Expr) (t:TT):Prop:=
 ∀ (pins:List (Addr×Obj)) (s:Shared) (σ :St) (H:Hp) (Q:Bool→Hp→Prop),Inv X pins σ H s→t σ H Q→wpAny (model X.prog X.w) X.A (isTrue e X.env (eval e X.env)) (TP X pins σ Q) X.xe s
noncomputable def PW (X:Cx) (e:Expr) (t:TT):Prop:=
 ∀ (zeY:Sem Value) (pins:List (Addr×Obj)) (s:Shared) (σ :St) (H:Hp) (Q:Bool→Hp→Prop),Inv X pins σ H s→t σ H Q→wpAny (model X.prog X.w) X.A (isTrue e X.env zeY) (TP X pins σ Q) X.xe s
theorem PW.pt {X:Cx}{e:Expr}{t:TT}(h:PW X e t):PT X e t:=h _
noncomputable def PA (X:Cx) (es:List Expr) (t:TA):Prop:=
 ∀ (pos:Pos) (pins:List (Addr×Obj)) (s:Shared) (σ :St) (H:Hp) (Q:List V→Hp→Prop),Inv X pins σ H s→t σ H Q→wpAny (model X.prog X.w) X.A (spliced (backTo pos (starEach es X.env))) (AP X pins σ Q) X.xe s
noncomputable def PS (X:Cx) (st:Stmt) (t:TS):Prop:=
 ∀ (pins:List (Addr×Obj)) (s:Shared) (σ :St) (H:Hp) (D:Ends),Inv X pins σ H s→t D σ H→wpAny (model X.prog X.w) X.A (exec st X.env) (SP X pins D) X.xe s
noncomputable def PSs (X:Cx) (st:List Stmt) (t:TS):Prop:=
 ∀ (pins:List (Addr×Obj)) (s:Shared) (σ :St) (H:Hp) (D:Ends),Inv X pins σ H s→t D σ H→wpAny (model X.prog X.w) X.A (execs st X.env) (SP X pins D) X.xe s
theorem thn {α :Type}{t:Sem α}{Q Q': α→Shared→Prop}{M:Model}{A:Around}{E:Value→Shared→Prop}{s:Shared}(h:wpAny M A t Q E s)(hQ:∀ a s,Q a s→Q' a s):wpAny M A t Q' E s:=wpAny_mono h hQ fun _ _ x=>x
end L2
namespace L2
open PySem PySem.Spec PyProof.Rows
section
variable {X:Cx}
noncomputable def tVar (i:Nat):TE:=fun σ H Q=>∃ v,σ[i]? =some (some v)∧Q v H
noncomputable def tC (v:V):TE:=fun _ H Q=>Q v H
theorem znr {i:Nat}{x:Str}{pos:Pos}(hN:X.N[i]? =some x)(hv:Vis X.env.scope x)(hd:(x==("__debug__" :Str))=false:=by decide)(hcd:(x==("__classdict__" :Str))=false:=by decide):PE X (.Name x pos) (tVar i):=by
 intro pins s σ H Q I h
 obtain ⟨v,e,h⟩:=h
 obtain ⟨m,hn,hl⟩:=I.loc
 obtain ⟨u,r,l⟩:=hl i x v hN e hv
 have fin:EP X pins σ Q u s:=⟨v,H,I,r,h⟩
 rcases l with ⟨hk,hm⟩ | ⟨hk,c,hc,hcell⟩
 ·exact wpAny_Name (wpAny_loadName_local I.ok.kind hk hn hm fin) hd
 ·rcases hk with hk | hk
  ·exact wpAny_Name (wpAny_loadName_cell I.ok.kind hk hc hcell fin) hd
  ·exact wpAny_Name (wpAny_loadName_free I.ok.kind hk hc hcell fin hcd) hd
theorem pe_int {i j pos}:PE X (.Constant (.int i) j pos) (tC (.int i)):=fun _ _ _ H _ I h=>wpAny_Constant_int ⟨.int i,H,I.tok _,⟨_,rfl⟩,h⟩
theorem pe_bl {b j pos}:PE X (.Constant (.bool b) j pos) (tC (.bl b)):=fun _ _ _ H _ I h=>Constant_bool ⟨.bl b,H,I,rfl,h⟩
theorem pe_non {j pos}:PE X (.Constant .none j pos) (tC .non):=fun _ _ _ H _ I h=>Constant_none ⟨.non,H,I,rfl,h⟩
theorem pe_str {x j pos}:PE X (.Constant (.str x) j pos) (tC (.str x)):=fun _ _ _ H _ I h=>Calls.Constant_str ⟨.str x,H,I.tok _,⟨_,rfl⟩,h⟩
noncomputable def Gl (X:Cx) (x:Str):Prop:=X.env.kindOf x=some .globalImplicit
theorem zk5 {E:Value→Shared→Prop}{pins:List (Addr×Obj)}{s:Shared}{σ :St}{H:Hp}{x:Str}{u:Value}{pos:Pos}{Q:Value→Shared→Prop}(I:Inv X pins σ H s)(hg:Gl X x)(hm:X.mg x=some u)(h:Q u s)
  (hd:(x==("__debug__" :Str))=false:=by decide):wpAny (model X.prog X.w) X.A (eval (.Name x pos) X.env) Q E s:=
 Calls.Name_function_global I.ok.kind hg (Calls.loadGlobal_global (by rw [I.ok.glob];exact I.mod.glob.keeps I.bk) hm h) hd
theorem zgD {E:Value→Shared→Prop}{pins:List (Addr×Obj)}{s:Shared}{σ :St}{H:Hp}{x:Str}{u:Value}{pos:Pos}{Q:Value→Shared→Prop}(I:Inv X pins σ H s)(hg:Gl X x)(hm:X.mg x=none)(hv:bootBuiltins x=some u)(h:Q u s)
  (hn:x≠"__name__" :=by decide) (hd:(x==("__debug__" :Str))=false:=by decide):wpAny (model X.prog X.w) X.A (eval (.Name x pos) X.env) Q E s:=by
 obtain ⟨mb,h1,h2⟩:=I.mod.blt
 exact Calls.Name_function_global I.ok.kind hg (Calls.loadGlobal_builtin (by rw [I.ok.glob];exact I.mod.glob.keeps I.bk) hm (by rw [I.ok.blt];exact h1.keeps I.bk) ((h2 x hn).trans hv) h) hd
theorem zoF {x:Str}{v:V}{u:Value}{pos:Pos}(hg:Gl X x)(hm:X.mg x=some u)(r:RelV v u)(hd:(x==("__debug__" :Str))=false:=by decide):PE X (.Name x pos) (tC v):=
 fun _ _ _ H _ I h=>zk5 I hg hm ⟨v,H,I,r,h⟩ hd
variable {a b:Expr} {ta tb:TE} {pos:Pos}
noncomputable def PC (X:Cx) (op:CmpOp) (a b:Expr) (t:TE):Prop:=
 ∀ (pins:List (Addr×Obj)) (s:Shared) (σ :St) (H:Hp) (Q:VK),Inv X pins σ H s→t σ H Q→
  wpAny (model X.prog X.w) X.A (eval a X.env) (fun v s₁ =>wpAny (model X.prog X.w) X.A (eval b X.env) (fun u s₂ =>wpAny (model X.prog X.w) X.A (compareOp op v u) (EP X pins σ Q) X.xe s₂) X.xe s₁) X.xe s
theorem zf2 (b:Expr){op:CmpOp}(h:op≠.In)(h2:op≠.NotIn):behindInMarks op b=false:=by
 have e1:(op==CmpOp.In)=false:=by cases op <;> first | rfl | exact absurd rfl h
 have e2:(op==CmpOp.NotIn)=false:=by cases op <;> first | rfl | exact absurd rfl h2
 cases b <;> simp [behindInMarks,e1,e2]
noncomputable def tIsN (ta:TE):TE:=fun σ H Q=>ta σ H fun x H1=>Q (.bl (decide (x= .non))) H1
noncomputable def tNotN (ta:TE):TE:=fun σ H Q=>ta σ H fun x H1=>Q (.bl (!decide (x= .non))) H1
theorem RelV.none_iff {x:V}{v:Value}(r:RelV x v):(v==Value.none)=decide (x= .non):=by
 cases x with
 | non=>cases r;rfl
 | bl _=>cases r;rfl
 | int _=>obtain ⟨t,rfl⟩:=r;rfl
 | str _=>obtain ⟨t,rfl⟩:=r;rfl
 | byt _=>obtain ⟨t,rfl⟩:=r;rfl
 | flt _=>obtain ⟨t,rfl⟩:=r;rfl
 | ref _=>cases r;rfl
 | ty _=>cases r;rfl
theorem pc_isN {j pos'}(ha:PE X a ta):PC X .Is a (.Constant .none j pos') (tIsN ta):=by
 intro pins s σ H Q I h
 refine thn (ha pins s σ H _ I h) fun v s1 ⟨x,H1,I1,r1,q1⟩=>?_
 exact Constant_none (is_none_gen ⟨.bl _,H1,I1,by rw [r1.none_iff];rfl,q1⟩)
theorem zoi {j pos'}(ha:PE X a ta):PC X .IsNot a (.Constant .none j pos') (tNotN ta):=by
 intro pins s σ H Q I h
 refine thn (ha pins s σ H _ I h) fun v s1 ⟨x,H1,I1,r1,q1⟩=>?_
 exact Constant_none (isnot_none_gen ⟨.bl _,H1,I1,by rw [r1.none_iff];rfl,q1⟩)
noncomputable def tB (t:TE):TT:=fun σ H Q=>t σ H fun x H1=>∃ c,x= .bl c∧Q c H1
theorem pe_cmp {op:CmpOp}{t:TE}(h:PC X op a b t)(h1:behindInMarks op b=false:=by first | exact zf2 _ (by decide) (by decide) | rfl):PE X (.Compare a [op] [b] pos) t:=fun pins s σ H Q I hw=>wpAny_Compare1 (h pins s σ H Q I hw) h1
theorem pt_cmp {op:CmpOp}{t:TE}(h:PC X op a b t)(h1:behindInMarks op b=false:=by first | exact zf2 _ (by decide) (by decide) | rfl):PT X (.Compare a [op] [b] pos) (tB t):=by
 intro pins s σ H Q I hw
 refine wpAny_isTrue_Compare1 (thn (h pins s σ H _ I hw) fun v s1 h1=>thn h1 fun u s2 h2=>thn h2 fun c s3 ⟨x,H1,I1,r1,q1⟩=>?_) h1
 obtain ⟨d,rfl,q⟩:=q1
 cases r1
 exact wpAny_truthy_bool ⟨H1,I1,q⟩
theorem pt_val {e:Expr}{t:TE}(h:PE X e t)(he:∀ zeY,isTrue e X.env zeY=(do let v ← zeY;standAt e.pos;holding [v] (truthy v)):=by intro _;rfl):PT X e (tB t):=by
 intro pins s σ H Q I hw
 refine isTrue_plain (thn (h pins s σ H _ I hw) fun v s1 ⟨x,H1,I1,r1,q1⟩=>?_) (he _)
 obtain ⟨d,rfl,q⟩:=q1
 cases r1
 exact wpAny_truthy_bool ⟨H1,I1,q⟩
variable {tA tB':TT} {rest:List Expr}
noncomputable def tAnd (t u:TT):TT:=fun σ H Q=>t σ H fun c H1=>if c=true then u σ H1 Q else Q false H1
noncomputable def tOr (t u:TT):TT:=fun σ H Q=>t σ H fun c H1=>if c=true then Q true H1 else u σ H1 Q
theorem zon (ha:PT X a tA):PW X (.BoolOp .And [a] pos) tA:=by
 intro wh pins s σ H Q I h
 refine isTrue_and (thn (ha pins s σ H Q I h) fun c s1 e=>?_)
 cases c with
 | true=>exact isTrue_and_nil e
 | false=>exact e
theorem pw_or1 (ha:PT X a tA):PW X (.BoolOp .Or [a] pos) tA:=by
 intro wh pins s σ H Q I h
 refine isTrue_or (thn (ha pins s σ H Q I h) fun c s1 e=>?_)
 cases c with
 | false=>exact isTrue_or_nil e
 | true=>exact e
theorem pw_and (ha:PT X a tA)(hb:PW X (.BoolOp .And (b::rest) pos) tB'):PW X (.BoolOp .And (a::b::rest) pos) (tAnd tA tB'):=by
 intro wh pins s σ H Q I h
 refine isTrue_and (thn (ha pins s σ H _ I h) fun c s1 ⟨H1,I1,q1⟩=>?_)
 cases c with
 | true=>exact hb wh pins s1 σ H1 Q I1 q1
 | false=>exact ⟨H1,I1,q1⟩
theorem pw_or (ha:PT X a tA)(hb:PW X (.BoolOp .Or (b::rest) pos) tB'):PW X (.BoolOp .Or (a::b::rest) pos) (tOr tA tB'):=by
 intro wh pins s σ H Q I h
 refine isTrue_or (thn (ha pins s σ H _ I h) fun c s1 ⟨H1,I1,q1⟩=>?_)
 cases c with
 | true=>exact ⟨H1,I1,q1⟩
 | false=>exact hb wh pins s1 σ H1 Q I1 q1
noncomputable def tNotV (ta:TE):TE:=fun σ H Q=>ta σ H fun x H1=>∃ c,x= .bl c∧Q (.bl (!c)) H1
theorem pe_not (ha:PE X a ta):PE X (.UnaryOp .Not a pos) (tNotV ta):=by
 intro pins s σ H Q I h
 refine UnaryOp_ (thn (ha pins s σ H _ I h) fun v s1 ⟨x,H1,I1,r1,q1⟩=>?_)
 obtain ⟨c,rfl,q1⟩:=q1
 cases r1
 exact not_of (wpAny_truthy_bool ⟨.bl (!c),H1,I1,rfl,q1⟩)
noncomputable def tIf (t:TT) (ta tb:TE):TE:=fun σ H Q=>t σ H fun c H1=>if c=true then ta σ H1 Q else tb σ H1 Q
theorem zmM {c:Expr}(hc:PT X c tA)(ha:PE X a ta)(hb:PE X b tb):PE X (.IfExp c a b pos) (tIf tA ta tb):=by
 intro pins s σ H Q I h
 refine wpAny_IfExp (thn (hc pins s σ H _ I h) fun d s1 ⟨H1,I1,q1⟩=>?_)
 cases d with
 | true=>exact ha pins s1 σ H1 Q I1 q1
 | false=>exact hb pins s1 σ H1 Q I1 q1
end
end L2
namespace L2
open PySem PySem.Spec PyProof.Rows
noncomputable def SqL (K:PySem.W.Frag) (H:Hp) (a:Addr) (xs:List V):Prop:=
 Rd H a (.lst xs)∨
  ∃ (o:Obj) (its:Array Value) (n:Nat),K.lookup a=some o∧o.cls= .type "list"∧o.dict=none∧o.data= .seq its n∧its.size≤sizeLine∧Vals xs its.toList
noncomputable def SqT (K:PySem.W.Frag) (H:Hp) (a:Addr) (xs:List V):Prop:=
 Rd H a (.tup xs)∨
  ∃ (o:Obj) (its:Array Value) (n:Nat),K.lookup a=some o∧o.cls= .type "tuple"∧o.data= .seq its n∧its.size≤sizeLine∧Vals xs its.toList
noncomputable def absV:Value→Option V
 | .none=>some .non
 | .bool b=>some (.bl b)
 | .int i _=>some (.int i)
 | .str x _=>some (.str x)
 | .bytes b _=>some (.byt b)
 | .float b _=>some (.flt b)
 | .ref a=>some (.ref a)
 | .type n=>some (.ty n)
 | _=>none
theorem RelV.abs {x:V}{u:Value}(r:RelV x u):absV u=some x:=by
 cases x with
 | non=>cases r;rfl
 | bl _=>cases r;rfl
 | int _=>obtain ⟨t,rfl⟩:=r;rfl
 | str _=>obtain ⟨t,rfl⟩:=r;rfl
 | byt _=>obtain ⟨t,rfl⟩:=r;rfl
 | flt _=>obtain ⟨t,rfl⟩:=r;rfl
 | ref _=>cases r;rfl
 | ty _=>cases r;rfl
theorem RelV.inj {x y:V}{u:Value}(r:RelV x u)(q:RelV y u):x=y:=Option.some.inj (r.abs.symm.trans q.abs)
theorem Vals.inj:∀ {xs ys:List V} {us:List Value},Vals xs us→Vals ys us→xs=ys
 | _,_,_,.nil,.nil=>rfl
 | _,_,_,.cons r t,.cons r' t'=>by rw [r.inj r',Vals.inj t t']
section
variable {X:Cx} {pins:List (Addr×Obj)} {σ :St} {H:Hp} {s:Shared} {a:Addr} {xs ys:List V}
theorem SqL.of {K:PySem.W.Frag}(h:H a=some (.lst xs)):SqL K H a xs:=.inl (.inl h)
theorem SqT.of {K:PySem.W.Frag}(h:H a=some (.tup xs)):SqT K H a xs:=.inl (.inl h)
theorem Inv.list (I:Inv X pins σ H s)(h:SqL X.K H a xs):∃ its:List Value,Vals xs its∧PlainL s.heap a its.toArray∧xs.length≤sizeLine:=by
 rcases h with h | ⟨o,its,n,hk,hc,hd,hs,hz,r⟩
 ·obtain ⟨z,its,n,r,e⟩:=h.ok I.hok
  exact ⟨its,r,⟨_,n,e,rfl,rfl,rfl⟩,z⟩
 ·refine ⟨its.toList,r,⟨o,n,I.kIn a o hk,hc,hd,by simpa using hs⟩,?_⟩
  have e:=r.length
  simp only [Array.length_toList] at e
  omega
theorem Inv.tuple (I:Inv X pins σ H s)(h:SqT X.K H a xs):∃ its:List Value,Vals xs its∧IsTup s.heap a its.toArray∧xs.length≤sizeLine:=by
 rcases h with h | ⟨o,its,n,hk,hc,hs,hz,r⟩
 ·obtain ⟨z,its,r,p⟩:=h.ok I.hok
  exact ⟨its,r,p,z⟩
 ·refine ⟨its.toList,r,⟨o,I.kIn a o hk,hc,n,by simpa using hs⟩,?_⟩
  have e:=r.length
  simp only [Array.length_toList] at e
  omega
theorem Inv.list_inj (I:Inv X pins σ H s)(h:SqL X.K H a xs)(h':SqL X.K H a ys):xs=ys:=by
 obtain ⟨its,r,⟨o,n,e,_,_,d⟩,_⟩:=I.list h
 obtain ⟨its',r',⟨o',n',e',_,_,d'⟩,_⟩:=I.list h'
 rw [e] at e';cases e'
 rw [d] at d'
 injection d' with d1 _
 have:its=its':=by simpa using congrArg Array.toList d1
 subst this
 exact r.inj r'
theorem Inv.tuple_inj (I:Inv X pins σ H s)(h:SqT X.K H a xs)(h':SqT X.K H a ys):xs=ys:=by
 obtain ⟨its,r,⟨o,e,_,n,d⟩,_⟩:=I.tuple h
 obtain ⟨its',r',⟨o',e',_,n',d'⟩,_⟩:=I.tuple h'
 rw [e] at e';cases e'
 rw [d] at d'
 injection d' with d1 _
 have:its=its':=by simpa using congrArg Array.toList d1
 subst this
 exact r.inj r'
end
noncomputable abbrev Cx.wish (X:Cx) (E:Value→Shared→Prop):Cx:={X with xe:=E}
noncomputable abbrev Cx.nox (X:Cx):Cx:=X.wish fun _ _=>False
theorem Cx.Ok.wish {X:Cx}(ok:X.Ok)(E:Value→Shared→Prop):(X.wish E).Ok:=
 ⟨ok.mod,ok.kind,ok.glob,ok.blt,ok.above,ok.inj,ok.has,ok.cab,ok.hd,ok.frames,ok.stk,ok.exf,ok.bs,ok.bsz,ok.noex,ok.exfs,ok.funs,ok.frf⟩
theorem Cx.Ok.unwish {X:Cx}{E:Value→Shared→Prop}(ok:(X.wish E).Ok):X.Ok:=
 ⟨ok.mod,ok.kind,ok.glob,ok.blt,ok.above,ok.inj,ok.has,ok.cab,ok.hd,ok.frames,ok.stk,ok.exf,ok.bs,ok.bsz,ok.noex,ok.exfs,ok.funs,ok.frf⟩
section
variable {X:Cx} {pins:List (Addr×Obj)} {σ :St} {H:Hp} {s:Shared} {E:Value→Shared→Prop}
theorem Inv.wish (I:Inv X pins σ H s)(E:Value→Shared→Prop):Inv (X.wish E) pins σ H s:=⟨I.ok.wish E,I.os,I.bare,I.base,I.loc,I.cell,I.free,I.freeC,I.pin,I.hok,I.len⟩
theorem Inv.unwish (I:Inv (X.wish E) pins σ H s):Inv X pins σ H s:=⟨I.ok.unwish,I.os,I.bare,I.base,I.loc,I.cell,I.free,I.freeC,I.pin,I.hok,I.len⟩
theorem SP.unwish {D:Ends}{f:Flow}{s':Shared}(h:SP (X.wish E) pins D f s'):SP X pins D f s':=by
 cases f with
 | next=>obtain ⟨σ',H',I,q⟩:=h;exact ⟨σ',H',I.unwish,q⟩
 | brk=>obtain ⟨σ',H',I,q⟩:=h;exact ⟨σ',H',I.unwish,q⟩
 | cont=>obtain ⟨σ',H',I,q⟩:=h;exact ⟨σ',H',I.unwish,q⟩
 | ret u=>obtain ⟨v,σ',H',I,r,q⟩:=h;exact ⟨v,σ',H',I.unwish,r,q⟩
theorem PSs.nox {st:List Stmt}{t:TS}(h:PSs X.nox st t):PSs X st t:=fun pins s σ H D I hw=>
 wpAny_mono (h pins s σ H D (I.wish _) hw) (fun _ _ q=>q.unwish) fun _ _ z=>False.elim z
end
section
variable {X:Cx} {st:Stmt} {rest:List Stmt} {t u:TS} {e:Expr} {te:TE} {pos:Pos}
noncomputable def tNext:TS:=fun D σ H=>D.nx σ H
noncomputable def tSeq (t u:TS):TS:=fun D σ H=>t {D with nx:=u D} σ H
theorem znK:PSs X [] tNext:=fun _ _ σ H _ I h=>wpAny_execs_nil ⟨σ,H,I,h⟩
theorem zmt (h1:PS X st t)(h2:PSs X rest u):PSs X (st::rest) (tSeq t u):=by
 intro pins s σ H D I h
 refine wpAny_execs_cons (thn (h1 pins s σ H {D with nx:=u D} I h) fun f s1 q=>?_)
 cases f with
 | next=>
  obtain ⟨σ',H',I',q⟩:=q
  exact h2 pins s1 σ' H' D I' q
 | ret v=>exact q
 | brk=>exact q
 | cont=>exact q
theorem zok (h1:PS X st t):PSs X [st] t:=by
 intro pins s σ H D I h
 refine wpAny_execs_cons (thn (h1 pins s σ H D I h) fun f s1 q=>?_)
 cases f with
 | next=>exact wpAny_execs_nil q
 | ret v=>exact q
 | brk=>exact q
 | cont=>exact q
theorem Inv.quiet {pins:List (Addr×Obj)}{σ :St}{H:Hp}{s:Shared}(I:Inv X pins σ H s):interactive X.env=false:=by simp [interactive,I.ok.kind]
noncomputable def tDrop (te:TE):TS:=fun D σ H=>te σ H fun _ H1=>D.nx σ H1
theorem zn6 (he:PE X e te)(hs:swapsWith e none pos.line X.env=pure false:=by rfl):PS X (.Expr e pos) (tDrop te):=by
 intro pins s σ H D I h
 exact wpAny_Expr_any (thn (he pins s σ H _ I h) fun v s1 ⟨x,H1,I1,r1,q1⟩=>⟨σ,H1,I1,q1⟩) I.quiet hs
noncomputable def tRet (te:TE):TS:=fun D σ H=>te σ H D.rt
theorem ps_ret (he:PE X e te):PS X (.Return (some e) pos) (tRet te):=by
 intro pins s σ H D I h
 exact wpAny_Return_some (thn (he pins s σ H _ I h) fun v s1 ⟨x,H1,I1,r1,q1⟩=>⟨x,σ,H1,I1,r1,q1⟩)
noncomputable def tIfS (c:TT) (t u:TS):TS:=fun D σ H=>c σ H fun b H1=>if b=true then t D σ H1 else u D σ H1
theorem ps_if {c:Expr}{a b:List Stmt}{tc:TT}(hc:PT X c tc)(ha:PSs X a t)(hb:PSs X b u):PS X (.If c a b pos) (tIfS tc t u):=by
 intro pins s σ H D I h
 refine wpAny_If (thn (hc pins s σ H _ I h) fun d s1 ⟨H1,I1,q1⟩=>?_)
 cases d with
 | true=>exact ha pins s1 σ H1 D I1 q1
 | false=>exact hb pins s1 σ H1 D I1 q1
noncomputable def znm:TS:=fun _ _ _=>False
theorem zmG:PS X st znm:=fun _ _ _ _ _ _ h=>h.elim
end
noncomputable abbrev TG:=V→St→Hp→(St→Hp→Prop)→Prop
noncomputable abbrev TGs:=List V→St→Hp→(St→Hp→Prop)→Prop
noncomputable def PG (X:Cx) (target:Expr) (t:TG):Prop:=
 ∀ (pins:List (Addr×Obj)) (s:Shared) (σ :St) (H:Hp) (v:V) (u:Value) (Q:St→Hp→Prop),Inv X pins σ H s→RelV v u→t v σ H Q→
  wpAny (model X.prog X.w) X.A (assign target X.env u) (fun _ s'=>∃ σ' H',Inv X pins σ' H' s'∧Q σ' H') X.xe s
noncomputable def PGs (X:Cx) (ts:List Expr) (t:TGs):Prop:=
 ∀ (pins:List (Addr×Obj)) (s:Shared) (σ :St) (H:Hp) (vs:List V) (us:List Value) (Q:St→Hp→Prop),Inv X pins σ H s→Vals vs us→t vs σ H Q→
  wpAny (model X.prog X.w) X.A (assignInOrder ((assignEach ts X.env).map (·.2)) us) (fun _ s'=>∃ σ' H',Inv X pins σ' H' s'∧Q σ' H') X.xe s
section
variable {X:Cx} {pos:Pos}
noncomputable def zfq (i:Nat):TG:=fun v σ H Q=>Q (σ.set i (some v)) H
theorem zoj {i:Nat}{x:Str}(hN:X.N.Nodup)(hi:X.N[i]? =some x)(hx:Loc X.env.scope x)(hf:X.fn x=true∨X.env.scope.names.lookup x=some .local:=by first | exact .inl rfl | exact .inr rfl | assumption):PG X (.Name x pos) (zfq i):=by
 intro pins s σ H v u Q I r h
 exact wpAny_assign_Name (zkd I hN hi hx r (fun s' I'=>⟨_,H,I',h⟩) hf)
noncomputable def gNil:TGs:=fun vs σ H Q=>vs= []∧Q σ H
noncomputable def zji (t:TG) (u:TGs):TGs:=fun vs σ H Q=>∃ v r,vs=v::r∧t v σ H fun σ' H'=>u r σ' H' Q
theorem zn4:PGs X [] gNil:=by
 intro pins s σ H vs us Q I r h
 obtain ⟨e,h⟩:=h
 subst e
 cases r
 exact assignInOrder_nil ⟨σ,H,I,h⟩
theorem znd {e:Expr}{es:List Expr}{t:TG}{u:TGs}(h1:PG X e t)(h2:PGs X es u)
  (hs:(assignEach (e::es) X.env).map (·.2)=assign e X.env::(assignEach es X.env).map (·.2):=by rfl):PGs X (e::es) (zji t u):=by
 intro pins s σ H vs us Q I r h
 obtain ⟨v,vr,e1,h⟩:=h
 subst e1
 cases r with
 | cons r rr=>
  rw [hs]
  refine assignInOrder_cons (thn (h1 pins s σ H _ _ _ I r h) fun _ s1 ⟨σ1,H1,I1,q1⟩=>?_)
  exact h2 pins s1 σ1 H1 _ _ Q I1 rr q1
noncomputable def gTup (K:PySem.W.Frag) (n:Nat) (t:TGs):TG:=fun v σ H Q=>∃ a xs,v= .ref a∧SqT K H a xs∧xs.length=n∧t xs σ H Q
theorem znp {es:List Expr}{k:Nat}{t:TGs}{n:Nat}(hc:X.calm=true)(h:PGs X es t)
  (hn:(assignEach es X.env).length=n:=by rfl) (hst:(assignEach es X.env).findIdx? (·.1)=none:=by rfl):PG X (.Tuple es k pos) (gTup X.K n t):=by
 intro pins s σ H v u Q I r hw
 obtain ⟨a,xs,e1,hq,hl,hw⟩:=hw
 subst e1
 cases r
 obtain ⟨its,rv,ht,hz⟩:=I.tuple hq
 refine assign_Tuple_tuple (I.ok.hd hc) ht (by simp [hn,← hl,rv.length]) hst fun h' hx=>?_
 have I1:Inv X pins σ H {s with heap:=h'}:=I.kept (t':=s.toks) fun b o e=>hx b o (Nat.ne_of_lt (Heap.lt_size e)) e
 exact h pins _ σ H xs _ Q I1 (by simpa using rv) hw
noncomputable def tAsg (te:TE) (g:TG):TS:=fun D σ H=>te σ H fun x H1=>g x σ H1 D.nx
theorem ps_asg {tg e:Expr}{te:TE}{g:TG}(he:PE X e te)(hg:PG X tg g)(hs:swapsWithSole [tg] e pos.line X.env=pure false:=by rfl)(hw:swappedStores [tg] e X.env=pure none:=by rfl)
  (h1:(assignEach [tg] X.env).map (·.2)= [assign tg X.env]:=by rfl):PS X (.Assign [tg] e pos) (tAsg te g):=by
 intro pins s σ H D I h
 refine wpAny_Assign_stores (thn (he pins s σ H _ I h) fun v s1 ⟨x,H1,I1,r1,q1⟩=>?_) hs hw
 rw [h1]
 exact thn (hg pins s1 σ H1 x v _ I1 r1 q1) fun _ s2 q=>q
theorem ps_set {i:Nat}{x:Str}{e:Expr}{te:TE}{pos':Pos}(hN:X.N.Nodup)(hi:X.N[i]? =some x)(hx:Loc X.env.scope x)(he:PE X e te)(hs:swapsWith e (some (.Name x pos')) pos.line X.env=pure false:=by rfl)(hf:X.fn x=true∨X.env.scope.names.lookup x=some .local:=by first | exact .inl rfl | exact .inr rfl | assumption):
  PS X (.Assign [.Name x pos'] e pos) (tAsg te (zfq i)):=by
 intro pins s σ H D I h
 refine wpAny_Assign_Name (thn (he pins s σ H _ I h) fun v s1 ⟨y,H1,I1,r1,q1⟩=>?_) hs
 exact zkd I1 hN hi hx r1 (fun s2 I2=>⟨_,H1,I2,q1⟩) hf
end
section
variable {X:Cx} {pos:Pos}
end
structure It where
 go:Nat→Hp→Prop
 yld:Nat→Hp→V→Hp→Prop
 stop:Nat→Hp→Prop
noncomputable def FpOk (X:Cx) (pins:List (Addr×Obj)) (H:Hp) (b:Addr):Prop:=
 H b=none∧b≠X.env.locals∧b∉X.fs∧(b∈X.ex∨X.s₀.heap.objs.size≤b)∧(∀ x c,X.env.cells.lookup x=some c→c≠b)∧∀ p∈X.pn++pins,p.1≠b
theorem Inv.fpOk {X:Cx}{pins:List (Addr×Obj)}{σ :St}{H H':Hp}{s:Shared}{b:Addr}(I:Inv X pins σ H s)(hb:s.heap.objs.size≤b)(hn:H' b=none):FpOk X pins H' b:=by
 refine ⟨hn,Nat.ne_of_gt (Nat.lt_of_lt_of_le I.lt hb),I.nofs hb,.inr (Nat.le_trans I.sz hb),fun x c e z=>?_,fun p hp z=>?_⟩
 ·obtain ⟨v,q⟩:=I.cell x c e
  exact absurd (Nat.lt_of_lt_of_le q.lt (by rw [z];exact hb)) (Nat.lt_irrefl _)
 ·exact absurd (Nat.lt_of_lt_of_le (Heap.lt_size (I.pin p hp).1) (by rw [z];exact hb)) (Nat.lt_irrefl _)
structure Turn (P:Program) (w:World) (K:PySem.W.Frag) (tg:Expr) (J:It) (fp:List Addr) (it:Addr) (tn:Nat→Heap→Prop):Prop where
 mem:it∈fp
 obj:∀ i h,tn i h→∀ b∈fp,∃ o,h.get? b=some o∧∀ v,o.data≠.cell v
 keep:∀ i h h',tn i h→(∀ b∈fp,∀ o,h.get? b=some o→h'.get? b=some o)→tn i h'
 item:∀ (X:Cx),X.prog=P→X.w=w→X.K=K→X.calm=true→∀ (i:Nat) (pins:List (Addr×Obj)) (s:Shared) (σ :St) (H:Hp) (E:Value→Shared→Prop),Inv X pins σ H s→(∀ b∈fp,FpOk X pins H b)→tn i s.heap→J.go i H→
  wpAny (model P w) X.A (pyNext (.ref it)) (fun r s1=>∃ u,r=some u∧
   wpAny (model P w) X.A (letOwnedTupleGo tg (.ref it) u) (fun _ s2=>∃ x H',Inv X pins σ H' s2∧RelV x u∧J.yld i H x H'∧tn (i+1) s2.heap∧∀ b∈fp,H' b=none) E s1) E s
 done:∀ (X:Cx),X.prog=P→X.w=w→X.K=K→X.calm=true→∀ (i:Nat) (pins:List (Addr×Obj)) (s:Shared) (σ :St) (H:Hp) (E:Value→Shared→Prop),Inv X pins σ H s→(∀ b∈fp,FpOk X pins H b)→tn i s.heap→J.stop i H→
  wpAny (model P w) X.A (pyNext (.ref it)) (fun r s1=>r=none∧Inv X pins σ H s1) E s
 self:∀ (A:Around) (i:Nat) (s:Shared) (Q:Value→Shared→Prop) (E:Value→Shared→Prop),tn i s.heap→Q (.ref it) s→wpAny (model P w) A (pyIter (.ref it)) Q E s
noncomputable abbrev TI:=St→Hp→(It→Hp→Prop)→Prop
noncomputable def PIE (X:Cx) (pins:List (Addr×Obj)) (σ :St) (tg:Expr) (R:It→Hp→Prop) (itv:Value) (s2:Shared):Prop:=
 ∃ (it:Addr) (fp:List Addr) (tn:Nat→Heap→Prop) (J:It) (H':Hp),itv= .ref it∧Inv X pins σ H' s2∧Turn X.prog X.w X.K tg J fp it tn∧tn 0 s2.heap∧(∀ b∈fp,FpOk X pins H' b)∧R J H'
noncomputable def PI (X:Cx) (tg iter:Expr) (wi:TI):Prop:=
 ∀ (pins:List (Addr×Obj)) (s:Shared) (σ :St) (H:Hp) (R:It→Hp→Prop),Inv X pins σ H s→wi σ H R→
  wpAny (model X.prog X.w) X.A (eval iter X.env) (fun v s1=>wpAny (model X.prog X.w) X.A (pyIter v) (PIE X pins σ tg R) X.xe s1) X.xe s
theorem zoh {M:Model}{A:Around}{E:Value→Shared→Prop}{s:Shared}{tg:Expr}{it:Addr}{u:Value}{o:Obj}{n:String}{vs:Array Value}{Q:Unit→Shared→Prop}(ho:s.heap.get? it=some o)(hc:o.cls= .type n)(hd:o.data= .fields vs)
  (hn:["enumerate","zip","dict_itemiterator","dict_reverseitemiterator","odict_iterator","itertools.zip_longest","itertools.pairwise"].contains n=false) (hQ:Q () s):wpAny M A (letOwnedTupleGo tg (.ref it) u) Q E s:=by
 unfold letOwnedTupleGo
 cases tg <;> first
  | exact wpAny_pure hQ
  | (cases u <;> first
    | exact wpAny_pure hQ
    | (refine wpAny_bind (wpAny_load ho ?_)
       rw [hc,hd]
       show wpAny M A (if (["enumerate","zip","dict_itemiterator","dict_reverseitemiterator","odict_iterator","itertools.zip_longest","itertools.pairwise"].contains n && vs[0]? ==some (rawInt _))=true then _ else _) Q E s
       rw [if_neg (by intro h;rw [hn,Bool.false_and] at h;cases h)]
       exact wpAny_pure hQ))
noncomputable def Itl (K:PySem.W.Frag) (a:Addr):It:=
 ⟨fun i H=>∃ xs x,SqL K H a xs∧xs[i]? =some x,fun i H x H'=>H'=H∧∀ xs,SqL K H a xs→xs[i]? =some x,fun i H=>∃ xs,SqL K H a xs∧xs.length≤i⟩
noncomputable def Itt (K:PySem.W.Frag) (a:Addr):It:=
 ⟨fun i H=>∃ xs x,SqT K H a xs∧xs[i]? =some x,fun i H x H'=>H'=H∧∀ xs,SqT K H a xs→xs[i]? =some x,fun i H=>∃ xs,SqT K H a xs∧xs.length≤i⟩
noncomputable def Itr (lo:Int) (n:Nat):It:=⟨fun i _=>i < n,fun i H x H'=>H'=H∧x= .int (lo+i),fun i _=>n≤i⟩
theorem zk1 {P:Program}{w:World}{K:PySem.W.Frag}{tg:Expr}(a it:Addr):Turn P w K tg (Itl K a) [it] it (fun i h=>h.IsListIter it a i) where
 mem:=by simp
 obj:=fun i h st b hb=>by
  have e:b=it:=by simpa using hb
  subst e
  obtain ⟨o,e,c,d⟩:=st
  exact ⟨o,e,fun v z=>by rw [d] at z;cases z⟩
 keep:=fun i h h' st k=>st.at fun o e=>k it (by simp) o e
 item:=by
  intro X hP hw hK hc i pins s σ H E I hf st hg
  subst hP hw hK
  obtain ⟨xs,x,hq,hx⟩:=hg
  obtain ⟨its,rv,p,hz⟩:=I.list hq
  obtain ⟨u,hu,ru⟩:=rv.get hx
  obtain ⟨f0,f1,f2,f3,f4,f5⟩:=hf it (by simp)
  refine wpAny_pyNext_list_item st p.isList (x:=u) (by simpa using hu) fun h' st' sb=>?_
  have I1:Inv X pins σ H {s with heap:=h'}:=I.turned (t':=s.toks) (fun b o hb e=>(sb.2 b hb).trans e) f0 f1 f3 f4 f5
  obtain ⟨o,e,c,d⟩:=id st'
  exact ⟨u,rfl,zoh (s:={s with heap:=h'}) e c d (by decide) ⟨x,H,I1,ru,⟨rfl,fun ys hy=>by rw [I.list_inj hy hq];exact hx⟩,st',fun b hb=>(hf b hb).1⟩⟩
 done:=by
  intro X hP hw hK hc i pins s σ H E I hf st hg
  subst hP hw hK
  obtain ⟨xs,hq,hx⟩:=hg
  obtain ⟨its,rv,p,hz⟩:=I.list hq
  obtain ⟨f0,f1,f2,f3,f4,f5⟩:=hf it (by simp)
  have hl:=rv.length
  exact wpAny_pyNext_list_end (I.ok.hd hc) st p.isList (by simp;omega) fun h' eb=>⟨rfl,I.turned (t':=s.toks) (fun b o hb e=>eb b o hb e) f0 f1 f3 f4 f5⟩
 self:=fun _ _ _ _ _ st h=>wpAny_pyIter_listiter st h
theorem zkm {P:Program}{w:World}{K:PySem.W.Frag}{tg:Expr}(a it:Addr):Turn P w K tg (Itt K a) [it] it (fun i h=>h.IsTupleIter it a i) where
 mem:=by simp
 obj:=fun i h st b hb=>by
  have e:b=it:=by simpa using hb
  subst e
  obtain ⟨o,e,c,d⟩:=st
  exact ⟨o,e,fun v z=>by rw [d] at z;cases z⟩
 keep:=fun i h h' st k=>st.at fun o e=>k it (by simp) o e
 item:=by
  intro X hP hw hK hc i pins s σ H E I hf st hg
  subst hP hw hK
  obtain ⟨xs,x,hq,hx⟩:=hg
  obtain ⟨its,rv,p,hz⟩:=I.tuple hq
  obtain ⟨u,hu,ru⟩:=rv.get hx
  obtain ⟨f0,f1,f2,f3,f4,f5⟩:=hf it (by simp)
  refine wpAny_pyNext_tuple_item st (show s.heap.IsTuple a its.toArray from p) (x:=u) (by simpa using hu) fun h' st' sb=>?_
  have I1:Inv X pins σ H {s with heap:=h'}:=I.turned (t':=s.toks) (fun b o hb e=>(sb.2 b hb).trans e) f0 f1 f3 f4 f5
  obtain ⟨o,e,c,d⟩:=id st'
  exact ⟨u,rfl,zoh (s:={s with heap:=h'}) e c d (by decide) ⟨x,H,I1,ru,⟨rfl,fun ys hy=>by rw [I.tuple_inj hy hq];exact hx⟩,st',fun b hb=>(hf b hb).1⟩⟩
 done:=by
  intro X hP hw hK hc i pins s σ H E I hf st hg
  subst hP hw hK
  obtain ⟨xs,hq,hx⟩:=hg
  obtain ⟨its,rv,p,hz⟩:=I.tuple hq
  obtain ⟨f0,f1,f2,f3,f4,f5⟩:=hf it (by simp)
  have hl:=rv.length
  exact wpAny_pyNext_tuple_end (I.ok.hd hc) st (show s.heap.IsTuple a its.toArray from p) (by simp;omega) fun h' eb=>⟨rfl,I.turned (t':=s.toks) (fun b o hb e=>eb b o hb e) f0 f1 f3 f4 f5⟩
 self:=fun _ _ _ _ _ st h=>wpAny_pyIter_tupleiter st h
theorem zkS {P:Program}{w:World}{K:PySem.W.Frag}{tg:Expr}(it:Addr)(lo:Int)(n:Nat):Turn P w K tg (Itr lo n) [it] it (fun i h=>IsRangeIter h it (lo+(i:Nat) * 1) ((n:Int) - (i:Nat)) 1) where
 mem:=by simp
 obj:=fun i h st b hb=>by
  have e:b=it:=by simpa using hb
  subst e
  exact ⟨_,st,fun v z=>by
   have z':Data.fields _=Data.cell v:=z
   cases z'⟩
 keep:=fun i h h' st k=>k it (by simp) _ st
 item:=by
  intro X hP hw hK hc i pins s σ H E I hf st hg
  subst hP hw hK
  obtain ⟨f0,f1,f2,f3,f4,f5⟩:=hf it (by simp)
  have W:=Walks.range (prog:=X.prog) (w:=X.w) (I.ok.hd hc) it lo 1 n
  refine W.item i s _ _ hg st fun v h' tk hv st' kk=>?_
  obtain ⟨t,rfl⟩:=hv
  have I1:Inv X pins σ H {s with heap:=h',toks:=tk}:=I.turned (fun b o hb e=>kk b o (by simpa using hb) e) f0 f1 f3 f4 f5
  refine ⟨_,rfl,zoh (s:={s with heap:=h',toks:=tk}) (n:="range_iterator") st' rfl rfl (by decide) ⟨.int (lo+i),H,I1,⟨t,?_⟩,⟨rfl,rfl⟩,st',fun b hb=>(hf b hb).1⟩⟩
  rw [Int.mul_one]
 done:=by
  intro X hP hw hK hc i pins s σ H E I hf st hg
  subst hP hw hK
  obtain ⟨f0,f1,f2,f3,f4,f5⟩:=hf it (by simp)
  exact wpAny_pyNext_range_end (I.ok.hd hc) st (by have:n≤i:=hg;omega) fun h' eb=>⟨rfl,I.turned (t':=s.toks) (fun b o hb e=>eb b o hb e) f0 f1 f3 f4 f5⟩
 self:=fun _ _ _ _ _ st h=>wpAny_pyIter_rangeiter st h
end L2
namespace L2
open PySem PySem.Spec PyProof.Rows
section
variable {X:Cx} {tg:Expr}
noncomputable def iList (K:PySem.W.Frag) (tl:TE):TI:=fun σ H R=>tl σ H fun x H1=>∃ a,x= .ref a∧(∃ xs,SqL K H1 a xs)∧R (Itl K a) H1
noncomputable def iTup (K:PySem.W.Frag) (tl:TE):TI:=fun σ H R=>tl σ H fun x H1=>∃ a,x= .ref a∧(∃ xs,SqT K H1 a xs)∧R (Itt K a) H1
theorem zop {l:Expr}{tl:TE}(hl:PE X l tl):PI X tg l (iList X.K tl):=by
 intro pins s σ H R I h
 refine thn (hl pins s σ H _ I h) fun v s1 ⟨x,H1,I1,r1,q1⟩=>?_
 obtain ⟨a,e,⟨xs,hq⟩,q⟩:=q1
 subst e
 cases r1
 obtain ⟨its,rv,p,hz⟩:=I1.list hq
 refine wpAny_pyIter_list p.isList ?_
 refine ⟨s1.heap.objs.size,[s1.heap.objs.size],_,_,H1,rfl,I1.kept (t':=s1.toks) fun b o e=>Heap.get?_push_of_some _ e,zk1 a _,⟨_,Heap.get?_push_size _ rfl,rfl,rfl⟩,fun b hb=>?_,q⟩
 have e:b=s1.heap.objs.size:=by simpa using hb
 subst e
 exact I1.fpOk (Nat.le_refl _) (I1.hok.fresh (Nat.le_refl _))
theorem pi_tup {l:Expr}{tl:TE}(hl:PE X l tl):PI X tg l (iTup X.K tl):=by
 intro pins s σ H R I h
 refine thn (hl pins s σ H _ I h) fun v s1 ⟨x,H1,I1,r1,q1⟩=>?_
 obtain ⟨a,e,⟨xs,hq⟩,q⟩:=q1
 subst e
 cases r1
 obtain ⟨its,rv,p,hz⟩:=I1.tuple hq
 refine wpAny_pyIter_tuple (show s1.heap.IsTuple a its.toArray from p) ?_
 refine ⟨s1.heap.objs.size,[s1.heap.objs.size],_,_,H1,rfl,I1.kept (t':=s1.toks) fun b o e=>Heap.get?_push_of_some _ e,zkm a _,⟨_,Heap.get?_push_size _ rfl,rfl,rfl⟩,fun b hb=>?_,q⟩
 have e:b=s1.heap.objs.size:=by simpa using hb
 subst e
 exact I1.fpOk (Nat.le_refl _) (I1.hok.fresh (Nat.le_refl _))
theorem zmO {pins:List (Addr×Obj)}{σ :St}{H:Hp}{s:Shared}{R:It→Hp→Prop}{E:Value→Shared→Prop}{lo hi:Int}{t u v:Tok}{tk:Nat}(I:Inv X pins σ H s)(h1: -(2 ^ 62)≤lo)(h2:lo < 2 ^ 62)(h3: -(2 ^ 62)≤hi)(h4:hi < 2 ^ 62)
  (q:R (Itr lo (hi - lo).toNat) H):wpAny (model X.prog X.w) X.A (pyIter (.ref s.heap.objs.size)) (PIE X pins σ tg R) E {s with heap:=s.heap.push {cls:=.type "range",data:=.fields #[.int lo t,.int hi u,.int 1 v]},toks:=tk}:=by
 refine wpAny_pyIter_range (IsRange.new ..) (small_one h1 h2 h3 h4) ?_
 have I1:Inv X pins σ H {s with heap:=s.heap.push {cls:=.type "range",data:=.fields #[.int lo t,.int hi u,.int 1 v]},toks:=tk}:=I.kept fun b o e=>Heap.get?_push_of_some _ e
 refine ⟨(s.heap.push {cls:=.type "range",data:=.fields #[.int lo t,.int hi u,.int 1 v]}).objs.size,[(s.heap.push {cls:=.type "range",data:=.fields #[.int lo t,.int hi u,.int 1 v]}).objs.size],_,_,H,rfl,
  I1.kept (t':=tk) fun b o e=>Heap.get?_push_of_some _ e,zkS _ lo (hi - lo).toNat,?_,fun b hb=>?_,q⟩
 ·have e1:lo+((0:Nat):Int) * 1=lo:=by simp
  have e2:(((hi - lo).toNat:Nat):Int) - ((0:Nat):Int)=Builtin.Range.rangeSize lo hi 1:=by rw [rangeSize_one];split <;> omega
  show IsRangeIter _ _ (lo+((0:Nat):Int) * 1) ((((hi - lo).toNat:Nat):Int) - ((0:Nat):Int)) 1
  rw [e1,e2]
  exact Heap.get?_push_size _ rfl
 ·have e:b=(s.heap.push {cls:=.type "range",data:=.fields #[.int lo t,.int hi u,.int 1 v]}).objs.size:=by simpa using hb
  subst e
  exact I1.fpOk (Nat.le_refl _) (I1.hok.fresh (Nat.le_refl _))
noncomputable def iRng1 (ta:TA):TI:=fun σ H R=>ta σ H fun vs H1=>∃ j:Int,vs= [.int j]∧-(2 ^ 62)≤j∧j < 2 ^ 62∧R (Itr 0 j.toNat) H1
theorem zlm {a:Expr}{ta:TA}{p pos:Pos}(hg:Gl X "range")(hm:X.mg "range" =none)(ha:PA X [a] ta)(hs:starEach [a] X.env= [(false,eval a X.env)]:=by rfl):PI X tg (.Call (.Name "range" p) [a] [] pos) (iRng1 ta):=by
 intro pins s σ H R I h
 refine Call_ (zgD I hg hm boot_range (PyProof.Rows.callWith_type1 (thn (ha pos pins s σ H _ I h) fun us s1 ⟨vs,H1,I1,r1,q1⟩=>?_) hs rfl))
 obtain ⟨j,e,q1,q2,q⟩:=q1
 subst e
 cases r1 with
 | cons r rr=>
  cases rr
  obtain ⟨t,rfl⟩:=r
  exact call_range_1 (zmO I1 (by omega) (by omega) q1 q2 (by simpa using q))
noncomputable def tFor (wi:TI) (g:TG) (tb:TS):TS:=fun D σ H=>wi σ H fun J H1=>∃ W:Nat→Nat→St→Hp→Prop,(∃ m,W 0 m σ H1)∧∀ i m σ H,W i m σ H→
 (J.stop i H∧D.nx σ H)∨(J.go i H∧∃ N:St→Hp→Prop,(∀ σ' H',N σ' H'→∃ m',m' < m∧W (i+1) m' σ' H')∧∀ x H',J.yld i H x H'→g x σ H' fun σ2 H2=>tb {D with nx:=N,ct:=N,bk:=D.nx} σ2 H2)
noncomputable def zhX (fp:List Addr) (h:Heap):List (Addr×Obj):=fp.filterMap fun b=>(h.get? b).map fun o=>(b,o)
theorem zd4 {fp:List Addr}{h:Heap}{b:Addr}{o:Obj}(hb:b∈fp)(e:h.get? b=some o):(b,o)∈zhX fp h:=List.mem_filterMap.mpr ⟨b,hb,by rw [e];rfl⟩
theorem zlV {fp:List Addr}{h:Heap}{p:Addr×Obj}(hp:p∈zhX fp h):p.1∈fp∧h.get? p.1=some p.2:=by
 obtain ⟨b,hb,e⟩:=List.mem_filterMap.mp hp
 cases q:h.get? b with
 | none=>rw [q] at e;cases e
 | some o=>
  rw [q] at e
  have e':(b,o)=p:=Option.some.inj e
  subst e'
  exact ⟨hb,q⟩
theorem Inv.pinned {pins:List (Addr×Obj)}{σ :St}{H:Hp}{s:Shared}{fp:List Addr}(I:Inv X pins σ H s)(hf:∀ b∈fp,FpOk X pins H b)(ho:∀ b∈fp,∃ o,s.heap.get? b=some o∧∀ v,o.data≠.cell v):Inv X (pins++zhX fp s.heap) σ H s:=
 I.pins_of fun p hp=>(List.mem_append.mp hp).elim (fun z=>I.pin p (List.mem_append_right _ z)) fun z=>by
  obtain ⟨hb,e⟩:=zlV z
  obtain ⟨f0,f1,f2,_⟩:=hf p.1 hb
  obtain ⟨o,e',d⟩:=ho p.1 hb
  rw [e] at e';cases e'
  exact ⟨e,f0,f1,f2,d⟩
theorem Inv.unpinned {pins pl:List (Addr×Obj)}{σ :St}{H:Hp}{s:Shared}(I:Inv X (pins++pl) σ H s):Inv X pins σ H s:=I.pins_of fun p hp=>I.pin p (List.mem_append_right _ (List.mem_append_left _ hp))
theorem ps_for {iter:Expr}{body:List Stmt}{wi:TI}{g:TG}{tb:TS}{pos:Pos}(hp:PassesOwn (model X.prog X.w) X.A X.env X.xe)(hc:X.calm=true)(hi:PI X tg iter wi)(hg:PG X tg g)(hb:PSs X body tb)
  (hs:∀ x,foldedSetIterable iter X.env x=pure x:=by intro _;rfl):PS X (.For tg iter body [] pos) (tFor wi g tb):=by
 intro pins s σ H D I h
 refine wpAny_For (thn (hi pins s σ H _ I h) fun v s1 h1=>thn h1 fun itv s2 h2=>?_) hs
 obtain ⟨it,fp,tn,J,H2,e,I2,T,st2,f2,W,⟨m0,w0⟩,turn⟩:=h2
 subst e
 have stat:∀ {H':Hp},(∀ b∈fp,H' b=none)→∀ b∈fp,FpOk X pins H' b:=fun hn b hb=>⟨hn b hb,(f2 b hb).2⟩
 refine codeAny_forLoop_any (fun n s'=>∃ i σ' H',Inv X pins σ' H' s'∧tn i s'.heap∧(∀ b∈fp,H' b=none)∧W i n σ' H') ?_ m0 ⟨0,σ,H2,I2,st2,fun b hb=>(f2 b hb).1,w0⟩
 rintro n s3 ⟨i,σ3,H3,I3,st3,fr3,w3⟩
 rcases turn i n σ3 H3 w3 with ⟨stop,qn⟩ | ⟨go,N,hN,step⟩
 ·refine wpAny_passesOwn hp (thn (T.done X rfl rfl rfl hc i pins s3 σ3 H3 X.xe I3 (stat fr3) st3 stop) fun r s4 ⟨hr,I4⟩=>?_)
  subst hr
  exact wpAny_execs_nil ⟨σ3,H3,I4,qn⟩
 ·refine wpAny_passesOwn hp (thn (T.item X rfl rfl rfl hc i pins s3 σ3 H3 X.xe I3 (stat fr3) st3 go) fun r s4 ⟨u,hr,h4⟩=>?_)
  subst hr
  refine wpAny_passesOwn hp (thn h4 fun _ s5 ⟨x,H5,I5,r5,y5,st5,fr5⟩=>?_)
  have I5':=I5.pinned (stat fr5) (T.obj _ _ st5)
  refine wpAny_passesOwn hp (thn (hg _ s5 σ3 H5 x u _ I5' r5 (step x H5 y5)) fun _ s6 ⟨σ6,H6,I6,q6⟩=>?_)
  refine wpAny_passesOwn hp (thn (hb _ s6 σ6 H6 _ I6 q6) fun f s7 q7=>?_)
  have again:∀ {σ7:St} {H7:Hp},Inv X (pins++zhX fp s5.heap) σ7 H7 s7→N σ7 H7→∃ m,m < n∧∃ i σ' H',Inv X pins σ' H' s7∧tn i s7.heap∧(∀ b∈fp,H' b=none)∧W i m σ' H':=fun {σ7 H7} I7 n7=>by
   obtain ⟨m',hm,w7⟩:=hN σ7 H7 n7
   refine ⟨m',hm,i+1,σ7,H7,I7.unpinned,T.keep _ _ _ st5 fun b hb o e=>(I7.pin (b,o) (List.mem_append_right _ (List.mem_append_right _ (zd4 hb e)))).1,fun b hb=>?_,w7⟩
   obtain ⟨o,e,d⟩:=T.obj _ _ st5 b hb
   exact (I7.pin (b,o) (List.mem_append_right _ (List.mem_append_right _ (zd4 hb e)))).2.1
  cases f with
  | next=>obtain ⟨σ7,H7,I7,n7⟩:=q7;exact again I7 n7
  | cont=>obtain ⟨σ7,H7,I7,n7⟩:=q7;exact again I7 n7
  | brk=>obtain ⟨σ7,H7,I7,q7⟩:=q7;exact ⟨σ7,H7,I7.unpinned,q7⟩
  | ret v=>obtain ⟨x7,σ7,H7,I7,r7,q7⟩:=q7;exact ⟨x7,σ7,H7,I7.unpinned,r7,q7⟩
end
theorem zbN {K:PySem.W.Frag}{a:Addr}{xs:List V}{g:TG}{tb:TS}{D:Ends}{σ :St}{H:Hp}(Pv:Nat→St→Hp→Prop)(h0:Pv 0 σ H)(hl:∀ i σ H,i≤xs.length→Pv i σ H→SqL K H a xs)
  (hs:∀ i x σ H,xs[i]? =some x→Pv i σ H→g x σ H fun σ2 H2=>tb {D with nx:=Pv (i+1),ct:=Pv (i+1),bk:=D.nx} σ2 H2) (hd:∀ σ H,Pv xs.length σ H→D.nx σ H):
  ∃ W:Nat→Nat→St→Hp→Prop,(∃ m,W 0 m σ H)∧∀ i m σ H,W i m σ H→
   ((Itl K a).stop i H∧D.nx σ H)∨((Itl K a).go i H∧∃ N:St→Hp→Prop,(∀ σ' H',N σ' H'→∃ m',m' < m∧W (i+1) m' σ' H')∧∀ x H',(Itl K a).yld i H x H'→g x σ H' fun σ2 H2=>tb {D with nx:=N,ct:=N,bk:=D.nx} σ2 H2):=by
 refine ⟨fun i m σ H=>m=xs.length - i∧i≤xs.length∧Pv i σ H,⟨xs.length,by simp,Nat.zero_le _,h0⟩,?_⟩
 rintro i m σ H ⟨rfl,hi,p⟩
 have q:=hl i σ H hi p
 by_cases hlt:i < xs.length
 ·refine .inr ⟨⟨xs,xs[i],q,by simp [hlt]⟩,Pv (i+1),fun σ' H' p'=>⟨xs.length - (i+1),by omega,rfl,hlt,p'⟩,fun x H' y=>?_⟩
  obtain ⟨e,y⟩:=y
  subst e
  exact hs i x σ _ (y xs q) p
 ·have e:i=xs.length:=by omega
  subst e
  exact .inl ⟨⟨xs,q,Nat.le_refl _⟩,hd σ H p⟩
theorem zcb {lo:Int}{n:Nat}{g:TG}{tb:TS}{D:Ends}{σ :St}{H:Hp}(Pv:Nat→St→Hp→Prop)(h0:Pv 0 σ H)
  (hs:∀ i σ H,i < n→Pv i σ H→g (.int (lo+i)) σ H fun σ2 H2=>tb {D with nx:=Pv (i+1),ct:=Pv (i+1),bk:=D.nx} σ2 H2) (hd:∀ σ H,Pv n σ H→D.nx σ H):
  ∃ W:Nat→Nat→St→Hp→Prop,(∃ m,W 0 m σ H)∧∀ i m σ H,W i m σ H→
   ((Itr lo n).stop i H∧D.nx σ H)∨((Itr lo n).go i H∧∃ N:St→Hp→Prop,(∀ σ' H',N σ' H'→∃ m',m' < m∧W (i+1) m' σ' H')∧∀ x H',(Itr lo n).yld i H x H'→g x σ H' fun σ2 H2=>tb {D with nx:=N,ct:=N,bk:=D.nx} σ2 H2):=by
 refine ⟨fun i m σ H=>m=n - i∧i≤n∧Pv i σ H,⟨n,by simp,Nat.zero_le _,h0⟩,?_⟩
 rintro i m σ H ⟨rfl,hi,p⟩
 by_cases hlt:i < n
 ·refine .inr ⟨hlt,Pv (i+1),fun σ' H' p'=>⟨n - (i+1),by omega,rfl,hlt,p'⟩,fun x H' y=>?_⟩
  obtain ⟨e,y⟩:=y
  subst e y
  exact hs i σ _ hlt p
 ·have e:i=n:=by omega
  subst e
  exact .inl ⟨Nat.le_refl _,hd σ H p⟩
end L2
namespace L2
open PySem PySem.Spec PyProof.Rows
noncomputable abbrev R2:=V→V→Hp→VK→Prop
noncomputable def OpR (X:Cx) (f:Value→Value→Sem Value) (r:R2):Prop:=
 ∀ (pins:List (Addr×Obj)) (s:Shared) (σ :St) (H:Hp) (x y:V) (v u:Value) (Q:VK),Inv X pins σ H s→RelV x v→RelV y u→r x y H Q→
  wpAny (model X.prog X.w) X.A (f v u) (EP X pins σ Q) X.xe s
noncomputable def UnR (X:Cx) (f:Value→Sem Value) (r:V→Hp→VK→Prop):Prop:=
 ∀ (pins:List (Addr×Obj)) (s:Shared) (σ :St) (H:Hp) (x:V) (v:Value) (Q:VK),Inv X pins σ H s→RelV x v→r x H Q→
  wpAny (model X.prog X.w) X.A (f v) (EP X pins σ Q) X.xe s
noncomputable def zey (X:Cx) (f:Value) (r:List V→Hp→VK→Prop):Prop:=
 ∀ (pins:List (Addr×Obj)) (s:Shared) (σ :St) (H:Hp) (xs:List V) (us:List Value) (Q:VK),Inv X pins σ H s→Vals xs us→r xs H Q→
  wpAny (model X.prog X.w) X.A (call f us) (EP X pins σ Q) X.xe s
noncomputable def tOp (r:R2) (ta tb:TE):TE:=fun σ H Q=>ta σ H fun x H1=>tb σ H1 fun y H2=>r x y H2 Q
noncomputable def tUn (r:V→Hp→VK→Prop) (ta:TE):TE:=fun σ H Q=>ta σ H fun x H1=>r x H1 Q
noncomputable def rI (C:Int→Int→Prop) (g:Int→Int→V):R2:=fun x y H Q=>∃ i j,x= .int i∧y= .int j∧C i j∧Q (g i j) H
noncomputable def rI0 (g:Int→Int→V):R2:=fun x y H Q=>∃ i j,x= .int i∧y= .int j∧Q (g i j) H
noncomputable def rU (g:Int→V):V→Hp→VK→Prop:=fun x H Q=>∃ i,x= .int i∧Q (g i) H
section
variable {X:Cx} {a b c:Expr} {ta tb tc:TE} {pos:Pos}
theorem binT (ha:PE X a ta)(hb:PE X b tb){pins:List (Addr×Obj)}{s:Shared}{σ :St}{H:Hp}{R:V→V→Hp→Prop}(I:Inv X pins σ H s)
  (h:ta σ H fun x H1=>tb σ H1 fun y H2=>R x y H2) {Q:Value→Shared→Prop} {f:Value→Value→Sem Value}
  (hf:∀ v u s2 x y H2,Inv X pins σ H2 s2→RelV x v→RelV y u→R x y H2→wpAny (model X.prog X.w) X.A (f v u) Q X.xe s2):
  wpAny (model X.prog X.w) X.A (eval a X.env) (fun v s₁ =>wpAny (model X.prog X.w) X.A (eval b X.env) (fun u s₂ =>wpAny (model X.prog X.w) X.A (f v u) Q X.xe s₂) X.xe s₁) X.xe s:=by
 refine thn (ha pins s σ H _ I h) fun v s1 ⟨x,H1,I1,r1,q1⟩=>?_
 refine thn (hb pins s1 σ H1 _ I1 q1) fun u s2 ⟨y,H2,I2,r2,q2⟩=>?_
 exact hf v u s2 x y H2 I2 r1 r2 q2
theorem pe_op {op:Operator}{r:R2}(ho:OpR X (binaryOp op) r)(ha:PE X a ta)(hb:PE X b tb):PE X (.BinOp a op b pos) (tOp r ta tb):=by
 intro pins s σ H Q I h
 exact wpAny_BinOp (binT ha hb I h fun v u s2 x y H2 I2 rx ry q=>ho pins s2 σ H2 x y v u Q I2 rx ry q)
theorem pe_un {op:UnaryOp}{r:V→Hp→VK→Prop}(ho:UnR X (unaryOp op) r)(ha:PE X a ta):PE X (.UnaryOp op a pos) (tUn r ta):=by
 intro pins s σ H Q I h
 exact UnaryOp_ (thn (ha pins s σ H _ I h) fun v s1 ⟨x,H1,I1,r1,q1⟩=>ho pins s1 σ H1 x v Q I1 r1 q1)
theorem opI {f:Value→Value→Sem Value}{C:Int→Int→Prop}{g:Int→Int→Int}
  (rule:∀ (i j:Int) (t u:Tok) (s:Shared) (Q:Value→Shared→Prop) (E:Value→Shared→Prop),C i j→Q (.int (g i j) s.toks) {s with toks:=s.toks+1}→wpAny (model X.prog X.w) X.A (f (.int i t) (.int j u)) Q E s):
  OpR X f (rI C fun i j=>.int (g i j)):=by
 intro pins s σ H x y v u Q I rx ry h
 obtain ⟨i,j,rfl,rfl,hc,q⟩:=h
 obtain ⟨t,rfl⟩:=rx
 obtain ⟨t',rfl⟩:=ry
 exact rule i j t t' s _ _ hc ⟨.int (g i j),H,I.tok _,⟨_,rfl⟩,q⟩
theorem opI0 {f:Value→Value→Sem Value}{g:Int→Int→Int}
  (rule:∀ (i j:Int) (t u:Tok) (s:Shared) (Q:Value→Shared→Prop) (E:Value→Shared→Prop),Q (.int (g i j) s.toks) {s with toks:=s.toks+1}→wpAny (model X.prog X.w) X.A (f (.int i t) (.int j u)) Q E s):
  OpR X f (rI0 fun i j=>.int (g i j)):=by
 intro pins s σ H x y v u Q I rx ry h
 obtain ⟨i,j,rfl,rfl,q⟩:=h
 obtain ⟨t,rfl⟩:=rx
 obtain ⟨t',rfl⟩:=ry
 exact rule i j t t' s _ _ ⟨.int (g i j),H,I.tok _,⟨_,rfl⟩,q⟩
theorem opB0 {f:Value→Value→Sem Value}{g:Int→Int→Bool}
  (rule:∀ (i j:Int) (t u:Tok) (s:Shared) (Q:Value→Shared→Prop) (E:Value→Shared→Prop),Q (.bool (g i j)) s→wpAny (model X.prog X.w) X.A (f (.int i t) (.int j u)) Q E s):
  OpR X f (rI0 fun i j=>.bl (g i j)):=by
 intro pins s σ H x y v u Q I rx ry h
 obtain ⟨i,j,rfl,rfl,q⟩:=h
 obtain ⟨t,rfl⟩:=rx
 obtain ⟨t',rfl⟩:=ry
 exact rule i j t t' s _ _ ⟨.bl (g i j),H,I,rfl,q⟩
noncomputable def CDiv (i j:Int):Prop:=0 < j∧j < 1073741824
noncomputable def CPow (i j:Int):Prop:=0≤j∧j≤1000000∧i.natAbs < 2 ^ 64
noncomputable def CMul (i j:Int):Prop:=(-(2 ^ 64) < i∧i < 2 ^ 64)∨(-(2 ^ 64) < j∧j < 2 ^ 64)
theorem CMul.ok {i j:Int}(h:CMul i j):IntMulOk i j:=by
 rcases h with ⟨h1,h2⟩ | ⟨h1,h2⟩
 ·exact .of_left (intBits_le_64 h1 h2)
 ·exact .of_right (intBits_le_64 h1 h2)
theorem zkC (k:Nat):(0:Int)≤2 ^ k:=by
 rw [two_pow_cast]
 exact Int.natCast_nonneg _
theorem zbc:OpR X (binaryOp .Add) (rI0 fun i j=>.int (i+j)):=opI0 fun _ _ _ _ _ _ _ q=>add_int q
theorem zfC:OpR X (binaryOp .Sub) (rI0 fun i j=>.int (i - j)):=opI0 fun _ _ _ _ _ _ _ q=>sub_int q
theorem zdL:OpR X (binaryOp .Mult) (rI CMul fun i j=>.int (i * j)):=opI fun _ _ _ _ _ _ _ hc q=>mul_int q hc.ok
theorem ze0:OpR X (binaryOp .FloorDiv) (rI CDiv fun i j=>.int (i / j)):=opI fun i j _ _ _ _ _ hc q=>by
 have h1:(0:Int) < j:=hc.1
 have h2:j < 1073741824:=hc.2
 exact floordiv_int (by omega) (by rw [Int.fdiv_eq_ediv_of_nonneg i (by omega)];exact q) (.inl (PyProof.noPylong_small (by omega)))
theorem zcs:OpR X (binaryOp .Mod) (rI (fun _ j=>0 < j) fun i j=>.int (i % j)):=opI fun i j _ _ _ _ _ hc q=>by
 have h1:(0:Int) < j:=hc
 exact mod_int' (by omega) (by rw [Int.fmod_eq_emod_of_nonneg i (by omega)];exact q)
theorem zh2:OpR X (binaryOp .Pow) (rI CPow fun i j=>.int (i ^ j.toNat)):=opI fun _ _ _ _ _ _ _ hc q=>pow_int_small hc.1 hc.2.1 hc.2.2 q
theorem op_shr:OpR X (binaryOp .RShift) (rI (fun _ j=>0≤j) fun i j=>.int (i / 2 ^ j.toNat)):=opI fun i j _ _ _ _ _ hc q=>
 rshift_int hc (by rw [Int.fdiv_eq_ediv_of_nonneg i (zkC _)];exact q)
theorem zjG:OpR X (binaryOp .BitAnd) (rI0 fun i j=>.int (Builtin.bitAnd i j)):=opI0 fun _ _ _ _ _ _ _ q=>and_int q
theorem zoA:OpR X (binaryOp .BitOr) (rI0 fun i j=>.int (Builtin.bitOr i j)):=opI0 fun _ _ _ _ _ _ _ q=>or_int q
theorem zjW:OpR X (binaryOp .BitXor) (rI0 fun i j=>.int (Builtin.bitXor i j)):=opI0 fun _ _ _ _ _ _ _ q=>xor_int q
theorem unI {f:Value→Sem Value}{g:Int→Int}
  (rule:∀ (i:Int) (t:Tok) (s:Shared) (Q:Value→Shared→Prop) (E:Value→Shared→Prop),Q (.int (g i) s.toks) {s with toks:=s.toks+1}→wpAny (model X.prog X.w) X.A (f (.int i t)) Q E s):
  UnR X f (rU fun i=>.int (g i)):=by
 intro pins s σ H x v Q I rx h
 obtain ⟨i,rfl,q⟩:=h
 obtain ⟨t,rfl⟩:=rx
 exact rule i t s _ _ ⟨.int (g i),H,I.tok _,⟨_,rfl⟩,q⟩
theorem zfE:UnR X (unaryOp .USub) (rU fun i=>.int (-i)):=unI fun _ _ _ _ _ q=>neg_int q
end
noncomputable def scal:V→V→Bool
 | .non,.non=>true | .non,.int _=>true | .int _,.non=>true | .non,.bl _=>true | .bl _,.non=>true | .non,.str _=>true | .str _,.non=>true
 | .int _,.int _=>true | .bl _,.bl _=>true | .str _,.str _=>true | .byt _,.byt _=>true
 | .int _,.str _=>true | .str _,.int _=>true | .bl _,.str _=>true | .str _,.bl _=>true
 | _,_=>false
noncomputable def rEq:R2:=fun x y H Q=>scal x y=true∧Q (.bl (decide (x=y))) H
noncomputable def rNe:R2:=fun x y H Q=>scal x y=true∧Q (.bl (!decide (x=y))) H
theorem zlC {i j:Int}:decide (V.int i=V.int j)=(i==j):=by
 rw [Bool.eq_iff_iff]
 simp
theorem zno {i j:Bool}:decide (V.bl i=V.bl j)=(i==j):=by
 rw [Bool.eq_iff_iff]
 simp
theorem zlN {i j:Str}:decide (V.str i=V.str j)=(i==j):=by
 rw [Bool.eq_iff_iff]
 simp
theorem zlI {i j:Array UInt8}:decide (V.byt i=V.byt j)=(i.toList==j.toList):=by
 rw [Bool.eq_iff_iff]
 cases i
 cases j
 simp
section
variable {X:Cx} {a b c:Expr} {ta tb tc:TE} {pos:Pos}
theorem zbm {pins:List (Addr×Obj)}{σ :St}{H:Hp}{s:Shared}{Q:VK}{k k':Bool}(I:Inv X pins σ H s)(q:Q (.bl k) H)(e:k=k'):EP X pins σ Q (.bool k') s:=by
 subst e
 exact ⟨.bl k,H,I,rfl,q⟩
theorem zc3:OpR X (compareOp .Eq) rEq:=by
 intro pins s σ H x y v u Q I rx ry h
 obtain ⟨hs,q⟩:=h
 cases x with
 | non=>
  cases rx
  cases y with
  | non=>cases ry;exact PySem.EqNone.eq_none_none (zbm I q (by simp))
  | bl j=>cases ry;exact PySem.EqNone.eq_none_bool (zbm I q (by simp))
  | int j=>obtain ⟨t',rfl⟩:=ry;exact PySem.EqNone.eq_none_int (zbm I q (by simp))
  | str j=>obtain ⟨t',rfl⟩:=ry;exact PySem.EqNone.eq_none_str (zbm I q (by simp))
  | _=>exact absurd (show false=true from hs) Bool.false_ne_true
 | bl i=>
  cases rx
  cases y with
  | non=>cases ry;exact PySem.EqNone.eq_bool_none (zbm I q (by simp))
  | bl j=>cases ry;exact eq_bool (zbm I q zno)
  | str j=>obtain ⟨t',rfl⟩:=ry;exact PySem.EqMixed.eq_bool_str (zbm I q (by simp))
  | _=>exact absurd (show false=true from hs) Bool.false_ne_true
 | int i=>
  obtain ⟨t,rfl⟩:=rx
  cases y with
  | non=>cases ry;exact PySem.EqNone.eq_int_none (zbm I q (by simp))
  | int j=>obtain ⟨t',rfl⟩:=ry;exact eq_int (zbm I q zlC)
  | str j=>obtain ⟨t',rfl⟩:=ry;exact PySem.EqMixed.eq_int_str (zbm I q (by simp))
  | _=>exact absurd (show false=true from hs) Bool.false_ne_true
 | str i=>
  obtain ⟨t,rfl⟩:=rx
  cases y with
  | non=>cases ry;exact PySem.EqNone.eq_str_none (zbm I q (by simp))
  | bl j=>cases ry;exact PySem.EqMixed.eq_str_bool (zbm I q (by simp))
  | int j=>obtain ⟨t',rfl⟩:=ry;exact PySem.EqMixed.eq_str_int (zbm I q (by simp))
  | str j=>obtain ⟨t',rfl⟩:=ry;exact eq_str (zbm I q zlN)
  | _=>exact absurd (show false=true from hs) Bool.false_ne_true
 | byt i=>
  obtain ⟨t,rfl⟩:=rx
  cases y with
  | byt j=>obtain ⟨t',rfl⟩:=ry;exact PySem.W.eq_bytes (zbm I q zlI)
  | _=>exact absurd (show false=true from hs) Bool.false_ne_true
 | _=>cases y <;> exact absurd (show false=true from hs) Bool.false_ne_true
theorem op_ne:OpR X (compareOp .NotEq) rNe:=by
 intro pins s σ H x y v u Q I rx ry h
 obtain ⟨hs,q⟩:=h
 cases x with
 | non=>
  cases rx
  cases y with
  | non=>cases ry;exact PySem.EqNone.ne_none_none (zbm I q (by simp))
  | bl j=>cases ry;exact PySem.EqNone.ne_none_bool (zbm I q (by simp))
  | int j=>obtain ⟨t',rfl⟩:=ry;exact PySem.EqNone.ne_none_int (zbm I q (by simp))
  | str j=>obtain ⟨t',rfl⟩:=ry;exact PySem.EqNone.ne_none_str (zbm I q (by simp))
  | _=>exact absurd (show false=true from hs) Bool.false_ne_true
 | bl i=>
  cases rx
  cases y with
  | non=>cases ry;exact PySem.EqNone.ne_bool_none (zbm I q (by simp))
  | bl j=>cases ry;exact ne_bool (zbm I q (congrArg not zno))
  | str j=>obtain ⟨t',rfl⟩:=ry;exact PySem.EqMixed.ne_bool_str (zbm I q (by simp))
  | _=>exact absurd (show false=true from hs) Bool.false_ne_true
 | int i=>
  obtain ⟨t,rfl⟩:=rx
  cases y with
  | non=>cases ry;exact PySem.EqNone.ne_int_none (zbm I q (by simp))
  | int j=>obtain ⟨t',rfl⟩:=ry;exact ne_int (zbm I q (congrArg not zlC))
  | str j=>obtain ⟨t',rfl⟩:=ry;exact PySem.EqMixed.ne_int_str (zbm I q (by simp))
  | _=>exact absurd (show false=true from hs) Bool.false_ne_true
 | str i=>
  obtain ⟨t,rfl⟩:=rx
  cases y with
  | non=>cases ry;exact PySem.EqNone.ne_str_none (zbm I q (by simp))
  | bl j=>cases ry;exact PySem.EqMixed.ne_str_bool (zbm I q (by simp))
  | int j=>obtain ⟨t',rfl⟩:=ry;exact PySem.EqMixed.ne_str_int (zbm I q (by simp))
  | str j=>obtain ⟨t',rfl⟩:=ry;exact ne_str (zbm I q (congrArg not zlN))
  | _=>exact absurd (show false=true from hs) Bool.false_ne_true
 | byt i=>
  obtain ⟨t,rfl⟩:=rx
  cases y with
  | byt j=>obtain ⟨t',rfl⟩:=ry;exact PySem.W.ne_bytes (zbm I q (congrArg not zlI))
  | _=>exact absurd (show false=true from hs) Bool.false_ne_true
 | _=>cases y <;> exact absurd (show false=true from hs) Bool.false_ne_true
theorem op_lt:OpR X (compareOp .Lt) (rI0 fun i j=>.bl (decide (i < j))):=opB0 fun _ _ _ _ _ _ _ q=>lt_int q
theorem op_gt:OpR X (compareOp .Gt) (rI0 fun i j=>.bl (decide (j < i))):=opB0 fun _ _ _ _ _ _ _ q=>gt_int q
theorem zm0:OpR X (compareOp .GtE) (rI0 fun i j=>.bl (decide (j≤i))):=opB0 fun _ _ _ _ _ _ _ q=>ge_int q
theorem za1 (b:Expr){op:CmpOp}(h:op≠.In:=by decide)(h2:op≠.NotIn:=by decide):behindInMarks op b=false:=by
 have e1:(op==CmpOp.In)=false:=by cases op <;> first | rfl | exact absurd rfl h
 have e2:(op==CmpOp.NotIn)=false:=by cases op <;> first | rfl | exact absurd rfl h2
 cases b <;> simp [behindInMarks,e1,e2]
theorem znT {op:CmpOp}{r:R2}(ho:OpR X (compareOp op) r)(ha:PE X a ta)(hb:PE X b tb)(hm:behindInMarks op b=false):PE X (.Compare a [op] [b] pos) (tOp r ta tb):=by
 intro pins s σ H Q I h
 exact wpAny_Compare1 (binT ha hb I h fun v u s2 x y H2 I2 rx ry q=>ho pins s2 σ H2 x y v u Q I2 rx ry q) hm
noncomputable def tTest (t:TE):TT:=fun σ H Q=>t σ H fun x H'=>∃ k,x= .bl k∧Q k H'
theorem zn0 {op:CmpOp}{r:R2}(ho:OpR X (compareOp op) r)(ha:PE X a ta)(hb:PE X b tb)(hm:behindInMarks op b=false):PT X (.Compare a [op] [b] pos) (tTest (tOp r ta tb)):=by
 intro pins s σ H Q I h
 refine wpAny_isTrue_Compare1 (thn (ha pins s σ H _ I h) fun v s1 ⟨x,H1,I1,r1,q1⟩=>thn (hb pins s1 σ H1 _ I1 q1) fun u s2 ⟨y,H2,I2,r2,q2⟩=>
  thn (ho pins s2 σ H2 x y v u _ I2 r1 r2 q2) fun c s3 ⟨z,H3,I3,r3,k,e,q3⟩=>?_) hm
 subst e
 cases r3
 exact wpAny_truthy_bool ⟨H3,I3,q3⟩
theorem zk3:(sizeLine:Nat) < 2 ^ 63:=by rw [sizeLine_eq];decide
theorem zgW {x:V}{us:List Value}(r:Vals [x] us):∃ u,us= [u]∧RelV x u:=by
 cases r with
 | cons r1 r2=>cases r2;exact ⟨_,rfl,r1⟩
theorem vals2 {x y:V}{us:List Value}(r:Vals [x,y] us):∃ u w',us= [u,w']∧RelV x u∧RelV y w':=by
 cases r with
 | cons r1 r2=>
  cases r2 with
  | cons r3 r4=>cases r4;exact ⟨_,_,rfl,r1,r3⟩
theorem zlO (hc:X.calm=true):zey X (.builtin "min") (fun xs H Q=>∃ i j,xs= [.int i,.int j]∧Q (.int (if j < i then j else i)) H):=by
 intro pins s σ H xs us Q I r h
 obtain ⟨i,j,rfl,q⟩:=h
 obtain ⟨u,w',rfl,⟨t,rfl⟩,⟨t',rfl⟩⟩:=vals2 r
 refine min_two_ints (I.ok.hd hc) fun h' tk k=>⟨_,H,I.kept k,?_,q⟩
 by_cases hj:j < i
 ·rw [if_pos hj,if_pos hj];exact ⟨_,rfl⟩
 ·rw [if_neg hj,if_neg hj];exact ⟨_,rfl⟩
theorem zcM:zey X (.type "int") (fun xs H Q=>(∃ i,xs= [.int i]∧Q (.int i) H)∨∃ k,xs= [.bl k]∧Q (.int (if k then 1 else 0)) H):=by
 intro pins s σ H xs us Q I r h
 rcases h with ⟨i,rfl,q⟩ | ⟨k,rfl,q⟩
 ·obtain ⟨u,rfl,t,rfl⟩:=zgW r
  exact call_int_int ⟨.int i,H,I,⟨_,rfl⟩,q⟩
 ·obtain ⟨u,rfl,r1⟩:=zgW r
  cases r1
  exact call_int_bool ⟨.int (if k then 1 else 0),H,I.tok _,⟨_,rfl⟩,q⟩
end
end L2
namespace L2
open PySem PySem.Spec PyProof.Rows
section
variable {prog:Program} {w:World} {A:Around} {E:Value→Shared→Prop} {s:Shared} {K:PySem.W.Frag} {x dx C f:Addr} {mA:Str→Option Value} {name:Str} {v:Value}
end
theorem RelO.some_of {v:V}{o:Option Value}(r:RelO (some v) o):∃ u,o=some u∧RelV v u:=by
 cases o with
 | none=>exact (show False from r).elim
 | some u=>exact ⟨u,rfl,r⟩
section
variable {P:Program} {w:World} {H H':Hp} {h h':Heap} {a C dx:Addr} {fs fs':List (Str×V)}
end
section
variable {X:Cx} {pins:List (Addr×Obj)} {σ :St} {H:Hp} {s:Shared} {a C dx:Addr} {fs:List (Str×V)} {f:Str} {v:V} {A:Around} {E:Value→Shared→Prop}
end
section
variable {X:Cx} {o e value:Expr} {f:Str} {pos pos' tpos:Pos} {ta tv:TE}
end
section
variable {X:Cx} {pins:List (Addr×Obj)} {σ :St} {H:Hp} {s:Shared} {A:Around} {E:Value→Shared→Prop} {Q:Value→Shared→Prop} {c:Value} {b:Bool}
end
end L2
namespace L2
open PySem PySem.Spec PyProof.Rows
structure Room (k:Nat) (A:Around):Prop where
 hd:A.handled=none
 dp:A.depth+3 * k+5 < recursionLimit
 un:A.units+16 * k+200 < cLine
 gd:A.guards=some []
theorem Room.mono {j k:Nat}{A:Around}(r:Room k A)(h:j≤k):Room j A:=⟨r.hd,by have:=r.dp;omega,by have:=r.un;omega,r.gd⟩
theorem Room.deeper {k:Nat}{A:Around}(r:Room (k+1) A)(env:Env):Room k (A.deeper env):=
 ⟨r.hd,by have:=r.dp;show A.depth+1+3 * k+5 < _;omega,by have:=r.un;show A.units+3+16 * k+200 < _;omega,r.gd⟩
theorem Room.depth {k:Nat}{A:Around}(r:Room k A):A.depth < recursionLimit:=by have:=r.dp;omega
theorem Room.units {k:Nat}{A:Around}(r:Room k A):A.units+64 < cLine:=by have:=r.un;omega
noncomputable def tNil:TA:=fun _ H Q=>Q [] H
noncomputable def tCons (ta:TE) (tr:TA):TA:=fun σ H Q=>ta σ H fun x H1=>tr σ H1 fun xs H2=>Q (x::xs) H2
section
variable {X:Cx} {e:Expr} {es:List Expr} {te:TE} {t:TA} {pos:Pos}
theorem pa_nil:PA X [] tNil:=fun _ _ _ _ H Q I h=>Calls.spliced_nil ⟨[],H,I,.nil,h⟩
theorem zow (ha:PE X e te)(hr:PA X es t)(hs:starEach (e::es) X.env=(false,eval e X.env)::starEach es X.env:=by rfl):PA X (e::es) (tCons te t):=by
 intro pos pins s σ H Q I h
 rw [hs]
 show wpAny _ _ (spliced ((false,eval e X.env)::backTo pos (starEach es X.env))) _ _ s
 refine Calls.spliced_cons (thn (ha pins s σ H _ I h) fun u s1 ⟨x,H1,I1,r1,q1⟩=>?_)
 exact thn (hr pos pins s1 σ H1 _ I1 q1) fun us s2 ⟨xs,H2,I2,r2,q2⟩=>⟨x::xs,H2,I2,.cons r1 r2,q2⟩
noncomputable def tTup (t:TA):TE:=fun σ H Q=>t σ H fun xs H1=>xs.length≤sizeLine∧∀ p,H1 p=none→Q (.ref p) (upd H1 p (.tup xs))
noncomputable def tLst (t:TA):TE:=fun σ H Q=>t σ H fun xs H1=>xs.length≤sizeLine∧∀ p,H1 p=none→Q (.ref p) (upd H1 p (.lst xs))
theorem pe_tup {x1}(h:PA X es t):PE X (.Tuple es x1 pos) (tTup t):=by
 intro pins s σ H Q I hq
 refine wpAny_Tuple_spliced (thn (h pos pins s σ H _ I hq) fun us s1 ⟨xs,H1,I1,r,z,q⟩=>⟨by rw [← r.length];exact z,?_⟩)
 have hf:H1 s1.heap.objs.size=none:=I1.hok.fresh (Nat.le_refl _)
 refine ⟨.ref s1.heap.objs.size,upd H1 s1.heap.objs.size (.tup xs),I1.laid (t':=s1.toks) (fun b u e=>Heap.get?_push_of_some _ e) (Nat.le_refl _) ?_,rfl,q _ hf⟩
 exact ⟨z,us,r,⟨_,Heap.get?_push_size _ rfl,rfl,_,rfl⟩⟩
theorem pe_lst (h:PA X es t):PE X (.List es pos) (tLst t):=by
 intro pins s σ H Q I hq
 refine wpAny_List_spliced (thn (h pos pins s σ H _ I hq) fun us s1 ⟨xs,H1,I1,r,z,q⟩=>⟨by rw [← r.length];exact z,?_⟩)
 have hf:H1 s1.heap.objs.size=none:=I1.hok.fresh (Nat.le_refl _)
 refine ⟨.ref s1.heap.objs.size,upd H1 s1.heap.objs.size (.lst xs),I1.laid (t':=s1.toks) (fun b u e=>Heap.get?_push_of_some _ e) (Nat.le_refl _) ?_,rfl,q _ hf⟩
 exact ⟨z,us,0,r,Heap.get?_push_size _ rfl⟩
end
noncomputable abbrev Sp:=List V→Hp→VK→XK→Prop
noncomputable abbrev CXT:=List Env→Hp→Shared→XK→Value→Shared→Prop
structure Env0 (P:Program) (w:World) (K:PySem.W.Frag) (mg:Str→Option Value) (base:Heap) (A:Around) (outer:List Env) (s:Shared) (H:Hp):Prop where
 frames:A.frames=some outer
 mod:Mod K mg base
 bs:∀ b o,base.get? b=some o→s.heap.get? b=some o∧H b=none
 bsz:base.objs.size≤s.heap.objs.size
 funs:s.heap.FunFrames base outer
 frf:∀ b∈frs outer,H b=none
 hok:HOk P w H s.heap
 bare:AllBare s.gens
noncomputable def CE (outer:List Env) (P:Program) (w:World) (H:Hp) (s:Shared) (Q:VK) (u:Value) (s':Shared):Prop:=
 ∃ v H',s'.os=s.os∧AllBare s'.gens∧Un (frs outer) [] H H' s.heap s'.heap∧HOk P w H' s'.heap∧RelV v u∧Q v H'
noncomputable def CR (CX:CXT) (outer:List Env) (P:Program) (w:World) (H:Hp) (s:Shared) (Q:VK) (E:XK) (r:Result) (s':Shared):Prop:=
 match r with
 | .ok (.ret u)=>CE outer P w H s Q u s'
 | .ok _=>False
 | .error e=>CX outer H s E e s'
structure FnOk (P:Program) (w:World) (K:PySem.W.Frag) (mg:Str→Option Value) (base:Heap) (CX:CXT) (k:Nat) (f:Addr) (fd:FuncData) (ps:List Str) (sp:Sp):Prop where
 len:∀ vs H Q E,sp vs H Q E→vs.length=ps.length
 run:∀ (A:Around) (outer:List Env) (s:Shared) (H:Hp) (args:Args) (us:List Value) (vs:List V) (Q:VK) (E:XK),Room k A→Env0 P w K mg base A outer s H→BindsTo s fd args (ps.zip us)→Vals vs us→sp vs H Q E→
  codeAny (model P w) A (.call (.ref f) args) (CR CX outer P w H s Q E) s
theorem FnOk.imp {P:Program}{w:World}{K:PySem.W.Frag}{mg:Str→Option Value}{base:Heap}{CX:CXT}{k:Nat}{f:Addr}{fd:FuncData}{ps:List Str}{sp sp':Sp}(F:FnOk P w K mg base CX k f fd ps sp)
  (h:∀ vs H Q E,sp' vs H Q E→sp vs H Q E):FnOk P w K mg base CX k f fd ps sp':=
 ⟨fun vs H Q E q=>F.len vs H Q E (h _ _ _ _ q),fun A outer s H args us vs Q E hr he hb hv hs=>F.run A outer s H args us vs Q E hr he hb hv (h _ _ _ _ hs)⟩
section
variable {X:Cx} {pins:List (Addr×Obj)} {σ :St} {H:Hp} {s s':Shared}
theorem Inv.env0 (I:Inv X pins σ H s):Env0 X.prog X.w X.K X.mg X.base X.A X.stack s H:=
 ⟨I.ok.frames,I.ok.mod,I.bs,Nat.le_trans I.ok.bsz I.sz,I.stack,I.stkFree,I.hok,I.bare⟩
theorem Inv.after {Q:VK}{u:Value}(I:Inv X pins σ H s)(h:CE X.stack X.prog X.w H s Q u s'):EP X pins σ Q u s':=by
 obtain ⟨v,H',os,bare,un,hok,r,q⟩:=h
 obtain ⟨hh,g,d,t,os'⟩:=s'
 obtain rfl:os'=s.os:=os
 exact ⟨v,H',I.call (h':=hh) (g':=g) (d':=d) (t':=t) (ch:=[]) un hok bare (fun b z=>absurd z (by simp)),r,q⟩
end
noncomputable def tCall (sp:Sp) (dvs:List V) (E:XK) (t:TA):TE:=fun σ H Q=>t σ H fun vs H1=>sp (vs++dvs) H1 Q E
noncomputable def zgY (K:PySem.W.Frag) (fd:FuncData) (ps:List Str) (ds:List Value):Prop:=
 ∀ (s:Shared) (us:List Value),K.In s.heap→(us++ds).length=ps.length→BindsTo s fd ⟨us,[]⟩ (ps.zip (us++ds))
theorem zgY.all {K:PySem.W.Frag}{fd:FuncData}{ps:List Str}(h:∀ us:List Value,us.length=ps.length→bindArgs fd ⟨us,[]⟩=pure (ps.zip us)):zgY K fd ps []:=fun s us _ hl=>by
 rw [List.append_nil] at hl ⊢
 exact .of_eq (h us hl)
noncomputable def zkg (CX:CXT) (X:Cx) (E:XK):Prop:=∀ (pins:List (Addr×Obj)) (σ :St) (H:Hp) (s:Shared) (e:Value) (s':Shared),Inv X pins σ H s→CX X.stack H s E e s'→X.xe e s'
section
variable {X:Cx} {CX:CXT} {k:Nat} {f C:Addr} {fd:FuncData} {ps:List Str} {sp:Sp} {dvs:List V} {ds:List Value} {E:XK} {x m:Str} {p pos apos:Pos} {e o:Expr} {es:List Expr} {ta:TE} {t:TA}
theorem run_fn {pins:List (Addr×Obj)}{σ :St}{H:Hp}{s:Shared}{Q:VK}{us:List Value}{vs:List V}(F:FnOk X.prog X.w X.K X.mg X.base CX k f fd ps sp)(hr:Room k X.A)(hb:zgY X.K fd ps ds)(hd:Vals dvs ds)(hx:zkg CX X E)
  (I:Inv X pins σ H s) (r:Vals vs us) (h:sp (vs++dvs) H Q E):wpAny (model X.prog X.w) X.A (call (.ref f) us) (EP X pins σ Q) X.xe s:=by
 have r2:Vals (vs++dvs) (us++ds):=r.append hd
 have hl:(us++ds).length=ps.length:=by rw [← r2.length];exact F.len _ _ _ _ h
 refine wpAny_call (codeAny_mono (F.run X.A X.stack s H ⟨us,[]⟩ (us++ds) (vs++dvs) Q E hr I.env0 (hb s us I.kIn hl) r2 h) fun r s' hq=>?_)
 cases r with
 | error e=>exact hx pins σ H s e s' I hq
 | ok fl=>
  cases fl with
  | ret u=>exact I.after hq
  | next=>exact False.elim hq
  | brk=>exact False.elim hq
  | cont=>exact False.elim hq
theorem znW (F:FnOk X.prog X.w X.K X.mg X.base CX k f fd ps sp)(hr:Room k X.A)(hg:Gl X x)(hm:X.mg x=some (.ref f))(hk:PySem.W.keepIn X.K (.ref f)=true)(hb:zgY X.K fd ps ds)(hd:Vals dvs ds)(hx:zkg CX X E)
  (ha:PA X (e::es) t) (hdb:(x==("__debug__" :Str))=false:=by decide) (he:starEach (e::es) X.env=(false,eval e X.env)::starEach es X.env:=by rfl) (hpl:(backTo pos (starEach es X.env)).any (·.1)=false:=by rfl):
  PE X (.Call (.Name x p) (e::es) [] pos) (tCall sp dvs E t):=by
 intro pins s σ H Q I h
 refine wpAny_Call_Name_kw (zk5 I hg hm ?_ hdb)
 refine PySem.W.callWith_K (h₀ :=X.base) I.ok.mod.kin hk (thn (ha pos pins s σ H _ I h) fun us s1 ⟨vs,H1,I1,r,q⟩=>⟨I1.kIn,?_⟩) he hpl
 exact run_fn F hr hb hd hx I1 r q
end
section
variable {X:Cx} {CX:CXT} {k:Nat} {f C:Addr} {fd:FuncData} {ps ks:List Str} {sp:Sp} {E:XK} {x m:Str} {p pos apos kpos:Pos} {e o:Expr} {es:List Expr} {kws:List Keyword} {te ta:TE} {t tk:TA} {nm:Option Str}
variable {g:List Value→List Value→List Value} {gV:List V→List V→List V}
end
structure zay (N P:List Str) (sc:Scope):Prop where
 kind:sc.kind= .function
 co:sc.isCoroutine=false
 gen:sc.isGenerator=false
 nd:N.Nodup
 pre:N.take P.length=P
 par:∀ x∈P,sc.names.lookup x=some .local∨sc.names.lookup x=some .cell
 nofree:∀ y∈sc.names,y.2≠.free
theorem ziu {kindOf:Str→Option NameKind}{x:Str}:∀ {binds:List (Str×Value)} {m:Str→Option Value},(∀ v,(x,v)∉binds)→bindL kindOf binds m x=m x
 | [],_,_=>rfl
 | (n,v)::r,m,h=>by
  unfold bindL
  rw [ziu fun w hw=>h w (List.mem_cons_of_mem _ hw)]
  split
  ·have:x≠n:=by rintro rfl;exact h v List.mem_cons_self
   simp [this]
  ·rfl
theorem zi0 {kindOf:Str→Option NameKind}{x:Str}:∀ {binds:List (Str×Value)} {m:Str→Option Value},(∀ v,(x,v)∉binds)→bindC kindOf binds m x=m x
 | [],_,_=>rfl
 | (n,v)::r,m,h=>by
  unfold bindC
  rw [zi0 fun w hw=>h w (List.mem_cons_of_mem _ hw)]
  split
  ·rfl
  ·have:x≠n:=by rintro rfl;exact h v List.mem_cons_self
   simp [this]
theorem zh5 {kindOf:Str→Option NameKind}{x:Str}{v:Value}:∀ {P:List Str} {vs:List Value} {i:Nat} {m:Str→Option Value},P.Nodup→P[i]? =some x→vs[i]? =some v→kindOf x=some .local→
  bindL kindOf (P.zip vs) m x=some v
 | [],_,_,_,_,h,_,_=>by simp at h
 | _::_,[],_,_,_,_,h,_=>by simp at h
 | p::P,w::vs,0,m,nd,h1,h2,hk=>by
  simp at h1 h2;subst h1;subst h2
  show bindL kindOf ((p,w)::P.zip vs) m p=_
  unfold bindL
  rw [ziu fun v hv=>(List.nodup_cons.mp nd).1 (List.of_mem_zip hv).1,if_pos hk]
  simp
 | p::P,w::vs,i+1,m,nd,h1,h2,hk=>by
  show bindL kindOf ((p,w)::P.zip vs) m x=_
  unfold bindL
  exact zh5 (i:=i) (List.nodup_cons.mp nd).2 (by simpa using h1) (by simpa using h2) hk
theorem ziB {kindOf:Str→Option NameKind}{x:Str}{v:Value}:∀ {P:List Str} {vs:List Value} {i:Nat} {m:Str→Option Value},P.Nodup→P[i]? =some x→vs[i]? =some v→kindOf x≠some .local→
  bindC kindOf (P.zip vs) m x=some v
 | [],_,_,_,_,h,_,_=>by simp at h
 | _::_,[],_,_,_,_,h,_=>by simp at h
 | p::P,w::vs,0,m,nd,h1,h2,hk=>by
  simp at h1 h2;subst h1;subst h2
  show bindC kindOf ((p,w)::P.zip vs) m p=_
  unfold bindC
  rw [zi0 fun v hv=>(List.nodup_cons.mp nd).1 (List.of_mem_zip hv).1,if_neg hk]
  simp
 | p::P,w::vs,i+1,m,nd,h1,h2,hk=>by
  show bindC kindOf ((p,w)::P.zip vs) m x=_
  unfold bindC
  exact ziB (i:=i) (List.nodup_cons.mp nd).2 (by simpa using h1) (by simpa using h2) hk
noncomputable def start (N:List Str) (vs:List V):St:=vs.map some++List.replicate (N.length - vs.length) none
noncomputable def cxOf (CX:CXT) (P:Program) (w:World) (K:PySem.W.Frag) (mg:Str→Option Value) (base:Heap) (N:List Str) (qual:Str) (scope:Scope) (f:Addr) (cd:Value) (A:Around) (outer:List Env) (s:Shared) (H:Hp) (E:XK):Cx where
 prog:=P
 w:=w
 K:=K
 mg:=mg
 base:=base
 A:=A.deeper (envOfC qual scope s.heap.objs.size f cd)
 N:=N
 s₀ :=s
 H₀ :=H
 env:=envOfC qual scope s.heap.objs.size f cd
 outer:=outer
 stack:=envOfC qual scope s.heap.objs.size f cd::outer
 ex:=[]
 calm:=true
 fn:=fun _=>true
 pn:=[]
 xe:=fun e s'=>wpAny (model P w) (A.deeper (envOfC qual scope s.heap.objs.size f cd)) (leaving (envOfC qual scope s.heap.objs.size f cd) e) (fun _ s''=>CX outer H s E e s'') (fun e' s''=>CX outer H s E e' s'') s'
theorem zjZ {sc:Scope}{n:Nat}{x:Str}(h:sc.names.lookup x=some .cell):∃ c,(cellsFrom n sc.names []).lookup x=some c:=by
 have q:=PySem.W.cellsFrom_some sc.names n [] (.inl h)
 exact Option.isSome_iff_exists.mp q
theorem zmk {CX:CXT}{P:Program}{w:World}{K:PySem.W.Frag}{mg:Str→Option Value}{base:Heap}{N ps:List Str}{qual:Str}{scope:Scope}{f:Addr}{cd:Value}{A:Around}{outer:List Env}{s s1:Shared}{H:Hp}{E:XK}{us:List Value}{vs:List V}
  (S:zay N ps scope) (hd:A.handled=none) (e0:Env0 P w K mg base A outer s H) (hl:vs.length=ps.length) (r:Vals vs us)
  (x:InCallC s s.heap.objs.size (bindL (envOfC qual scope s.heap.objs.size f cd).kindOf (ps.zip us) fun _=>none) (cellsFrom (s.heap.objs.size+1) scope.names []) (bindC (envOfC qual scope s.heap.objs.size f cd).kindOf (ps.zip us) fun _=>none) s1):
  Inv (cxOf CX P w K mg base N qual scope f cd A outer s H E) [] (start N vs) H s1:=by
 have hpl:ps.length≤N.length:=by have:=congrArg List.length S.pre;rw [List.length_take] at this;omega
 obtain ⟨h1,tk,rfl,hk⟩:=x.done
 have noA:∀ b:Addr,b∉(cxOf CX P w K mg base N qual scope f cd A outer s H E).ex:=fun b z=>absurd (show b∈([]:List Addr) from z) (by simp)
 refine ⟨⟨e0.mod,S.kind,rfl,rfl,Nat.le_refl _,fun y z c h1 h2=>?_,fun y hy=>?_,fun y c _ h=>?_,fun _=>hd,Around.frames_deeper e0.frames,.inr ⟨rfl,rfl⟩,fun b z=>absurd z (noA b),e0.bs,e0.bsz,fun b _ _=>noA b,fun b z=>absurd z (noA b),e0.funs,e0.frf⟩,
  rfl,e0.bare,Un.kept hk,⟨_,x.toInCall.ns,fun i y v h1 h2 h3=>?_⟩,fun y c h=>⟨_,x.cell y c h⟩,e0.hok.fresh (Nat.le_refl _),fun y c h=>?_,fun p hp=>absurd (show p∈([]:List (Addr×Obj)) from hp) (by simp),e0.hok.kept hk,?_⟩
 ·exact name_of_addr x.apart (PySem.mem_of_lookup h1) (PySem.mem_of_lookup h2)
 ·have hy:scope.names.lookup y=some .cell∨scope.names.lookup y=some .free:=hy
  rcases hy with hy | hy
  ·exact zjZ hy
  ·exact absurd rfl (S.nofree _ (PySem.mem_of_lookup hy))
 ·exact Nat.le_of_lt (x.above y c (PySem.mem_of_lookup h))
 ·have hi:i < vs.length:=by
   unfold start at h2
   by_cases hi:i < vs.length
   ·exact hi
   ·rw [List.getElem?_append_right (by simpa using hi)] at h2
    rw [List.getElem?_replicate] at h2
    split at h2 <;> cases h2
  have ha:vs[i]? =some v:=by
   unfold start at h2
   rw [List.getElem?_append_left (by simpa using hi),List.getElem?_map] at h2
   cases e:vs[i]? with
   | none=>rw [e] at h2;cases h2
   | some a=>rw [e] at h2;cases h2;rfl
  obtain ⟨u,hu,rv⟩:=r.get ha
  have hp:ps[i]? =some y:=by
   rw [← S.pre,List.getElem?_take_of_lt (by omega)];exact h1
  have ndP:ps.Nodup:=by rw [← S.pre];exact S.nd.sublist (List.take_sublist _ _)
  refine ⟨u,rv,?_⟩
  rcases S.par y (List.mem_of_getElem? hp) with k | k
  ·exact .inl ⟨k,zh5 ndP hp hu k⟩
  ·obtain ⟨c,e⟩:=zjZ (n:=s.heap.objs.size+1) k
   refine .inr ⟨.inl k,c,e,?_⟩
   have q:=x.cell y c e
   rw [ziB ndP hp hu (by show scope.names.lookup y≠_;rw [k];decide)] at q
   exact q
 ·exact e0.hok.fresh (Nat.le_of_lt (x.above y c (PySem.mem_of_lookup h)))
 ·unfold start
  show _=N.length
  rw [List.length_append,List.length_map,List.length_replicate]
  omega
theorem fn_of {CX:CXT}{P:Program}{w:World}{K:PySem.W.Frag}{mg:Str→Option Value}{base:Heap}{k:Nat}{f:Addr}{name qual:Str}{params:Arguments}{body:List Stmt}{scope:Scope}{dV kV doc pm cdv ct oc:Value}{an od:Option Addr}
  {osl:Array (Option Value)} {N ps:List Str} {sp:Sp} (lk:K.lookup f=some ⟨oc,od,.func (PySem.W.fnOf name qual params body scope dV kV doc pm an cdv ct),osl⟩) (hcd:PySem.W.codeIn K cdv qual=true) (S:zay N ps scope)
  (len:∀ vs H Q E,sp vs H Q E→vs.length=ps.length)
  (hbody:∀ (A:Around) (outer:List Env) (s:Shared) (H:Hp) (vs:List V) (Q:VK) (E:XK),Room k (A.deeper (envOfC qual scope s.heap.objs.size f cdv))→sp vs H Q E→
   ∃ t,PSs (cxOf CX P w K mg base N qual scope f cdv A outer s H E) body t∧t {nx:=fun _ H'=>Q .non H',rt:=Q} (start N vs) H):
  FnOk P w K mg base CX (k+1) f (PySem.W.fnOf name qual params body scope dV kV doc pm an cdv ct) ps sp:=by
 refine ⟨len,fun A outer s H args us vs Q E hr e0 hb r hsp=>?_⟩
 have hl:=len _ _ _ _ hsp
 have KX:K.In s.heap:=e0.mod.kin.keeps fun b o e=>(e0.bs b o e).1
 have lim:s.heap.NoLimit:=e0.mod.nolimit.keeps fun b o e=>(e0.bs b o e).1
 have hkind:∀ y∈ps.zip us,scope.names.lookup y.1=some .local∨(scope.names.lookup y.1=some .cell∧((cellsFrom (s.heap.objs.size+1) scope.names []).lookup y.1).isSome=true):=fun ⟨n,v⟩ hy=>by
  rcases S.par n (List.of_mem_zip hy).1 with q | q
  ·exact .inl q
  ·exact .inr ⟨q,PySem.W.cellsFrom_some _ _ _ (.inl q)⟩
 refine codeAny_call_function hr.depth (KX _ _ lk) rfl S.co S.gen rfl (PySem.W.codeRec_of KX hcd) (hb _ _ _ _ ?_)
 refine wpAny_newFunctionEnv_cells S.kind hkind fun env he s1 x=>?_
 subst he
 refine ⟨lim.keeps x.toInCall.keep,codeAny_func ?_⟩
 obtain ⟨t,ht,hq⟩:=hbody A outer s H vs Q E (hr.deeper _) hsp
 have I:Inv (cxOf CX P w K mg base N qual scope f cdv A outer s H E) [] (start N vs) H s1:=zmk S hr.hd e0 hl r x
 refine wpAny_mono (ht [] s1 (start N vs) H _ I hq) (fun fl s' hs=>?_) fun e s' hs=>hs
 have fin:∀ {σ':St} {H':Hp} {v:V} {u:Value},Inv (cxOf CX P w K mg base N qual scope f cdv A outer s H E) [] σ' H' s'→RelV v u→Q v H'→CE outer P w H s Q u s':=
  fun {σ' H' v u} J rv q=>⟨v,H',J.os,J.bare,J.base,J.hok,rv,q⟩
 cases fl with
 | ret u=>
  obtain ⟨v,σ',H',J,rv,q⟩:=hs
  exact fin J rv q
 | next=>
  obtain ⟨σ',H',J,q⟩:=hs
  exact fin (v:=V.non) (u:=Value.none) J rfl q
 | brk=>
  obtain ⟨_,_,_,q⟩:=hs
  exact False.elim q
 | cont=>
  obtain ⟨_,_,_,q⟩:=hs
  exact False.elim q
end L2
namespace L2
open PySem PySem.Spec PyProof.Rows
section
variable {X:Cx} {x:Str} {p pos:Pos} {e:Expr} {es:List Expr} {t:TA} {id T:String} {r:List V→Hp→VK→Prop}
noncomputable def tCB (r:List V→Hp→VK→Prop) (t:TA):TE:=fun σ H Q=>t σ H fun vs H1=>r vs H1 Q
theorem zmT (hc:zey X (.builtin id) r)(hg:Gl X x)(hm:X.mg x=none)(hv:bootBuiltins x=some (.builtin id))(ha:PA X (e::es) t)(hn:x≠"__name__" :=by decide)(hdb:(x==("__debug__" :Str))=false:=by decide)
  (he:starEach (e::es) X.env=(false,eval e X.env)::starEach es X.env:=by rfl) (hpl:(backTo pos (starEach es X.env)).any (·.1)=false:=by rfl):PE X (.Call (.Name x p) (e::es) [] pos) (tCB r t):=by
 intro pins s σ H Q I h
 refine wpAny_Call_Name_kw (zgD I hg hm hv ?_ hn hdb)
 exact PyProof.Rows.callWith_builtin1 (thn (ha pos pins s σ H _ I h) fun us s1 ⟨vs,H1,I1,r1,q1⟩=>hc pins s1 σ H1 vs us Q I1 r1 q1) he hpl
theorem zmh (hc:zey X (.type T) r)(hg:Gl X x)(hm:X.mg x=none)(hv:bootBuiltins x=some (.type T))(ha:PA X (e::es) t)(hn:x≠"__name__" :=by decide)(hdb:(x==("__debug__" :Str))=false:=by decide)
  (he:starEach (e::es) X.env=(false,eval e X.env)::starEach es X.env:=by rfl) (hpl:(backTo pos (starEach es X.env)).any (·.1)=false:=by rfl):PE X (.Call (.Name x p) (e::es) [] pos) (tCB r t):=by
 intro pins s σ H Q I h
 refine wpAny_Call_Name_kw (zgD I hg hm hv ?_ hn hdb)
 exact PyProof.Rows.callWith_type1 (thn (ha pos pins s σ H _ I h) fun us s1 ⟨vs,H1,I1,r1,q1⟩=>hc pins s1 σ H1 vs us Q I1 r1 q1) he hpl
end
end L2
namespace HT
open PySem PyProof.Rows
theorem zjC (A:Around)(s:Shared)(a:Int)(t:Tok)(c:Int)(u:Tok)(prog:Program)(w:World)(E:Value→Shared→Prop)(Q:Value→Shared→Prop)(h:Q (.bool (decide (a < c))) s):
  wpAny (model prog w) A (richCompare .Lt (.int a t) (.int c u)) Q E s:=
 (PyProof.Rows.lt_int h:wpAny (model prog w) A (compareOp .Lt (.int a t) (.int c u)) Q E s)
section
open PySem.SeqAt
open PySem.AutoSeq1 (wpAny_loadPart')
open PySem.MeetsSeq PySem.MeetsSeq2 PySem.MeetsSeq3
end
section
variable {prog:Program} {w:World} {A:Around} {E:Value→Shared→Prop} {s:Shared}
theorem cat_tup {t b:Addr}{vs ws:List Value}{Q:Value→Shared→Prop}(ht:IsTup s.heap t vs.toArray)(hb:IsTup s.heap b ws.toArray)(hv:vs≠[])
  (h1:ws= []→Q (.ref t) s) (h2:ws≠[]→Q (.ref s.heap.objs.size) {s with heap:=s.heap.push {cls:=.type "tuple",data:=.seq (vs++ws).toArray}})
  (hsz:vs.length+ws.length≤sizeLine):wpAny (model prog w) A (binaryOp .Add (.ref t) (.ref b)) Q E s:=by
 obtain ⟨⟨cls,dd,data,sl⟩,ho,hc,n,hd⟩:=id ht
 obtain ⟨⟨cls2,dd2,data2,sl2⟩,ho2,hc2,n2,hd2⟩:=id hb
 simp only at hc hd hc2 hd2
 subst hc hd hc2 hd2
 have e:vs.toArray++ws.toArray=(vs++ws).toArray:=by simp
 by_cases hw:ws= []
 ·exact concat_meets ⟨_,ho,rfl⟩ ⟨_,ho2,rfl⟩ noFill_tuple_add seq_tuple_add PySem.F.slot_tuple_add PySem.F.entry_tuple_add (PySem.F.args_tuple_add_2 _ _)
   (tuple_addW1 t b vs.toArray ws.toArray n n2 dd dd2 sl sl2 (by simpa using hv) (by simp [hw])) ⟨ho,ho2,h1 hw⟩
 ·refine concat_meets ⟨_,ho,rfl⟩ ⟨_,ho2,rfl⟩ noFill_tuple_add seq_tuple_add PySem.F.slot_tuple_add PySem.F.entry_tuple_add (PySem.F.args_tuple_add_2 _ _)
   (tuple_addW2 t b vs.toArray ws.toArray n n2 dd dd2 sl sl2 (by simpa using hv) (by simpa using hw) (by rw [List.size_toArray,List.size_toArray];exact hsz)) ⟨ho,ho2,?_⟩
  rw [e]
  exact h2 hw
noncomputable def sIx (n d:Nat):Option Int→Nat
 | none=>d
 | some v=>if v < 0 then (v+(n:Int)).toNat else min v.toNat n
theorem sIx_none (n d:Nat):sIx n d none=d:=rfl
theorem sIx_nat (n d k:Nat):sIx n d (some (k:Int))=min k n:=by
 show (if (k:Int) < 0 then ((k:Int)+(n:Int)).toNat else min (k:Int).toNat n)=min k n
 rw [if_neg (by omega),Int.toNat_natCast]
theorem sIx_le (n d:Nat)(hd:d≤n)(o:Option Int):sIx n d o≤n:=by
 cases o with
 | none=>exact hd
 | some v=>
  show (if v < 0 then (v+(n:Int)).toNat else min v.toNat n)≤n
  by_cases hv:v < 0
  ·rw [if_pos hv];omega
  ·rw [if_neg hv];exact Nat.min_le_right _ _
theorem zlQ (v:Int)(n d:Nat):(if v < 0 then max (v+(n:Int)) 0 else min v (n:Int))=((sIx n d (some v):Nat):Int):=by
 show (if v < 0 then max (v+(n:Int)) 0 else min v (n:Int))=(((if v < 0 then (v+(n:Int)).toNat else min v.toNat n):Nat):Int)
 by_cases hv:v < 0
 ·simp only [if_pos hv];omega
 ·simp only [if_neg hv];omega
theorem zkj (lo hi:Option Int)(n:Nat):Builtin.Slice.sliceAdjust lo hi 1 (n:Int)=(((sIx n 0 lo:Nat):Int),((sIx n n hi:Nat):Int)):=by
 have h1:¬((1:Int) < 0):=by omega
 unfold Builtin.Slice.sliceAdjust
 simp only [h1,if_false]
 refine Prod.ext ?_ ?_
 ·cases lo with
  | none=>rfl
  | some v=>exact zlQ v n 0
 ·cases hi with
  | none=>rfl
  | some v=>exact zlQ v n n
theorem zkp (i j:Nat):Builtin.Slice.slicePlaces (i:Int) (j:Int) 1=j - i:=by
 unfold Builtin.Slice.slicePlaces
 have h1:(1:Int) > 0:=by omega
 simp only [h1,if_true,Int.ediv_one]
 split <;> omega
theorem zhc {v:Value}{o:Option Int}{Q:Option Int→Shared→Prop}(p:IsPart v o)(h:Q o s):wpAny (model prog w) A (Builtin.Slice.slicePartIndex v) Q E s:=by
 cases p with
 | none=>exact slicePart_none h
 | int i t=>exact slicePart_int h
theorem zfR {sl:Addr}{vl vu:Value}{lo hi:Option Int}{n:Nat}{Q:Int×Int×Nat→Shared→Prop}(hs:s.heap.IsSliceOf sl vl vu .none)(pl:IsPart vl lo)(pu:IsPart vu hi)
  (h:Q (((sIx n 0 lo:Nat):Int),1,sIx n n hi - sIx n 0 lo) s):wpAny (model prog w) A (Builtin.Slice.sliceApplied (.ref sl) (pure (n:Int))) Q E s:=by
 obtain ⟨os,hos,hcs,hds⟩:=id hs
 unfold Builtin.Slice.sliceApplied Builtin.Slice.sliceFields
 refine wpAny_bind (wpAny_bind (wpAny_field hos hds (x:=vl) rfl (wpAny_bind (wpAny_field hos hds (x:=vu) rfl (wpAny_bind (wpAny_field hos hds (x:=.none) rfl (wpAny_pure ?_)))))))
 refine wpAny_bind (slicePart_none ?_)
 show wpAny _ _ (if ((1:Int)==0)=true then _ else _) _ _ s
 rw [if_neg (by decide)]
 refine wpAny_bind (zhc pl (wpAny_bind (zhc pu (wpAny_bind (wpAny_pure ?_)))))
 show wpAny _ _ (match Builtin.Slice.sliceAdjust lo hi 1 (n:Int) with | (lo,hi)=>pure (lo,(1:Int),Builtin.Slice.slicePlaces lo hi 1)) _ _ s
 rw [zkj lo hi n]
 show wpAny _ _ (pure (((sIx n 0 lo:Nat):Int),(1:Int),Builtin.Slice.slicePlaces ((sIx n 0 lo:Nat):Int) ((sIx n n hi:Nat):Int) 1)) _ _ s
 rw [zkp]
 exact wpAny_pure h
theorem zmK (xs:Array Value)(i k:Nat):((List.range k).filterMap fun (m:Nat)=>xs[((i:Int)+(m:Int) * 1).toNat]?).toArray=((xs.toList.drop i).take k).toArray:=by
 have e:(fun (m:Nat)=>xs[((i:Int)+(m:Int) * 1).toNat]?)=fun m=>xs[i+m]? :=by
  funext m
  have:((i:Int)+(m:Int) * 1).toNat=i+m:=by omega
  rw [this]
 rw [e]
 have:=pick_run xs i k
 rw [List.filterMap_map] at this
 have e2:((fun x=>xs[x]?) ∘ fun x=>i+x)=fun m=>xs[i+m]? :=rfl
 rw [e2] at this
 rw [this]
theorem getItem_tuple_cut {t sl:Addr}{items:Array Value}{vl vu:Value}{lo hi:Option Int}{Q:Value→Shared→Prop}(ht:IsTup s.heap t items)(hs:s.heap.IsSliceOf sl vl vu .none)(pl:IsPart vl lo)(pu:IsPart vu hi)
  (hw:¬(sIx items.size 0 lo=0∧sIx items.size items.size hi=items.size))
  (h:Q (.ref s.heap.objs.size) {s with heap:=s.heap.push {cls:=.type "tuple",data:=.seq ((items.toList.drop (sIx items.size 0 lo)).take (sIx items.size items.size hi - sIx items.size 0 lo)).toArray}})
  (hsz:items.size≤sizeLine):wpAny (model prog w) A (getItem (.ref t) (.ref sl)) Q E s:=by
 have htake:sizeOk (.seq ((items.toList.drop (sIx items.size 0 lo)).take (sIx items.size items.size hi - sIx items.size 0 lo)).toArray):=by
  show ((items.toList.drop (sIx items.size 0 lo)).take (sIx items.size items.size hi - sIx items.size 0 lo)).toArray.size≤sizeLine
  rw [List.size_toArray,List.length_take,List.length_drop,Array.length_toList]
  omega
 have hj:sIx items.size items.size hi≤items.size:=sIx_le _ _ (Nat.le_refl _) hi
 obtain ⟨os,hos,hcs,hds⟩:=id hs
 have hTs:s.TypeIs (.ref sl) "slice" :=⟨os,hos,hcs⟩
 unfold getItem
 try with_reducible refine wpAny_holding ?_
 first | refine wpAny_bind (wpAny_pure ?_) | skip
 refine wpAny_bind (wpAny_sequenceKey ht.typeIs (by decide) ?_)
 refine wpAny_bind (wpAny_callSpecial?_slot (name:=Str.ofString "__getitem__") ht.typeIs PyProof.Rows.slot_tuple_getitem
  (wpAny_call_entry PyProof.Rows.slot_tuple_getitem ht.typeIs entry_tuple_getitem ?_ (args_tuple_getitem _ _)))
 show wpAny _ _ (Builtin.Tuple.tupleItemsOf (.ref t) >>=_) _ _ s
 refine wpAny_bind (tupleItemsOf_ ht ?_)
 refine wpAny_bind (wpAny_typeOf hTs ?_)
 rw [if_pos (by decide)]
 refine wpAny_bind (zfR hs pl pu ?_)
 have hno:¬((((sIx items.size 0 lo:Nat):Int)==0 && (1:Int)==1 && (sIx items.size items.size hi - sIx items.size 0 lo)==items.size)=true):=by
  intro q
  rw [Bool.and_eq_true,Bool.and_eq_true] at q
  have q1:((sIx items.size 0 lo:Nat):Int)=0:=eq_of_beq q.1.1
  have q2:sIx items.size items.size hi - sIx items.size 0 lo=items.size:=eq_of_beq q.2
  exact hw ⟨by omega,by omega⟩
 show wpAny _ _ (if (((sIx items.size 0 lo:Nat):Int)==0 && (1:Int)==1 && (sIx items.size items.size hi - sIx items.size 0 lo)==items.size)=true then _ else _) _ _ s
 rw [if_neg hno,zmK]
 first
  | exact wpAny_bind (m:=Builtin.Tuple.tupleExact _) (wpAny_newObj_type (wpAny_pure ⟨_,rfl,wpAny_pure h⟩) htake)
  | exact wpAny_bind (m:=Builtin.Tuple.tupleExact _) (wpAny_newObj_type (wpAny_bind (wpAny_pure (wpAny_pure ⟨_,rfl,wpAny_pure h⟩))) htake)
  | exact wpAny_bind (wpAny_bind (m:=Builtin.Tuple.tupleExact _) (wpAny_newObj_type (wpAny_pure (wpAny_pure ⟨_,rfl,wpAny_pure h⟩)) htake))
  | exact wpAny_bind (wpAny_bind (m:=Builtin.Tuple.tupleExact _) (wpAny_newObj_type (wpAny_pure ⟨_,rfl,wpAny_pure h⟩) htake))
end
end HT
namespace L2
open PySem PySem.Spec PyProof.Rows
noncomputable abbrev TO:=St→Hp→(Option Int→Hp→Prop)→Prop
noncomputable def PO (X:Cx) (e:Option Expr) (t:TO):Prop:=
 ∀ (pins:List (Addr×Obj)) (s:Shared) (σ :St) (H:Hp) (Q:Option Int→Hp→Prop),Inv X pins σ H s→t σ H Q→
  wpAny (model X.prog X.w) X.A (evalPart e X.env) (fun u s'=>∃ o H',Inv X pins σ H' s'∧IsPart u o∧Q o H') X.xe s
noncomputable def zkY:TO:=fun _ H Q=>Q none H
noncomputable def tPart (t:TE):TO:=fun σ H Q=>t σ H fun x H1=>∃ i,x= .int i∧Q (some i) H1
theorem zfd {ns:List Int}:∀ {us:List Value},Vals (ns.map V.int) us→IntsAre us ns:=by
 induction ns with
 | nil=>intro us r;rw [List.map_nil] at r;cases r;exact .nil
 | cons n ns ih=>
  intro us r
  rw [List.map_cons] at r
  cases r with
  | cons r1 r2=>
   obtain ⟨t,e⟩:=r1
   subst e
   exact .cons n t (ih r2)
section
variable {X:Cx} {e:Expr} {te:TE} {lo hi:Option Expr} {tl th:TO} {pos p2:Pos}
theorem zod:PO X none zkY:=by
 intro pins s σ H Q I h
 rw [evalPart_none]
 exact wpAny_pure ⟨none,H,I,.none,h⟩
theorem zog (h:PE X e te):PO X (some e) (tPart te):=by
 intro pins s σ H Q I hw
 rw [evalPart_some]
 refine thn (h pins s σ H _ I hw) fun u s1 ⟨x,H1,I1,r1,q1⟩=>?_
 obtain ⟨i,rfl,q⟩:=q1
 obtain ⟨t,rfl⟩:=r1
 exact ⟨some i,H1,I1,.int i t,q⟩
noncomputable def SlR (X:Cx) (r:V→Option Int→Option Int→Hp→VK→Prop):Prop:=
 ∀ (pins:List (Addr×Obj)) (s:Shared) (σ :St) (H:Hp) (x:V) (v vl vu:Value) (lo hi:Option Int) (sl:Addr) (Q:VK),Inv X pins σ H s→RelV x v→s.heap.IsSliceOf sl vl vu .none→IsPart vl lo→IsPart vu hi→r x lo hi H Q→
  ∃ T id,typeLookup (.type T) "__getitem__" =pure (some (.builtin id))∧s.TypeIs v T∧wpAny (model X.prog X.w) X.A (getItem v (.ref sl)) (EP X pins σ Q) X.xe s
noncomputable def tSl (r:V→Option Int→Option Int→Hp→VK→Prop) (te:TE) (tl th:TO):TE:=fun σ H Q=>te σ H fun x H1=>tl σ H1 fun l H2=>th σ H2 fun u H3=>r x l u H3 Q
theorem zm9 {r:V→Option Int→Option Int→Hp→VK→Prop}(hr:SlR X r)(he:PE X e te)(hl:PO X lo tl)(hu:PO X hi th):PE X (.Subscript e (.Slice lo hi none p2) pos) (tSl r te tl th):=by
 intro pins s σ H Q I h
 refine Subscript_ (thn (he pins s σ H _ I h) fun v s1 ⟨x,H1,I1,r1,q1⟩=>?_)
 refine wpAny_Slice (thn (hl pins s1 σ H1 _ I1 q1) fun vl s2 ⟨l,H2,I2,pl,q2⟩=>thn (hu pins s2 σ H2 _ I2 q2) fun vu s3 ⟨u,H3,I3,pu,q3⟩=>?_)
 rw [evalPart_none]
 refine wpAny_pure ?_
 have I4:Inv X pins σ H3 {s3 with heap:=s3.heap.push {cls:=.type "slice",data:=.fields #[vl,vu,.none]}}:=I3.kept (t':=s3.toks) fun b ob q=>Heap.get?_push_of_some _ q
 obtain ⟨T,id,hT,ht,hg⟩:=hr pins {s3 with heap:=s3.heap.push {cls:=.type "slice",data:=.fields #[vl,vu,.none]}} σ H3 x v vl vu l u s3.heap.objs.size Q I4 r1 (Heap.IsSliceOf.new ..) pl pu q3
 show wpAny (model X.prog X.w) X.A (subscriptTail e (.Slice lo hi none p2) v (.ref s3.heap.objs.size)) (EP X pins σ Q) X.xe {s3 with heap:=s3.heap.push {cls:=.type "slice",data:=.fields #[vl,vu,.none]}}
 exact tail_any (ops:=[.ref s3.heap.objs.size,v]) ht hT hg (by with_unfolding_all rfl)
noncomputable def cutV (xs:List V) (lo hi:Option Int):List V:=(xs.drop (HT.sIx xs.length 0 lo)).take (HT.sIx xs.length xs.length hi - HT.sIx xs.length 0 lo)
theorem zgK (xs:List V)(lo hi:Option Int):(cutV xs lo hi).length≤xs.length:=by
 unfold cutV
 rw [List.length_take,List.length_drop]
 omega
noncomputable def rSlT (K:PySem.W.Frag):V→Option Int→Option Int→Hp→VK→Prop:=fun x lo hi H Q=>∃ a xs,x= .ref a∧SqT K H a xs∧
 ¬(HT.sIx xs.length 0 lo=0∧HT.sIx xs.length xs.length hi=xs.length)∧∀ p,H p=none→Q (.ref p) (upd H p (.tup (cutV xs lo hi)))
theorem ziY:SlR X (rSlT X.K):=by
 intro pins s σ H x v vl vu lo hi sl Q I rx hs pl pu h
 obtain ⟨a,xs,rfl,hx,hw,q⟩:=h
 cases rx
 obtain ⟨its,r,ht,hz⟩:=I.tuple hx
 have hlen:its.toArray.size=xs.length:=by rw [List.size_toArray];exact r.length.symm
 refine ⟨"tuple",_,PyProof.Rows.slot_tuple_getitem.lookup,ht.typeIs,?_⟩
 refine HT.getItem_tuple_cut ht hs pl pu (by rw [hlen];exact hw) ?_ (by rw [hlen];exact hz)
 rw [hlen]
 refine ⟨.ref s.heap.objs.size,_,I.laid (t':=s.toks) (o:=.tup (cutV xs lo hi)) (fun b ob q=>Heap.get?_push_of_some _ q) (Nat.le_refl _) ?_,rfl,q _ (I.hok.fresh (Nat.le_refl _))⟩
 exact ⟨Nat.le_trans (zgK xs lo hi) hz,_,(r.drop (HT.sIx xs.length 0 lo)).take (HT.sIx xs.length xs.length hi - HT.sIx xs.length 0 lo),IsTup.new _ _⟩
noncomputable def rCatT (K:PySem.W.Frag):R2:=fun x y H Q=>∃ a b xs ys,x= .ref a∧y= .ref b∧SqT K H a xs∧SqT K H b ys∧xs≠[]∧xs.length+ys.length≤sizeLine∧
 (ys= []→Q (.ref a) H)∧(ys≠[]→∀ p,H p=none→Q (.ref p) (upd H p (.tup (xs++ys))))
theorem Vals.nil_iff {xs:List V}{us:List Value}(r:Vals xs us):us= []↔xs= []:=by
 cases r with
 | nil=>simp
 | cons _ _=>simp
theorem zi7:OpR X (binaryOp .Add) (rCatT X.K):=by
 intro pins s σ H x y v u Q I rx ry h
 obtain ⟨a,b,xs,ys,rfl,rfl,ha,hb,hx,hz,q1,q2⟩:=h
 cases rx
 cases ry
 obtain ⟨its,r1,p1,_⟩:=I.tuple ha
 obtain ⟨its2,r2,p2,_⟩:=I.tuple hb
 refine HT.cat_tup p1 p2 (fun z=>hx (r1.nil_iff.mp z)) (fun z=>⟨.ref a,H,I,rfl,q1 (r2.nil_iff.mp z)⟩) (fun z=>?_) (by rw [← r1.length,← r2.length];exact hz)
 refine ⟨.ref s.heap.objs.size,_,I.laid (t':=s.toks) (o:=.tup (xs++ys)) (fun b ob q=>Heap.get?_push_of_some _ q) (Nat.le_refl _) ?_,rfl,q2 (fun w=>z (r2.nil_iff.mpr w)) _ (I.hok.fresh (Nat.le_refl _))⟩
 exact ⟨by rw [List.length_append];exact hz,_,r1.append r2,IsTup.new _ _⟩
end
end L2
namespace L2
open PySem PySem.Spec PyProof.Rows
noncomputable def ixN (n:Nat) (i:Int):Option Nat:=if 0≤i then (if i < n then some i.toNat else none) else if -(n:Int)≤i then some (i+n).toNat else none
noncomputable def atI {α :Type} (xs:List α) (i:Int):Option α :=(ixN xs.length i).bind fun j=>xs[j]?
theorem zox {n:Nat}{i:Int}{j:Nat}(h:ixN n i=some j):seqIndex? i n=some j∧j < n∧-(n:Int)≤i∧i < n:=by
 unfold ixN at h
 by_cases h0: 0≤i
 ·rw [if_pos h0] at h
  by_cases h1:i < n
  ·rw [if_pos h1] at h
   have e:i.toNat=j:=Option.some.inj h
   exact ⟨by rw [seqIndex_of h0 h1,e],by omega,by omega,h1⟩
  ·rw [if_neg h1] at h;cases h
 ·rw [if_neg h0] at h
  by_cases h1: -(n:Int)≤i
  ·rw [if_pos h1] at h
   have e:(i+n).toNat=j:=Option.some.inj h
   exact ⟨by rw [seqIndex_neg (by omega) h1,e],by omega,h1,by omega⟩
  ·rw [if_neg h1] at h;cases h
theorem zlj {α :Type}{xs:List α}{i:Int}{v: α}(h:atI xs i=some v):∃ j,seqIndex? i xs.length=some j∧xs[j]? =some v∧j < xs.length∧-(xs.length:Int)≤i∧i < xs.length:=by
 unfold atI at h
 cases e:ixN xs.length i with
 | none=>rw [e] at h;cases h
 | some j=>
  rw [e] at h
  obtain ⟨h1,h2,h3,h4⟩:=zox e
  exact ⟨j,h1,h,h2,h3,h4⟩
theorem zdg {α :Type}{xs:List α}{j:Nat}{v: α}(h:xs[j]? =some v):atI xs (j:Int)=some v:=by
 have hj:j < xs.length:=(List.getElem?_eq_some_iff.mp h).1
 have e:ixN xs.length (j:Int)=some j:=by
  unfold ixN
  rw [if_pos (by omega),if_pos (by omega)];simp
 unfold atI;rw [e];exact h
noncomputable def zmq (b:Expr):Prop:=∀ o i,subscripted b false o i=operate [o,i] (getItem o i)
noncomputable def IxR (X:Cx) (r:R2):Prop:=
 ∀ (value slice:Expr) (pins:List (Addr×Obj)) (s:Shared) (σ :St) (H:Hp) (x y:V) (v u:Value) (Q:VK),Inv X pins σ H s→RelV x v→RelV y u→r x y H Q→
  subscripted slice false v u=operate [v,u] (getItem v u)→wpAny (model X.prog X.w) X.A (subscriptTail value slice v u) (EP X pins σ Q) X.xe s
noncomputable def MtR (X:Cx) (id:String) (r:V→List V→Hp→VK→Prop):Prop:=
 ∀ (pins:List (Addr×Obj)) (s:Shared) (σ :St) (H:Hp) (x:V) (xs:List V) (v:Value) (us:List Value) (Q:VK),Inv X pins σ H s→RelV x v→Vals xs us→r x xs H Q→
  wpAny (model X.prog X.w) X.A (call (.builtin id) (v::us)) (EP X pins σ Q) X.xe s
section
variable {X:Cx} {a b:Expr} {ta tb:TE} {pos:Pos}
theorem pe_ix {r:R2}(hr:IxR X r)(ha:PE X a ta)(hb:PE X b tb)(hs:zmq b):PE X (.Subscript a b pos) (tOp r ta tb):=by
 intro pins s σ H Q I h
 exact Subscript_ (binT ha hb I h fun v u s2 x y H2 I2 rx ry q=>hr a b pins s2 σ H2 x y v u Q I2 rx ry q (hs _ _))
noncomputable def rIxL (K:PySem.W.Frag):R2:=fun x y H Q=>∃ p xs i v,x= .ref p∧y= .int i∧SqL K H p xs∧atI xs i=some v∧Q v H
noncomputable def rIxT (K:PySem.W.Frag):R2:=fun x y H Q=>∃ p xs i v,x= .ref p∧y= .int i∧SqT K H p xs∧atI xs i=some v∧Q v H
theorem zaN:IxR X (rIxL X.K):=by
 intro value slice pins s σ H x y v u Q I rx ry h hs
 obtain ⟨p,xs,i,z,rfl,rfl,hq,he,q⟩:=h
 cases rx
 obtain ⟨t,rfl⟩:=ry
 obtain ⟨its,r,pl,hz⟩:=I.list hq
 obtain ⟨j,h1,h2,h3,h4,h5⟩:=zlj he
 obtain ⟨w,ew,rw'⟩:=r.get h2
 have hl:=r.length
 have hn:=zk3
 have fin:EP X pins σ Q w s:=⟨z,H,I,rw',q⟩
 by_cases h0: 0≤i
 ·have hj:i.toNat=j:=by
   rw [seqIndex_of h0 h5] at h1
   exact Option.some.inj h1
  exact item_listR pl.isList h0 (by omega) (by rw [hj];simpa using ew) fin hs
 ·have hj:(i+(its.toArray.size:Int)).toNat=j:=by
   rw [seqIndex_neg (by omega) h4] at h1
   rw [List.size_toArray,← hl]
   exact Option.some.inj h1
  exact subscriptTail_builtinR (x:=w) pl.isList.typeIs slot_list_getitem.lookup
   (wpAny_getItem_list_neg (Q:=fun r s'=>r=w∧EP X pins σ Q r s') pl.isList (by omega) (by rw [List.size_toArray] <;> omega) (by omega) (by rw [hj];simpa using ew) ⟨rfl,fin⟩) hs
theorem zaC:IxR X (rIxT X.K):=by
 intro value slice pins s σ H x y v u Q I rx ry h hs
 obtain ⟨p,xs,i,z,rfl,rfl,hq,he,q⟩:=h
 cases rx
 obtain ⟨t,rfl⟩:=ry
 obtain ⟨its,r,pl,hz⟩:=I.tuple hq
 obtain ⟨j,h1,h2,h3,h4,h5⟩:=zlj he
 obtain ⟨w,ew,rw'⟩:=r.get h2
 have hl:=r.length
 have hn:=zk3
 have fin:EP X pins σ Q w s:=⟨z,H,I,rw',q⟩
 exact subscriptTail_builtinR (x:=w) pl.typeIs slot_tuple_getitem.lookup
  (getItem_tuple (j:=j) (Q:=fun r s'=>r=w∧EP X pins σ Q r s') pl (by omega) (by omega) (by rw [List.size_toArray,← hl];exact h1) (by simpa using ew) ⟨rfl,fin⟩) hs
theorem zh7 (lo hi:Option Int)(n:Nat):(sliceBounds lo hi none n).1=((HT.sIx n 0 lo:Nat):Int)∧(sliceBounds lo hi none n).2.1=((HT.sIx n n hi:Nat):Int)∧(sliceBounds lo hi none n).2.2=1:=by
 refine ⟨?_,?_,rfl⟩
 ·cases lo with
  | none=>simp [sliceBounds,HT.sIx]
  | some i=>
   simp only [sliceBounds,HT.sIx,Option.getD_none,show (1:Int) > 0 by decide,if_true]
   by_cases h:i < 0
   ·simp only [h,if_true] <;> omega
   ·simp only [h,if_false] <;> omega
 ·cases hi with
  | none=>simp [sliceBounds,HT.sIx]
  | some i=>
   simp only [sliceBounds,HT.sIx,Option.getD_none,show (1:Int) > 0 by decide,if_true]
   by_cases h:i < 0
   ·simp only [h,if_true] <;> omega
   ·simp only [h,if_false] <;> omega
theorem zhG (its:List Value)(lo hi:Option Int):slicePick its.toArray lo hi none=((its.drop (HT.sIx its.length 0 lo)).take (HT.sIx its.length its.length hi - HT.sIx its.length 0 lo)).toArray:=by
 obtain ⟨h1,h2,h3⟩:=zh7 lo hi its.toArray.size
 unfold slicePick
 rw [h1,h2,h3]
 simp only [sliceRange_one,pick_run,List.size_toArray] <;> rfl
noncomputable def rSlL (K:PySem.W.Frag):V→Option Int→Option Int→Hp→VK→Prop:=fun x lo hi H Q=>∃ a xs,x= .ref a∧SqL K H a xs∧∀ p,H p=none→Q (.ref p) (upd H p (.lst (cutV xs lo hi)))
theorem zdy:SlR X (rSlL X.K):=by
 intro pins s σ H x v vl vu lo hi sl Q I rx hs pl pu h
 obtain ⟨a,xs,rfl,hx,q⟩:=h
 cases rx
 obtain ⟨its,r,ht,hz⟩:=I.list hx
 have hlen:=r.length
 refine ⟨"list",_,slot_list_getitem.lookup,ht.isList.typeIs,?_⟩
 refine wpAny_getItem_list_slice ht.isList hs pl pu .none (by simp) ?_ (by rw [List.size_toArray] <;> omega)
 rw [zhG,← hlen]
 refine ⟨.ref s.heap.objs.size,_,I.laid (t':=s.toks) (o:=.lst (cutV xs lo hi)) (fun b ob q=>Heap.get?_push_of_some _ q) (Nat.le_refl _) ?_,rfl,q _ (I.hok.fresh (Nat.le_refl _))⟩
 exact ⟨Nat.le_trans (zgK xs lo hi) hz,_,0,(r.drop (HT.sIx xs.length 0 lo)).take (HT.sIx xs.length xs.length hi - HT.sIx xs.length 0 lo),Heap.get?_push_size _ rfl⟩
noncomputable def zig:V→Bool
 | .non=>true
 | .bl _=>true
 | .int _=>true
 | .str _=>true
 | _=>false
noncomputable def eqV:V→V→Bool
 | .non,.non=>true
 | .bl a,.bl b=>a==b
 | .bl a,.int b=>(if a then 1 else 0)==b
 | .int a,.bl b=>a==(if b then 1 else 0)
 | .int a,.int b=>a==b
 | .str a,.str b=>a==b
 | _,_=>false
theorem eqAt_V {A:Around}{s:Shared}{y x:V}{u v:Value}(ry:RelV y u)(rx:RelV x v)(fy:zig y=true)(fx:zig x=true):SeqAt.EqAt A s u v (eqV y x):=by
 cases y with
 | non=>
  cases ry
  cases x with
  | non=>cases rx;exact SeqAt.EqAt.same _
  | bl b=>cases rx;exact SeqAt.EqAt.none_bool b
  | int b=>obtain ⟨t,rfl⟩:=rx;exact SeqAt.EqAt.none_int b t
  | str b=>obtain ⟨t,rfl⟩:=rx;exact SeqAt.EqAt.none_str b t
  | _=>exact absurd (show false=true from fx) Bool.false_ne_true
 | bl a=>
  cases ry
  cases x with
  | non=>cases rx;exact SeqAt.EqAt.bool_none a
  | bl b=>cases rx;exact SeqAt.EqAt.bool_bool a b
  | int b=>obtain ⟨t,rfl⟩:=rx;exact SeqAt.EqAt.bool_int a b t
  | str b=>obtain ⟨t,rfl⟩:=rx;exact SeqAt.EqAt.bool_str a b t
  | _=>exact absurd (show false=true from fx) Bool.false_ne_true
 | int a=>
  obtain ⟨t',rfl⟩:=ry
  cases x with
  | non=>cases rx;exact SeqAt.EqAt.int_none a t'
  | bl b=>cases rx;exact SeqAt.EqAt.int_bool a t' b
  | int b=>obtain ⟨t,rfl⟩:=rx;exact SeqAt.EqAt.int_int a t' b t
  | str b=>obtain ⟨t,rfl⟩:=rx;exact SeqAt.EqAt.int_str a t' b t
  | _=>exact absurd (show false=true from fx) Bool.false_ne_true
 | str a=>
  obtain ⟨t',rfl⟩:=ry
  cases x with
  | non=>cases rx;exact SeqAt.EqAt.str_none a t'
  | bl b=>cases rx;exact SeqAt.EqAt.str_bool a t' b
  | int b=>obtain ⟨t,rfl⟩:=rx;exact SeqAt.EqAt.str_int a t' b t
  | str b=>obtain ⟨t,rfl⟩:=rx;exact SeqAt.EqAt.str_str a t' b t
  | _=>exact absurd (show false=true from fx) Bool.false_ne_true
 | _=>exact absurd (show false=true from fy) Bool.false_ne_true
noncomputable def eqU (x:V) (u:Value):Bool:=match u with
 | .none=>eqV .non x
 | .bool b=>eqV (.bl b) x
 | .int i _=>eqV (.int i) x
 | .str z _=>eqV (.str z) x
 | _=>false
theorem znt {x y:V}{u:Value}(r:RelV y u)(f:zig y=true):eqU x u=eqV y x:=by
 cases y with
 | non=>cases r;rfl
 | bl b=>cases r;rfl
 | int i=>obtain ⟨t,rfl⟩:=r;rfl
 | str z=>obtain ⟨t,rfl⟩:=r;rfl
 | _=>exact absurd (show false=true from f) Bool.false_ne_true
theorem zjk {x:V}:∀ {xs:List V} {us:List Value},Vals xs us→xs.all zig=true→us.any (eqU x)=xs.any fun y=>eqV y x
 | _,_,.nil,_=>rfl
 | y::xs,u::us,.cons r t,f=>by
  rw [List.all_cons,Bool.and_eq_true] at f
  rw [List.any_cons,List.any_cons,znt r f.1,zjk t f.2]
theorem zhz {A:Around}{s:Shared}{x:V}{v:Value}(rx:RelV x v)(fx:zig x=true):∀ {xs:List V} {us:List Value},Vals xs us→xs.all zig=true→∀ u∈us,SeqAt.EqAt A s u v (eqU x u)
 | _,_,.nil,_=>fun u hu=>by cases hu
 | y::xs,u::us,.cons r t,f=>fun u' hu=>by
  rw [List.all_cons,Bool.and_eq_true] at f
  rcases List.mem_cons.mp hu with rfl | hu
  ·rw [znt r f.1];exact eqAt_V r rx f.1 fx
  ·exact zhz rx fx t f.2 u' hu
noncomputable def inV (x:V) (xs:List V):Bool:=xs.any fun y=>eqV y x
noncomputable def rIn (K:PySem.W.Frag) (neg:Bool):R2:=fun x y H Q=>∃ p xs,y= .ref p∧(SqL K H p xs∨SqT K H p xs)∧zig x=true∧xs.all zig=true∧Q (.bl (if neg then !inV x xs else inV x xs)) H
theorem zi2:OpR X (compareOp .In) (rIn X.K false):=by
 intro pins s σ H x y v u Q I rx ry h
 obtain ⟨p,xs,rfl,hq,fx,fs,q⟩:=h
 cases ry
 rcases hq with hq | hq
 ·obtain ⟨its,r,pl,hz⟩:=I.list hq
  refine SeqAt.in_listAt (eqU x) pl.isList (fun w hw=>zhz rx fx r fs w (by simpa using hw)) ⟨.bl _,H,I,rfl,?_⟩
  rw [show its.toArray.any (eqU x)=its.any (eqU x) by simp,zjk r fs]
  exact q
 ·obtain ⟨its,r,pl,hz⟩:=I.tuple hq
  refine SeqAt.in_tupleAt (eqU x) pl (fun w hw=>zhz rx fx r fs w (by simpa using hw)) ⟨.bl _,H,I,rfl,?_⟩
  rw [show its.toArray.any (eqU x)=its.any (eqU x) by simp,zjk r fs]
  exact q
theorem zaz:zey X (.builtin "len") (fun xs H Q=>∃ p ys,xs= [.ref p]∧(SqL X.K H p ys∨SqT X.K H p ys)∧Q (.int ys.length) H):=by
 intro pins s σ H xs us Q I r h
 obtain ⟨p,ys,rfl,hq,q⟩:=h
 obtain ⟨u,rfl,rx⟩:=zgW r
 cases rx
 have hn:=zk3
 rcases hq with hq | hq
 ·obtain ⟨its,r',pl,hz⟩:=I.list hq
  have hlen:=r'.length
  exact Calls.call_len_list pl.isList (by simp only [List.size_toArray] <;> omega) ⟨.int ys.length,H,I.tok _,⟨s.toks+1,by rw [List.size_toArray,hlen]⟩,q⟩
 ·obtain ⟨its,r',pl,hz⟩:=I.tuple hq
  have hlen:=r'.length
  exact len_tuple pl (by simp only [List.size_toArray] <;> omega) ⟨.int ys.length,H,I.tok _,⟨s.toks+1,by rw [List.size_toArray,hlen]⟩,q⟩
theorem zdE:zey X (.type "tuple") (fun xs H Q=>∃ p ys,xs= [.ref p]∧((SqL X.K H p ys∧∀ l,H l=none→Q (.ref l) (upd H l (.tup ys)))∨(SqT X.K H p ys∧Q (.ref p) H))):=by
 intro pins s σ H xs us Q I r h
 obtain ⟨p,ys,rfl,h⟩:=h
 obtain ⟨u,rfl,rx⟩:=zgW r
 cases rx
 rcases h with ⟨hq,q⟩ | ⟨hq,q⟩
 ·obtain ⟨its,r',pl,hz⟩:=I.list hq
  have hlen:=r'.length
  refine call_tuple_list pl.isList (fun h' kp=>?_) (by simp only [List.size_toArray] <;> omega)
  have I1:Inv X pins σ H {s with heap:=h'}:=I.kept (t':=s.toks) kp
  have I2:Inv X pins σ (upd H h'.objs.size (.tup ys)) {s with heap:=h'.push {cls:=.type "tuple",data:=.seq its.toArray}}:=
   I1.laid (t':=s.toks) (fun b o e=>Heap.get?_push_of_some _ e) (Nat.le_refl _) (show zcB X.prog X.w _ _ _ (.tup ys) from ⟨hz,its,r',IsTup.new _ _⟩)
  exact ⟨.ref h'.objs.size,_,I2,rfl,q _ (I1.hok.fresh (Nat.le_refl _))⟩
 ·obtain ⟨its,r',pl,hz⟩:=I.tuple hq
  exact call_tuple_same pl ⟨.ref p,H,I,rfl,q⟩
noncomputable def tyV (K:PySem.W.Frag) (T:String) (x:V) (H:Hp):Prop:=match x with
 | .str _=>T="str"
 | .int _=>T="int"
 | .ref p=>(T="list"∧∃ xs,SqL K H p xs)∨(T="tuple"∧∃ o,K.lookup p=some o∧o.cls= .type "tuple"∧o.dict=none)∨
   (T="dict"∧((∃ kvs,H p=some (.dK kvs))∨∃ kvs,H p=some (.dT kvs)))∨(T="set"∧∃ S n,H p=some (.set S n))
 | _=>False
theorem znu {pins:List (Addr×Obj)}{σ :St}{H:Hp}{s:Shared}{T:String}{x:V}{v:Value}(I:Inv X pins σ H s)(r:RelV x v)(ty:tyV X.K T x H):
  s.TypeIs v T∧∀ a,v= .ref a→∃ ob,s.heap.get? a=some ob∧ob.dict=none:=by
 cases x with
 | str z=>
  obtain ⟨t,rfl⟩:=r
  cases (show T="str" from ty)
  exact ⟨typeIs_str s z t,fun _ e=>nomatch e⟩
 | int i=>
  obtain ⟨t,rfl⟩:=r
  cases (show T="int" from ty)
  exact ⟨typeIs_int s i t,fun _ e=>nomatch e⟩
 | ref p=>
  cases r
  rcases ty with ⟨rfl,xs,hq⟩ | ⟨rfl,o,hk,hc,hd⟩ | ⟨rfl,hk⟩ | ⟨rfl,S,n,hk⟩
  ·obtain ⟨its,_,pl,_⟩:=I.list hq
   refine ⟨pl.isList.typeIs,fun a e=>?_⟩
   cases e
   obtain ⟨o,n,e,c,hd,_⟩:=pl
   exact ⟨o,e,hd⟩
  ·refine ⟨⟨o,I.kIn p o hk,hc⟩,fun a e=>?_⟩
   cases e
   exact ⟨o,I.kIn _ o hk,hd⟩
  ·have z:∃ o,s.heap.get? p=some o∧o.ExactDict:=by
    rcases hk with ⟨kvs,hk⟩ | ⟨kvs,hk⟩
    ·obtain ⟨_,_,_,_,o,_,_,e,ex,_⟩:=I.hok p _ hk
     exact ⟨o,e,ex⟩
    ·obtain ⟨_,_,_,_,o,_,_,e,ex,_⟩:=I.hok p _ hk
     exact ⟨o,e,ex⟩
   obtain ⟨o,e,ex⟩:=z
   refine ⟨⟨o,e,ex.1⟩,fun a e2=>?_⟩
   cases e2
   exact ⟨o,e,ex.2.1⟩
  ·obtain ⟨o,_,_,_,e,ex,_⟩:=I.hok p _ hk
   refine ⟨⟨o,e,ex.1⟩,fun a e2=>?_⟩
   cases e2
   exact ⟨o,e,ex.2.1⟩
 | _=>exact False.elim ty
noncomputable def tBM0 (K:PySem.W.Frag) (T:String) (r:V→List V→Hp→VK→Prop) (to:TE):TE:=fun σ H Q=>to σ H fun x H1=>tyV K T x H1∧r x [] H1 Q
noncomputable def tBM (K:PySem.W.Frag) (T:String) (r:V→List V→Hp→VK→Prop) (to:TE) (t:TA):TE:=fun σ H Q=>to σ H fun x H1=>tyV K T x H1∧t σ H1 fun xs H2=>r x xs H2 Q
variable {o e:Expr} {es:List Expr} {to:TE} {t:TA} {name:Str} {apos cpos:Pos} {T id:String} {r:V→List V→Hp→VK→Prop}
theorem pe_bm0 (pa:PlainAttrs T)(slot:Slot T name id)(hty:typeOf (.builtin id)=pure (.type "method_descriptor"))(hm:MtR X id r)(ho:PE X o to)
  (hbase:attributeBase o name X.env (eval o X.env)=eval o X.env:=by rfl) (hline:(apos.endLine==cpos.line)=true:=by rfl):PE X (.Call (.Attribute o name apos) [] [] cpos) (tBM0 X.K T r to):=by
 intro pins s σ H Q I h
 refine wpAny_Call_method0_late hbase hline (thn (ho pins s σ H _ I h) fun v s1 ⟨x,H1,I1,r1,ty,q1⟩=>?_)
 obtain ⟨h1,h2⟩:=znu I1 r1 ty
 exact ⟨T,id,pa,slot,hty,h1,h2,Calls.callWith_builtin rfl (PySem.evalArgs_none (hm pins s1 σ H1 x [] v [] Q I1 r1 .nil q1))⟩
theorem pe_bm (pa:PlainAttrs T)(slot:Slot T name id)(hty:typeOf (.builtin id)=pure (.type "method_descriptor"))(hm:MtR X id r)(ho:PE X o to)(ha:PA X (e::es) t)
  (hbase:attributeBase o name X.env (eval o X.env)=eval o X.env:=by rfl)
  (hfew:((backTo cpos (starEach (e::es) X.env)).all (fun x=>!x.1) && (backToKw cpos (keywordEach [] X.env)).all (fun x=>x.1.isSome)
   && decide ((e::es).length+([]:List Keyword).length+(if ([]:List Keyword).isEmpty then 0 else 1) < 30))=true:=by rfl)
  (hline:(apos.endLine==cpos.line)=true:=by rfl) (hs:starEach (e::es) X.env=(false,eval e X.env)::starEach es X.env:=by rfl) (hplain:(backTo cpos (starEach es X.env)).any (·.1)=false:=by rfl):
  PE X (.Call (.Attribute o name apos) (e::es) [] cpos) (tBM X.K T r to t):=by
 intro pins s σ H Q I h
 refine wpAny_Call_method_late hbase hfew hline rfl (thn (ho pins s σ H _ I h) fun v s1 ⟨x,H1,I1,r1,ty,q1⟩=>?_)
 obtain ⟨h1,h2⟩:=znu I1 r1 ty
 refine ⟨T,id,pa,slot,hty,h1,h2,?_⟩
 have hA:=ha cpos pins s1 σ H1 _ I1 q1
 rw [hs] at hA ⊢
 refine Calls.callWith_builtin (by show (false || (backTo cpos (starEach es X.env)).any (·.1))=false;rw [hplain] <;> rfl) (Calls.evalArgs_plain ?_)
 exact thn hA fun us s2 ⟨vs,H2,I2,r2,q2⟩=>hm pins s2 σ H2 x vs v us Q I2 r1 r2 q2
end
end L2
namespace L2
open PySem PySem.Spec PyProof.Rows
noncomputable def MtM (X:Cx) (id:String) (r:V→List V→Hp→VK→Prop):Prop:=
 ∀ (pins:List (Addr×Obj)) (s:Shared) (σ :St) (H:Hp) (x:V) (xs:List V) (v:Value) (us:List Value) (Q:VK),Inv X pins σ H s→RelV x v→Vals xs us→r x xs H Q→
  wpAny (model X.prog X.w) X.A (call (.builtin id) (v::us)) (EP X pins σ Q) X.xe s
theorem Vals.one:∀ {x:V} {us:List Value},Vals [x] us→∃ u,us= [u]∧RelV x u
 | _,_,.cons r .nil=>⟨_,rfl,r⟩
theorem Vals.rep {xs:List V}{us:List Value}(h:Vals xs us):∀ k:Nat,Vals (List.replicate k xs).flatten (List.replicate k us).flatten
 | 0=>.nil
 | k+1=>by
  rw [List.replicate_succ,List.replicate_succ,List.flatten_cons,List.flatten_cons]
  exact Vals.append h (Vals.rep h k)
theorem zik (its:List Value):∀ (k:Nat) (acc:List Value),
  List.foldl (fun x1 x2=>x1++x2) acc.toArray (List.replicate k its.toArray)=(acc++(List.replicate k its).flatten).toArray
 | 0,acc=>by simp
 | k+1,acc=>by
  have e:acc.toArray++its.toArray=(acc++its).toArray:=by simp
  have e2:(acc++its)++(List.replicate k its).flatten=acc++(List.replicate (k+1) its).flatten:=by
   rw [List.replicate_succ,List.flatten_cons,List.append_assoc]
  rw [← e2,← zik its k (acc++its),← e,List.replicate_succ,List.foldl_cons]
section
variable {X:Cx} {pins:List (Addr×Obj)} {σ :St} {H:Hp} {s:Shared} {l b:Addr} {xs ys zs:List V}
theorem Inv.lset {its its':List Value}{n:Nat}{f:Array Value→Array Value}{t':Nat}(I:Inv X pins σ H s)(hH:H l=some (.lst xs))
  (e:s.heap.get? l=some {cls:=.type "list",data:=.seq its.toArray n}) (hf:f its.toArray=its'.toArray) (hv:Vals ys its') (hz:ys.length≤sizeLine):
  Inv X pins σ (upd H l (.lst ys)) {s with heap:=s.heap.update l (Obj.mapSeq f),toks:=t'}:=by
 have q:=PySem.IsL.update e f
 rw [hf] at q
 refine I.write (x:=l) (e:=l) (by rw [hH];exact trivial) (.inl rfl) (fun b' u hb hu=>(Heap.get?_update_other s.heap (Obj.mapSeq f) (Ne.symm hb)).trans hu) ⟨_,q⟩ ?_
 exact ⟨hz,its',_,hv,q⟩
theorem Inv.lnew {its:List Value}{t':Nat}(I:Inv X pins σ H s)(hv:Vals ys its)(hz:ys.length≤sizeLine):
  Inv X pins σ (upd H s.heap.objs.size (.lst ys)) {s with heap:=s.heap.push {cls:=.type "list",data:=.seq its.toArray},toks:=t'}:=
 I.laid (fun _ _ q=>Heap.get?_push_of_some _ q) (Nat.le_refl _) ⟨hz,its,0,hv,Heap.get?_push_size _ rfl⟩
theorem Inv.fresh (I:Inv X pins σ H s):H s.heap.objs.size=none:=I.hok.fresh (Nat.le_refl _)
theorem Inv.lstM (I:Inv X pins σ H s)(hH:H l=some (.lst xs)):xs.length≤sizeLine∧∃ (its:List Value) (n:Nat),Vals xs its∧xs.length=its.length∧s.heap.get? l=some {cls:=.type "list",data:=.seq its.toArray n}:=by
 obtain ⟨z,its,n,r,e⟩:=I.hok l _ hH
 exact ⟨z,its,n,r,r.length,e⟩
theorem zkc {n:Nat}(h:n≤sizeLine):Builtin.List.listTooLong n=false:=by
 unfold Builtin.List.listTooLong
 exact decide_eq_false (by omega)
end
section
variable {X:Cx}
noncomputable def znQ:V→List V→Hp→VK→Prop:=fun x vs H Q=>∃ l xs y,x= .ref l∧vs= [y]∧H l=some (.lst xs)∧xs.length < sizeLine∧Q .non (upd H l (.lst (xs++ [y])))
theorem zaM:MtM X "list.append" znQ:=by
 intro pins s σ H x vs v us Q I rx rv h
 obtain ⟨l,xs,y,rfl,rfl,hH,hz,q⟩:=h
 cases rx
 obtain ⟨u,rfl,ru⟩:=rv.one
 obtain ⟨z,its,n,r,hl,e⟩:=I.lstM hH
 refine call_meets F.slot_list_append ⟨_,e,rfl⟩ F.entry_list_append (F.args_list_append_2 _ _) (PySem.list_append l its.toArray n u (by rw [List.size_toArray];omega)) ⟨e,?_⟩
 refine ⟨.non,_,I.lset (its':=its++ [u]) hH e (by simp) (r.append (.cons ru .nil)) ?_,rfl,q⟩
 rw [List.length_append,List.length_singleton]
 omega
noncomputable def znV:V→List V→Hp→VK→Prop:=fun x vs H Q=>∃ l b xs zs,x= .ref l∧vs= [.ref b]∧H l=some (.lst xs)∧H b=some (.lst zs)∧xs.length+zs.length≤sizeLine∧Q .non (upd H l (.lst (xs++zs)))
theorem zeS:MtM X "list.extend" znV:=by
 intro pins s σ H x vs v us Q I rx rv h
 obtain ⟨l,b,xs,zs,rfl,rfl,hH,hB,hz,q⟩:=h
 cases rx
 obtain ⟨u,rfl,ru⟩:=rv.one
 cases ru
 obtain ⟨z,its,n,r,hl,e⟩:=I.lstM hH
 obtain ⟨z2,its2,n2,r2,hl2,e2⟩:=I.lstM hB
 have hsz:its.toArray.size+its2.toArray.size≤sizeLine:=by rw [List.size_toArray,List.size_toArray];omega
 have hlong:¬(!its.toArray.isEmpty && Builtin.List.listTooLong (its.toArray.size+its2.toArray.size))=true:=by
  rw [zkc hsz,Bool.and_false]
  exact Bool.false_ne_true
 refine call_meets F.slot_list_extend ⟨_,e,rfl⟩ F.entry_list_extend (F.args_list_extend_2 _ _)
  (AutoSeq1.list_extend_list_list_0 l its.toArray n b its2.toArray n2 hlong (by rw [List.size_toArray];omega) (by omega)) ⟨e,e2,?_⟩
 refine ⟨.non,_,I.lset (its':=its++its2) hH e (by simp) (r.append r2) ?_,rfl,q⟩
 rw [List.length_append]
 omega
noncomputable def rCat:R2:=fun x y H Q=>∃ l b xs zs,x= .ref l∧y= .ref b∧H l=some (.lst xs)∧H b=some (.lst zs)∧xs.length+zs.length≤sizeLine∧∀ p,H p=none→Q (.ref p) (upd H p (.lst (xs++zs)))
theorem zcO:OpR X (binaryOp .Add) rCat:=by
 intro pins s σ H x y v u Q I rx ry h
 obtain ⟨l,b,xs,zs,rfl,rfl,hH,hB,hz,q⟩:=h
 cases rx
 cases ry
 obtain ⟨z,its,n,r,hl,e⟩:=I.lstM hH
 obtain ⟨z2,its2,n2,r2,hl2,e2⟩:=I.lstM hB
 refine PySem.P.add_list e e2 ?_ (by rw [List.size_toArray,List.size_toArray];omega)
 have ea:its.toArray++its2.toArray=(its++its2).toArray:=by simp
 rw [ea]
 exact ⟨.ref _,_,I.lnew (t':=s.toks) (r.append r2) (by rw [List.length_append];omega),rfl,q _ I.fresh⟩
noncomputable def rRep:R2:=fun x y H Q=>∃ l k xs,x= .ref l∧y= .int k∧H l=some (.lst xs)∧-(2 ^ 63)≤k∧k < 2 ^ 63∧xs.length * k.toNat≤sizeLine∧
 ∀ p,H p=none→Q (.ref p) (upd H p (.lst (List.replicate k.toNat xs).flatten))
theorem znP {α :Type}(xs:List α)(k:Nat):(List.replicate k xs).flatten.length=k * xs.length:=by
 induction k with
 | zero=>simp
 | succ k ih=>rw [List.replicate_succ,List.flatten_cons,List.length_append,ih,Nat.succ_mul,Nat.add_comm]
theorem zl8:OpR X (binaryOp .Mult) rRep:=by
 intro pins s σ H x y v u Q I rx ry h
 obtain ⟨l,k,xs,rfl,rfl,hH,h1,h2,hz,q⟩:=h
 cases rx
 obtain ⟨t,rfl⟩:=ry
 obtain ⟨z,its,n,r,hl,e⟩:=I.lstM hH
 have hlen:its.toArray.size * k.toNat≤sizeLine:=by rw [List.size_toArray,← hl];exact hz
 have hcap:¬its.toArray.size * k.toNat > (2 ^ 63 - 1) / 8:=by
  have:(sizeLine:Nat)≤(2 ^ 63 - 1) / 8:=by decide
  omega
 have hfit:¬(!Builtin.List.listFitsIndex k)=true:=by
  rw [fitsIndex_both h1 h2]
  exact Bool.false_ne_true
 have hlong:¬Builtin.List.listTooLong (its.toArray.size * k.toNat)=true:=by
  rw [zkc hlen]
  exact Bool.false_ne_true
 have hnew:List.foldl (fun x1 x2=>x1++x2) #[] (List.replicate (if its.toArray.isEmpty=true then 0 else k.toNat) its.toArray)=(List.replicate k.toNat its).flatten.toArray:=by
  have f0:∀ m:Nat,List.foldl (fun x1 x2=>x1++x2) #[] (List.replicate m its.toArray)=(List.replicate m its).flatten.toArray:=fun m=>by
   have:=zik its m []
   rw [List.nil_append] at this
   exact this
  rw [f0]
  cases its with
  | nil=>simp
  | cons a r'=>rw [if_neg (by simp)]
 refine wpAny_binaryOp_repeat_ref (T:="list") (U:="int") (by decide) ⟨_,e,rfl⟩ (fun s'=>typeIs_int s' k t) noFill_list_mul F.fills_int_mul F.slot_int_rmul repeat_list F.slot_int_index.lookup
  (call_meets F.slot_int_rmul (typeIs_int s k t) F.entry_int_rmul (F.args_int_rmul_2 _ _) (int___rmul___int_list k t l its.toArray n)
   ⟨e,rfl,⟨_,e,rfl⟩,call_meets F.slot_list_mul ⟨_,e,rfl⟩ F.entry_list_mul (F.args_list_mul_2 _ _) (AutoListH.list___mul___list_int_3 l its.toArray n k t hfit hcap hlong) ⟨e,?_⟩⟩)
 rw [hnew]
 exact ⟨.ref _,_,I.lnew (t':=s.toks) (r.rep k.toNat) (by rw [znP,Nat.mul_comm];exact hz),rfl,q _ I.fresh⟩
end
section
variable {prog:Program} {w:World} {A:Around} {E:Value→Shared→Prop} {s:Shared}
end
section
variable {X:Cx}
end
end L2
namespace L2
open PySem PySem.Spec PyProof.Rows
section
variable {κ :Type} [DecidableEq κ]
noncomputable def valV (kvs:List (κ×V)) (k: κ):Option V:=(kvs.find? fun kv=>decide (kv.1=k)).map (·.2)
noncomputable def putK (kvs:List (κ×V)) (k: κ) (v:V):List (κ×V):=
 if (kvs.any fun kv=>decide (kv.1=k))=true then kvs.map (fun kv=>if kv.1=k then (kv.1,v) else kv) else kvs++ [(k,v)]
theorem zfT {p: κ×V}{r:List (κ×V)}{k: κ}(e:p.1=k):valV (p::r) k=some p.2:=by simp [valV,List.find?_cons,e]
theorem zfZ {p: κ×V}{r:List (κ×V)}{k: κ}(e:¬p.1=k):valV (p::r) k=valV r k:=by simp [valV,List.find?_cons,e]
theorem zhv (k: κ):∀ kvs:List (κ×V),(kvs.any fun kv=>decide (kv.1=k))=(valV kvs k).isSome
 | []=>rfl
 | p::r=>by
  rw [List.any_cons]
  by_cases e:p.1=k
  ·simp only [zfT e,decide_eq_true e,Bool.true_or,Option.isSome_some]
  ·rw [zfZ e,decide_eq_false e,Bool.false_or];exact zhv k r
theorem zes (kvs:List (κ×V))(k: κ)(v:V):(putK kvs k v).length≤kvs.length+1:=by
 unfold putK
 split
 ·rw [List.length_map];omega
 ·rw [List.length_append,List.length_cons,List.length_nil];omega
theorem zhD {kvs:List (κ×V)}{k: κ}(v:V)(h:valV kvs k=none):putK kvs k v=kvs++ [(k,v)]:=by
 unfold putK
 rw [zhv,h]
 exact if_neg (by decide)
theorem RelO.isSome_eq {o:Option V}{u:Option Value}(r:RelO o u):o.isSome=u.isSome:=by
 cases o with
 | none=>cases u with
  | none=>rfl
  | some _=>exact (show False from r).elim
 | some _=>cases u with
  | none=>exact (show False from r).elim
  | some _=>rfl
theorem RelO.getD {o:Option V}{u:Option Value}{d:V}{d':Value}(r:RelO o u)(rd:RelV d d'):RelV (o.getD d) (u.getD d'):=by
 cases o with
 | none=>cases u with
  | none=>exact rd
  | some _=>exact (show False from r).elim
 | some _=>cases u with
  | none=>exact (show False from r).elim
  | some _=>exact r
theorem KV.val {kvs:List (κ×V)}{vs:List (κ×Value)}(r:KV kvs vs)(k: κ):RelO (valV kvs k) (valueAt vs k):=by
 unfold KV at r
 induction r with
 | nil=>exact True.intro
 | @cons p q ps qs h t ih=>
  obtain ⟨h1,h2⟩:=h
  by_cases e:p.1=k
  ·have e':q.1=k:=h1.symm.trans e
   have b:valueAt (q::qs) k=some q.2:=by simp [valueAt,List.find?_cons,e']
   rw [zfT e,b];exact h2
  ·have e':¬q.1=k:=fun z=>e (h1.trans z)
   have b:valueAt (q::qs) k=valueAt qs k:=by simp [valueAt,List.find?_cons,e']
   rw [zfZ e,b];exact ih
theorem KV.any {kvs:List (κ×V)}{vs:List (κ×Value)}(r:KV kvs vs)(k: κ):(kvs.any fun kv=>decide (kv.1=k))=vs.any fun kv=>decide (kv.1=k):=by
 unfold KV at r
 induction r with
 | nil=>rfl
 | cons h t ih=>rw [List.any_cons,List.any_cons,ih,h.1]
theorem KV.repl {kvs:List (κ×V)}{vs:List (κ×Value)}(r:KV kvs vs)(k: κ){y:V}{u:Value}(ry:RelV y u):
  KV (kvs.map fun kv=>if kv.1=k then (kv.1,y) else kv) (vs.map fun kv=>if kv.1=k then (kv.1,u) else kv):=by
 unfold KV at r ⊢
 induction r with
 | nil=>exact .nil
 | @cons p q ps qs h t ih=>
  rw [List.map_cons,List.map_cons]
  refine .cons ?_ ih
  obtain ⟨h1,h2⟩:=h
  by_cases e:p.1=k
  ·rw [if_pos e,if_pos (h1.symm.trans e)];exact ⟨h1,ry⟩
  ·rw [if_neg e,if_neg (fun z=>e (h1.trans z))];exact ⟨h1,h2⟩
theorem KV.put {kvs:List (κ×V)}{vs:List (κ×Value)}(r:KV kvs vs)(k: κ){y:V}{u:Value}(ry:RelV y u):KV (putK kvs k y) (stored vs k u):=by
 unfold putK stored
 rw [r.any k]
 by_cases e:(vs.any fun kv=>decide (kv.1=k))=true
 ·rw [if_pos e,if_pos e];exact r.repl k ry
 ·rw [if_neg e,if_neg e];exact Paired.snoc r ⟨rfl,ry⟩
theorem KV.length {kvs:List (κ×V)}{vs:List (κ×Value)}(r:KV kvs vs):kvs.length=vs.length:=Paired.length r
end
theorem zkQ {P:Program}{w:World}{k:Key}{u:Value}(r:RelV (kV k) u):(zaX P w).is k u=true:=by
 cases k with
 | inl i=>obtain ⟨t,e⟩:=(show ∃ t,u=Value.int i t from r);subst e;exact zjf P w i t
 | inr x=>obtain ⟨t,e⟩:=(show ∃ t,u=Value.str x t from r);subst e;exact zjz P w x t
theorem ziZ {P:Program}{w:World}:∀ {ks:List Key} {us:List Value},Vals (ks.map kV) us→ItemsAre (zaX P w) ks us
 | [],_,r=>by rw [List.map_nil] at r;cases r;exact .nil
 | k::ks,_,r=>by
  rw [List.map_cons] at r
  cases r with
  | cons h t=>exact .cons (zkQ h) (ziZ t)
noncomputable abbrev KT (H:Hp):List (List Key×V)→List (List Key×Addr×Value)→Prop:=Paired fun p q=>p.1=q.1∧RdT H q.2.1 (p.1.map kV)∧RelV p.2 q.2.2
theorem KT.val {H:Hp}{kvs:List (List Key×V)}{xs:List (List Key×Addr×Value)}(r:KT H kvs xs)(k:List Key):RelO (valV kvs k) ((atKey xs k).map (·.2)):=by
 induction r with
 | nil=>exact True.intro
 | @cons p q ps qs h t ih=>
  obtain ⟨h1,_,h2⟩:=h
  by_cases e:p.1=k
  ·have e':q.1=k:=h1.symm.trans e
   have b:atKey (q::qs) k=some q.2:=by simp [atKey,List.find?_cons,e']
   rw [zfT e,b];exact h2
  ·have e':¬q.1=k:=fun z=>e (h1.trans z)
   have b:atKey (q::qs) k=atKey qs k:=by simp [atKey,List.find?_cons,e']
   rw [zfZ e,b];exact ih
theorem KT.repl {H:Hp}{kvs:List (List Key×V)}{xs:List (List Key×Addr×Value)}(r:KT H kvs xs)(k:List Key){y:V}{u:Value}(ry:RelV y u):
  KT H (kvs.map fun kv=>if kv.1=k then (kv.1,y) else kv) (xs.map (putAt k u)):=by
 induction r with
 | nil=>exact .nil
 | @cons p q ps qs h t ih=>
  rw [List.map_cons,List.map_cons]
  refine .cons ?_ ih
  obtain ⟨h1,h2,h3⟩:=h
  unfold putAt
  by_cases e:p.1=k
  ·rw [if_pos e,if_pos (h1.symm.trans e)];exact ⟨h1,h2,ry⟩
  ·rw [if_neg e,if_neg (fun z=>e (h1.trans z))];exact ⟨h1,h2,h3⟩
theorem KT.put {H:Hp}{kvs:List (List Key×V)}{xs:List (List Key×Addr×Value)}(r:KT H kvs xs)(k:List Key){b:Addr}{y:V}{u:Value}(hb:RdT H b (k.map kV))(ry:RelV y u):
  KT H (putK kvs k y) (storedH xs k b u):=by
 have e:(kvs.any fun kv=>decide (kv.1=k))=(atKey xs k).isSome:=by
  rw [zhv,(r.val k).isSome_eq,Option.isSome_map]
 unfold putK storedH
 rw [e]
 by_cases q:(atKey xs k).isSome=true
 ·rw [if_pos q,if_pos q];exact r.repl k ry
 ·rw [if_neg q,if_neg q];exact Paired.snoc r ⟨rfl,hb,ry⟩
theorem KT.keeps {H H':Hp}{kvs:List (List Key×V)}{xs:List (List Key×Addr×Value)}(r:KT H kvs xs)(ht:∀ b ys,RdT H b ys→RdT H' b ys):KT H' kvs xs:=
 Paired.mapP r fun _ _ z=>⟨z.1,ht _ _ z.2.1,z.2.2⟩
section
variable {P:Program} {w:World} {H:Hp} {h:Heap} {a:Addr}
theorem rd_of {u:HO}(ok:HOk P w H h)(e:Rd H a u):zcB P w H h a u:=e.ok ok
theorem zjs {kvs:List (Key×V)}(ok:HOk P w H h)(e:Rd H a (.dK kvs)):kvs.length≤sizeLine∧(a==sysModules)=false∧∃ vs,KV kvs vs∧h.DictOf (zaX P w) a vs:=
 show zcB P w H h a (.dK kvs) from rd_of ok e
theorem dk_of {kvs:List (Key×V)}(ok:HOk P w H h)(e:H a=some (.dK kvs)):kvs.length≤sizeLine∧(a==sysModules)=false∧∃ vs,KV kvs vs∧h.DictOf (zaX P w) a vs:=zjs ok (.inl e)
theorem zgv {ks:List Key}(ok:HOk P w H h)(e:RdT H a (ks.map kV)):(tupleKind (zaX P w)).is h ks a:=by
 obtain ⟨_,its,r,o,h1,h2,n,h3⟩:=(show zcB P w H h a (.tup (ks.map kV)) from Rd.ok (show Rd H a _ from e) ok)
 exact ⟨o,its.toArray,n,h1,h2,h3,by simpa using ziZ r⟩
theorem zjb {kvs:List (List Key×V)}(ok:HOk P w H h)(e:Rd H a (.dT kvs)):kvs.length≤sizeLine∧(a==sysModules)=false∧
  ∃ xs,KT H kvs xs∧h.DictOfH (tupleKind (zaX P w)) a xs:=by
 obtain ⟨z,y,xs,r,o,es,ep,h1,h2,h3,h4,h5⟩:=(show zcB P w H h a (.dT kvs) from rd_of ok e)
 refine ⟨z,y,xs,r,o,es,ep,h1,h2,h3,h4,fun x hx=>?_,h5⟩
 have all:∀ {l:List (List Key×V)} {m:List (List Key×Addr×Value)},KT H l m→∀ x∈m,(tupleKind (zaX P w)).is h x.1 x.2.1:=by
  intro l m q
  induction q with
  | nil=>intro x hx;exact nomatch hx
  | @cons p q ps qs hq t ih=>
   intro x hx
   rcases List.mem_cons.mp hx with e | hx
   ·subst e
    exact zgv ok (by rw [← hq.1];exact hq.2.1)
   ·exact ih x hx
 exact all r x hx
theorem dt_of {kvs:List (List Key×V)}(ok:HOk P w H h)(e:H a=some (.dT kvs)):kvs.length≤sizeLine∧(a==sysModules)=false∧
  ∃ xs,KT H kvs xs∧h.DictOfH (tupleKind (zaX P w)) a xs:=zjb ok (.inl e)
end
noncomputable def DGet (H:Hp) (a:Addr) (y:V) (r:Option V):Prop:=
 (∃ kvs k,Rd H a (.dK kvs)∧y=kV k∧r=valV kvs k)∨∃ kvs k b,Rd H a (.dT kvs)∧y= .ref b∧RdT H b (k.map kV)∧r=valV kvs k
noncomputable def DPut (H:Hp) (a:Addr) (y v:V) (H':Hp):Prop:=
 (∃ kvs k,H a=some (.dK kvs)∧y=kV k∧kvs.length < sizeLine∧H'=upd H a (.dK (putK kvs k v)))∨
 ∃ kvs k b,H a=some (.dT kvs)∧y= .ref b∧RdT H b (k.map kV)∧kvs.length < sizeLine∧H'=upd H a (.dT (putK kvs k v))
theorem DGet.t {H:Hp}{a b:Addr}{kvs:List (List Key×V)}{k:List Key}(e:H a=some (.dT kvs))(eb:H b=some (.tup (k.map kV))):DGet H a (.ref b) (valV kvs k):=.inr ⟨kvs,k,b,.inl e,rfl,.inl eb,rfl⟩
theorem DPut.t {H:Hp}{a b:Addr}{kvs:List (List Key×V)}{k:List Key}{v:V}(e:H a=some (.dT kvs))(eb:H b=some (.tup (k.map kV)))(hl:kvs.length < sizeLine):
  DPut H a (.ref b) v (upd H a (.dT (putK kvs k v))):=.inr ⟨kvs,k,b,e,rfl,.inl eb,hl,rfl⟩
section
variable {X:Cx} {pins:List (Addr×Obj)} {σ :St} {H:Hp} {s:Shared} {a:Addr} {y v:V} {u r:Value} {o:Option V} {A:Around} {E:Value→Shared→Prop}
theorem Inv.big (I:Inv X pins σ H s):sysModules < s.heap.objs.size:=by
 have h:mainGlobals < s.heap.objs.size:=(I.mod.glob.keeps I.bk).lt
 exact Nat.lt_trans (by decide) h
theorem zk8 {Q:Value→Shared→Prop}(hu:A.units+1 < cLine)(I:Inv X pins σ H s)(g:DGet H a y (some v))(ry:RelV y u)(h:∀ w' s',Inv X pins σ H s'→RelV v w'→Q w' s'):
  wpAny (model X.prog X.w) A (getItem (.ref a) u) Q E s:=by
 rcases g with ⟨kvs,k,e,ey,l⟩ | ⟨kvs,k,b,e,ey,eb,l⟩
 ·subst ey
  obtain ⟨z,hd,vs,rel,dd⟩:=zjs I.hok e
  obtain ⟨w',hw,rw'⟩:=RelO.some_of (v:=v) (o:=valueAt vs k) (by rw [l];exact rel.val k)
  exact wpAny_getItem_of (zkQ ry) dd.mapOf hw (h w' _ (I.tok _) rw')
 ·subst ey
  cases (show u=Value.ref b from ry)
  obtain ⟨z,hd,xs,rel,dd⟩:=zjb I.hok e
  obtain ⟨w',hw,rw'⟩:=RelO.some_of (v:=v) (o:=(atKey xs k).map (·.2)) (by rw [l];exact rel.val k)
  obtain ⟨p,hp,hp2⟩:=Option.map_eq_some_iff.mp hw
  refine wpAny_getItem_heap (tupleKind_room_in1 hu) (zgv I.hok eb) dd hp ?_
  rw [hp2]
  exact h w' _ (I.tok _) rw'
theorem d_in {Q:Value→Shared→Prop}(hu:A.units+1 < cLine)(I:Inv X pins σ H s)(g:DGet H a y o)(ry:RelV y u)(h:∀ s',Inv X pins σ H s'→Q (.bool o.isSome) s'):
  wpAny (model X.prog X.w) A (compareOp .In u (.ref a)) Q E s:=by
 rcases g with ⟨kvs,k,e,ey,l⟩ | ⟨kvs,k,b,e,ey,eb,l⟩
 ·subst ey
  obtain ⟨z,hd,vs,rel,dd⟩:=zjs I.hok e
  refine wpAny_in_of (zkQ ry) hd dd.mapOf ?_
  rw [← (rel.val k).isSome_eq,← l]
  exact h _ (I.tok _)
 ·subst ey
  cases (show u=Value.ref b from ry)
  obtain ⟨z,hd,xs,rel,dd⟩:=zjb I.hok e
  refine wpAny_in_heap (tupleKind_room_in1 hu) (zgv I.hok eb) hd dd ?_
  have q:=(rel.val k).isSome_eq
  rw [Option.isSome_map] at q
  rw [← q,← l]
  exact h _ (I.tok _)
theorem znC {Q:Value→Shared→Prop}(hu:A.units+1 < cLine)(I:Inv X pins σ H s)(g:DGet H a y o)(ry:RelV y u)(h:∀ s',Inv X pins σ H s'→Q (.bool (!o.isSome)) s'):
  wpAny (model X.prog X.w) A (compareOp .NotIn u (.ref a)) Q E s:=by
 rcases g with ⟨kvs,k,e,ey,l⟩ | ⟨kvs,k,b,e,ey,eb,l⟩
 ·subst ey
  obtain ⟨z,hd,vs,rel,dd⟩:=zjs I.hok e
  refine wpAny_notIn_of (zkQ ry) hd dd.mapOf ?_
  rw [← (rel.val k).isSome_eq,← l]
  exact h _ (I.tok _)
 ·subst ey
  cases (show u=Value.ref b from ry)
  obtain ⟨z,hd,xs,rel,dd⟩:=zjb I.hok e
  refine wpAny_notIn_heap (tupleKind_room_in1 hu) (zgv I.hok eb) hd dd ?_
  have q:=(rel.val k).isSome_eq
  rw [Option.isSome_map] at q
  rw [← q,← l]
  exact h _ (I.tok _)
theorem zlK {h':Heap}{t':Nat}{ob:HO}(I:Inv X pins σ H s)(mu:Mut (H a))(hs:Heap.SameBut a s.heap h')(he:∃ q,h'.get? a=some q)(new:zcB X.prog X.w (upd H a ob) h' a ob):
  Inv X pins σ (upd H a ob) {s with heap:=h',toks:=t'}:=
 I.write (x:=a) (e:=a) mu (.inl rfl) (fun b q hb z=>(hs.2 b hb).trans z) he new
theorem dk_new {P:Program}{w:World}{H':Hp}{h':Heap}{kvs:List (Key×V)}{vs:List (Key×Value)}(z:kvs.length≤sizeLine)(hd:(a==sysModules)=false)(rel:KV kvs vs)(dd:h'.DictOf (zaX P w) a vs):
  zcB P w H' h' a (.dK kvs):=⟨z,hd,vs,rel,dd⟩
theorem zmd {H':Hp}{Q:Unit→Shared→Prop}(hu:A.units+1 < cLine)(I:Inv X pins σ H s)(g:DPut H a y v H')(ry:RelV y u)(rv:RelV v r)(h:∀ s',Inv X pins σ H' s'→Q () s'):
  wpAny (model X.prog X.w) A (setItem (.ref a) u r) Q E s:=by
 rcases g with ⟨kvs,k,e,ey,l,eH⟩ | ⟨kvs,k,b,e,ey,eb,l,eH⟩
 ·subst ey eH
  obtain ⟨z,hd,vs,rel,dd⟩:=dk_of I.hok e
  have hz:vs.length≤sizeLine:=by rw [← rel.length];exact z
  have hl:(putK kvs k v).length≤sizeLine:=by have:=zes kvs k v;omega
  refine wpAny_setItem_pairs (hsz:=hz) (zkQ ry) dd fun h' dd' hs=>h _ ?_
  have he:∃ q,h'.get? a=some q:=let ⟨q,_,_,hq,_⟩:=dd';⟨q,hq⟩
  exact zlK I (by rw [e];exact True.intro) hs he (dk_new hl hd (rel.put k rv) dd')
 ·subst ey eH
  cases (show u=Value.ref b from ry)
  obtain ⟨z,hd,xs,rel,dd⟩:=dt_of I.hok e
  have hz:xs.length≤sizeLine:=by rw [← Paired.length rel];exact z
  have hl:(putK kvs k v).length≤sizeLine:=by have:=zes kvs k v;omega
  refine wpAny_setItem_heap (hsz:=hz) (tupleKind_room_in1 hu) (zgv I.hok eb) dd fun h' dd' hs=>h _ ?_
  obtain ⟨q,es,ep,hq,h2,h3,h4,_,h5⟩:=dd'
  refine zlK I (by rw [e];exact True.intro) hs ⟨q,hq⟩ ⟨hl,hd,_,(rel.put k eb rv).keeps fun c ys ec=>ec.keep fun u eu hu=>?_,q,es,ep,hq,h2,h3,h4,h5⟩
  rw [zam (zmW eu e (fun z=>by obtain ⟨ys,hu | ⟨_,hu⟩⟩:=hu <;> (rw [hu] at z;cases z)))]
  exact eu
end
section
variable {X:Cx} {pins:List (Addr×Obj)} {σ :St} {H:Hp} {s:Shared} {a:Addr} {kvs:List (Key×V)} {k:Key} {u:Value} {A:Around} {E:Value→Shared→Prop}
end
noncomputable def NoSl (i:Expr):Prop:=∀ ov iv,subscripted i false ov iv=operate [ov,iv] (getItem ov iv)
theorem znX {prog:Program}{w:World}{A:Around}{E:Value→Shared→Prop}{s:Shared}{env:Env}{value slice:Expr}{pos:Pos}{T id:String}{Q:Value→Shared→Prop}
  (hl:typeLookup (.type T) "__getitem__" =pure (some (.builtin id))) (hs:NoSl slice)
  (h:wpAny (model prog w) A (eval value env) (fun o s₁ =>wpAny (model prog w) A (eval slice env) (fun i s₂ =>s₂.TypeIs o T∧wpAny (model prog w) A (getItem o i) Q E s₂) E s₁) E s):
  wpAny (model prog w) A (eval (.Subscript value slice pos) env) Q E s:=by
 refine Subscript_ (wpAny_mono h (fun o s₁ h₁ =>wpAny_mono h₁ (fun i s₂ h₂ =>?_) fun _ _ x=>x) fun _ _ x=>x)
 obtain ⟨hT,h₂⟩:=h₂
 unfold subscriptTail
 refine wpAny_bind ?_
 rw [getitemInPython_of_ne hT.not_modules]
 refine wpAny_bind (wpAny_specialOf hT hl ?_)
 have fin:wpAny (model prog w) A (subscripted slice false o i) (fun r s₃ =>wpAny (model prog w) A (letTemporaryGo value o r >>=fun _=>pure r) Q E s₃) E s₂ :=by
  rw [hs o i]
  exact wpAny_operating (wpAny_mono h₂ (fun r s₃ h₃ =>wpAny_bind (wpAny_letTemporaryGo (wpAny_pure h₃))) fun _ _ x=>x)
 first
  | exact wpAny_pure (wpAny_bind fin)
  | exact wpAny_bind (wpAny_pure (wpAny_bind fin))
  | exact wpAny_bind fin
theorem zi9 {X:Cx}{pins:List (Addr×Obj)}{σ :St}{H:Hp}{s:Shared}{a:Addr}{y:V}{o:Option V}(I:Inv X pins σ H s)(g:DGet H a y o):s.TypeIs (.ref a) "dict" :=by
 rcases g with ⟨kvs,k,e,_,_⟩ | ⟨kvs,k,b,e,_,_,_⟩
 ·obtain ⟨_,_,vs,_,dd⟩:=zjs I.hok e
  exact dd.typeIs
 ·obtain ⟨_,_,xs,_,dd⟩:=zjb I.hok e
  exact dd.typeIs
noncomputable def tDGet (td ty:TE):TE:=fun σ H Q=>td σ H fun x H1=>ty σ H1 fun y H2=>∃ a v,x= .ref a∧DGet H2 a y (some v)∧Q v H2
noncomputable def tDIn (ty td:TE):TE:=fun σ H Q=>ty σ H fun y H1=>td σ H1 fun x H2=>∃ a o,x= .ref a∧DGet H2 a y o∧Q (.bl o.isSome) H2
noncomputable def zkX (ty td:TE):TE:=fun σ H Q=>ty σ H fun y H1=>td σ H1 fun x H2=>∃ a o,x= .ref a∧DGet H2 a y o∧Q (.bl (!o.isSome)) H2
noncomputable def sDPut (td ty tv:TE):TS:=fun D σ H=>tv σ H fun v H1=>td σ H1 fun x H2=>ty σ H2 fun y H3=>∃ a H4,x= .ref a∧DPut H3 a y v H4∧D.nx σ H4
section
variable {X:Cx} {o i e value:Expr} {pos pos' tpos:Pos} {td ty tv:TE}
theorem zov (hu:X.A.units+1 < cLine)(ho:PE X o td)(hi:PE X i ty)(hs:NoSl i):PE X (.Subscript o i pos) (tDGet td ty):=by
 intro pins s σ H Q I h
 refine znX PySem.F.slot_dict_getitem.lookup hs (thn (ho pins s σ H _ I h) fun u s1 ⟨x,H1,I1,rx,q1⟩=>thn (hi pins s1 σ H1 _ I1 q1) fun iv s2 ⟨y,H2,I2,ry,a,v,ex,g,q2⟩=>?_)
 subst ex
 obtain rfl:u=Value.ref a:=rx
 exact ⟨zi9 I2 g,zk8 hu I2 g ry fun w' s3 I3 rw'=>⟨v,H2,I3,rw',q2⟩⟩
theorem pc_din (hu:X.A.units+1 < cLine)(hi:PE X i ty)(ho:PE X o td):PC X .In i o (tDIn ty td):=by
 intro pins s σ H Q I h
 refine thn (hi pins s σ H _ I h) fun iv s1 ⟨y,H1,I1,ry,q1⟩=>thn (ho pins s1 σ H1 _ I1 q1) fun u s2 ⟨x,H2,I2,rx,a,ov,ex,g,q2⟩=>?_
 subst ex
 obtain rfl:u=Value.ref a:=rx
 exact d_in hu I2 g ry fun s3 I3=>⟨.bl ov.isSome,H2,I3,rfl,q2⟩
theorem zlD (hu:X.A.units+1 < cLine)(hi:PE X i ty)(ho:PE X o td):PC X .NotIn i o (zkX ty td):=by
 intro pins s σ H Q I h
 refine thn (hi pins s σ H _ I h) fun iv s1 ⟨y,H1,I1,ry,q1⟩=>thn (ho pins s1 σ H1 _ I1 q1) fun u s2 ⟨x,H2,I2,rx,a,ov,ex,g,q2⟩=>?_
 subst ex
 obtain rfl:u=Value.ref a:=rx
 exact znC hu I2 g ry fun s3 I3=>⟨.bl (!ov.isSome),H2,I3,rfl,q2⟩
theorem zn5 (hu:X.A.units+1 < cLine)(ho:PE X o td)(hi:PE X i ty)(hv:PE X value tv)(hs:swapsWith value (some (.Subscript o i pos')) pos.line X.env=pure false):
  PS X (.Assign [.Subscript o i pos'] value pos) (sDPut td ty tv):=by
 intro pins s σ H D I h
 refine wpAny_Assign_Subscript (thn (hv pins s σ H _ I h) fun r s1 ⟨v,H1,I1,rv,q1⟩=>thn (ho pins s1 σ H1 _ I1 q1) fun u s2 ⟨x,H2,I2,rx,q2⟩=>thn (hi pins s2 σ H2 _ I2 q2) fun iv s3 ⟨y,H3,I3,ry,a,H4,ex,g,q3⟩=>?_) hs
 subst ex
 obtain rfl:u=Value.ref a:=rx
 exact zmd hu I3 g ry rv fun s4 I4=>⟨σ,H4,I4,q3⟩
end
theorem zmU {P:Program}{w:World}{H:Hp}(h:Heap)(hb:sysModules < h.objs.size):zcB P w H (h.push {cls:=.type "dict",data:=.dict #[]}) h.objs.size (.dT []):=
 ⟨Nat.zero_le _,beq_eq_false_iff_ne.mpr (Ne.symm (Nat.ne_of_lt hb)),[],.nil,_,#[],0,Heap.get?_push_size _ rfl,⟨rfl,rfl,rfl⟩,rfl,rfl,List.nodup_nil⟩
noncomputable def znw:TE:=fun _ H Q=>∀ p,H p=none→Q (.ref p) (upd H p (.dT []))
section
variable {X:Cx} {pos:Pos}
theorem zmz:PE X (.Dict [] [] pos) znw:=fun pins s σ H Q I h=>
 wpAny_Dict_empty ⟨.ref s.heap.objs.size,_,I.laid (a:=s.heap.objs.size) (o:=.dT []) (t':=s.toks) (fun _ _ q=>Heap.get?_push_of_some _ q) (Nat.le_refl _) (zmU s.heap I.big),rfl,h _ (I.hok.fresh (Nat.le_refl _))⟩
end
structure M2 (X:Cx) (o:Expr) (m:Str) (apos:Pos) (e f:Expr) (cpos:Pos):Prop where
 base:attributeBase o m X.env (eval o X.env)=eval o X.env
 few:((backTo cpos (starEach [e,f] X.env)).all (fun x=>!x.1) && (backToKw cpos (keywordEach [] X.env)).all (fun x=>x.1.isSome)
  && decide (([e,f]:List Expr).length+([]:List Keyword).length+(if ([]:List Keyword).isEmpty then 0 else 1) < 30))=true
 line:(apos.endLine==cpos.line)=true
 trees:backTo cpos (starEach [e,f] X.env)= [(false,eval e X.env),(false,eval f X.env)]
noncomputable def IsD (H:Hp) (a:Addr):Prop:=(∃ kvs,Rd H a (.dK kvs))∨∃ kvs,Rd H a (.dT kvs)
theorem isD_at {X:Cx}{pins:List (Addr×Obj)}{σ :St}{H:Hp}{s:Shared}{a:Addr}(I:Inv X pins σ H s)(d:IsD H a):
  s.TypeIs (.ref a) "dict"∧(∀ b,Value.ref a= .ref b→∃ ob,s.heap.get? b=some ob∧ob.dict=none)∧(a==sysModules)=false:=by
 rcases d with ⟨kvs,e⟩ | ⟨kvs,e⟩
 ·obtain ⟨_,hd,vs,_,dd⟩:=zjs I.hok e
  refine ⟨dd.typeIs,fun b q=>?_,hd⟩
  cases q
  obtain ⟨ob,_,_,h1,h2,_⟩:=dd
  exact ⟨ob,h1,h2.2.1⟩
 ·obtain ⟨_,hd,xs,_,dd⟩:=zjb I.hok e
  refine ⟨dd.typeIs,fun b q=>?_,hd⟩
  cases q
  obtain ⟨ob,_,_,h1,h2,_⟩:=dd
  exact ⟨ob,h1,h2.2.1⟩
section
variable {X:Cx} {pins:List (Addr×Obj)} {σ :St} {H:Hp} {s:Shared} {a:Addr} {y d:V} {u r:Value} {o:Option V} {A:Around} {E:Value→Shared→Prop}
theorem d_get2 {Q:Value→Shared→Prop}(hu:A.units+1 < cLine)(I:Inv X pins σ H s)(g:DGet H a y o)(ry:RelV y u)(rd:RelV d r)(h:∀ w' s',Inv X pins σ H s'→RelV (o.getD d) w'→Q w' s'):
  wpAny (model X.prog X.w) A (call (.builtin "dict.get") [.ref a,u,r]) Q E s:=by
 rcases g with ⟨kvs,k,e,ey,l⟩ | ⟨kvs,k,b,e,ey,eb,l⟩
 ·subst ey
  obtain ⟨z,hd,vs,rel,dd⟩:=zjs I.hok e
  refine call_meetsIn PySem.F.slot_dict_get dd.typeIs PySem.F.entry_dict_get (PySem.F.args_dict_get_3 _ _ _) (meets_dict_get_default (zaX X.prog X.w) a (zkQ ry) hd r) ⟨_,dd.mapOf,h _ _ (I.tok _) ?_⟩
  rw [l]
  exact (rel.val k).getD rd
 ·subst ey
  cases (show u=Value.ref b from ry)
  obtain ⟨z,hd,xs,rel,dd⟩:=zjb I.hok e
  refine call_meetsIn PySem.F.slot_dict_get dd.typeIs PySem.F.entry_dict_get (PySem.F.args_dict_get_3 _ _ _) (meetsH_dict_get_default (tupleKind (zaX X.prog X.w)) a b hd r) ⟨tupleKind_room_in1 hu,k,xs,zgv I.hok eb,dd,h _ _ (I.tok _) ?_⟩
  rw [l]
  exact (rel.val k).getD rd
end
noncomputable def znz (td ty tx:TE):TE:=fun σ H Q=>td σ H fun x H1=>∃ a,x= .ref a∧IsD H1 a∧ty σ H1 fun y H2=>tx σ H2 fun z H3=>∃ o,DGet H3 a y o∧Q (o.getD z) H3
section
variable {X:Cx} {o e f:Expr} {apos cpos:Pos} {td ty tx:TE}
theorem zmJ (hu:X.A.units+1 < cLine)(ho:PE X o td)(he:PE X e ty)(hf:PE X f tx)(m:M2 X o "get" apos e f cpos):PE X (.Call (.Attribute o "get" apos) [e,f] [] cpos) (znz td ty tx):=by
 intro pins s σ H Q I h
 refine wpAny_Call_method m.base m.few m.line PySem.F.plainAttrs_dict PySem.F.slot_dict_get PySem.F.type_dict_get (thn (ho pins s σ H _ I h) fun u s1 ⟨x,H1,I1,rx,a,ex,d,q1⟩=>?_)
 subst ex
 obtain rfl:u=Value.ref a:=rx
 obtain ⟨t1,t2,_⟩:=isD_at I1 d
 refine ⟨t1,t2,?_⟩
 rw [m.trees]
 refine Calls.callWith_builtin rfl (Calls.evalArgs_plain (Calls.spliced_cons (thn (he pins s1 σ H1 _ I1 q1) fun iv s2 ⟨y,H2,I2,ry,q2⟩=>
  Calls.spliced_cons (thn (hf pins s2 σ H2 _ I2 q2) fun fv s3 ⟨z,H3,I3,rz,ov,g,q3⟩=>Calls.spliced_nil ?_))))
 exact d_get2 hu I3 g ry rz fun w' s4 I4 rw'=>⟨_,H3,I4,rw',q3⟩
end
section
variable {X:Cx} {pins:List (Addr×Obj)} {σ :St} {H:Hp} {s:Shared} {a:Addr} {kvs:List (Key×V)} {A:Around} {E:Value→Shared→Prop}
end
section
variable {X:Cx} {pins:List (Addr×Obj)} {σ :St} {H:Hp} {s:Shared} {a:Addr} {y:V} {u:Value} {A:Around} {E:Value→Shared→Prop}
end
end L2
namespace Att
open PySem PySem.W PySem.Calls PyProof.Rows
theorem zgA {P:Params}{h:Heap}:∀ (ns:List Int) (vs:List Value),WellAll P h vs (ns.map WData.int)→IntsAre vs ns:=by
 intro ns
 induction ns with
 | nil=>
  intro vs w
  rw [List.map_nil] at w
  cases w
  exact .nil
 | cons n ns ih=>
  intro vs w
  rw [List.map_cons] at w
  cases w with
  | cons a b=>
   cases a
   exact .cons _ _ (ih _ b)
theorem zml {l:OpenLaw}{n:Nat}(hn:l.most=some n){P:Params}{h:Heap}{args:List WData}{vals:List Value}
  (hpre:l.row.toRowW.claim.pre args=true) (hwl:WellAll P h vals args):
  ∃ a vs ns,vals= [Value.ref a]∧args= [WData.list (ns.map WData.int)]∧h.get? a=some {cls:=.type "list",data:=.seq vs.toArray}∧IntsAre vs ns∧ns.length≤n:=by
 have hsh:WShape.hasAll [] args [.list .int]=true:=(pre_splitW hpre).1
 have hc:l.pre.holds [] {args:=args}=true:=(pre_splitW hpre).2
 obtain ⟨d,r,rfl,h1,h2⟩:=hasAllW_cons hsh
 obtain rfl:=hasAllW_nil h2
 obtain ⟨xs,rfl,h3⟩:=hasW_list h1
 obtain ⟨ns,rfl⟩:=items_int h3
 have hlen:ns.length≤n:=by
  unfold OpenLaw.pre at hc
  have h4:(WTm.not (.lt (.lit (.int (n:Int))) (.len (.arg 0)))).holds [] {args:=[.list (ns.map .int)]}=true:=by
   have h4:=(holds_andW hc).1
   rw [hn] at h4
   exact h4
  have h5:=condW_of h4 (w_not (w_lt w_lit (w_len_list (w_arg rfl))))
  rw [List.length_map] at h5
  refine Nat.le_of_not_lt fun q=>?_
  have q':(n:Int) < ((ns.length:Nat):Int):=by omega
  first
   | (rw [decide_eq_true q'] at h5;exact absurd h5 (by decide))
   | (simp at h5;omega)
 cases hwl with
 | cons w1 w2=>
  cases w2
  cases w1 with
  | list ho hall=>exact ⟨_,_,ns,rfl,rfl,ho,zgA ns _ hall,hlen⟩
theorem zk6 (l:OpenLaw)(args:List WData):l.row.toRowW.claim.post args (.bool true) args=true:=
 postW_of (r:=l.row.toRowW) (X:=(true==true))
  (show WShape.has [] (.bool true) .bool=true by first | rfl | decide | simp [WShape.has,WShape.arms,WShape.armsAll])
  (show (WTm.eq .res (.lit (.bool true))).value [] {args:=args,res:=some (.bool true),after:=args}=some (.bool (true==true)) from w_eq_bool (w_res rfl) w_lit) rfl
theorem attach_call {l:OpenLaw}{n:Nat}{q:Program}{loose:List Str}{XP:(Str→Option Value)→Heap→Prop}{YP:World→Heap→Prop}{d:DefRec}
  (hn:l.most=some n) (hdf:d.params.defaults= [])
  (call:∀ (w:World) (s₀ s₁ :Shared) (mg mb:Str→Option Value) (fa:Addr) (o:Obj) (pm cd doc:Value) (a:Addr) (vs:List Value) (ns:List Int),
   Ground q loose [] XP w s₀ mg mb s₁.heap→YP w s₁.heap→
   s₁.heap.get? fa=some o→o.data= .func (docDef d.name d.params d.body d.scope pm cd doc)→s₁.heap.CodeRec cd d.name→mg d.name=some (.ref fa)→
   s₁.heap.get? a=some {cls:=.type "list",data:=.seq vs.toArray}→IntsAre vs ns→ns.length≤n→s₁.gens= #[]→
   codeAny (model l.prog w) callerA (.call (.ref fa) ⟨[.ref a],[]⟩) (fun r s'=>r= .ok (.ret (.bool true))∧OldK s₁.heap s'.heap∧s'.os=s₁.os∧AllBare s'.gens) s₁):
  WalkO q loose XP YP l.row.toRowW d [] (fun f vs=>PySem.call f vs):=by
 intro w s₀ s₁ mg mb G Y fa o pm cd doc dV kV ho hd hcd hD hmg hg args vals as hpre hlay hrd hwl hlo
 obtain rfl:dV= .none:=Dflts.none hD hdf
 obtain rfl:kV= .none:=Dflts.noKw hD
 obtain ⟨a,vs,ns,rfl,rfl,hobj,hints,hlen⟩:=zml hn hpre hwl
 refine enter_call (codeAny_mono (call w s₀ s₁ mg mb fa o pm cd doc a vs ns G Y ho (fd_plain hd) hcd hmg hobj hints hlen hg) fun r s' hq=>?_)
 obtain ⟨rfl,h2,h3,h4⟩:=hq
 exact ⟨.inl ⟨.bool true,.bool true,[],rfl,fun _=>rfl,.bool true,zk6 l _,fun _=>⟨List.Pairwise.nil,fun _ hm=>(nomatch hm)⟩⟩,h2,h3,h4⟩
section
variable {prog:Program} {w:World} {A:Around} {E:Value→Shared→Prop} {s:Shared} {K:Frag}
end
end Att
namespace L2
open PySem PySem.Spec PyProof.Rows
theorem zia:∀ {vs:List Value} {ns:List Int},IntsAre vs ns→Vals (ns.map V.int) vs
 | _,_,.nil=>.nil
 | _,_,.cons n t h=>.cons ⟨t,rfl⟩ (zia h)
noncomputable def Only (H:Hp):Prop:=∀ b,H b=none∨∃ o xs,H b=some (.frz o (.lst xs))
theorem zng {P:Program}{w:World}{K:PySem.W.Frag}{mg mb:Str→Option Value}{CX:CXT}{k:Nat}{fa a:Addr}{fd:FuncData}{x:Str}{sp:Sp}{s₁ :Shared}{vs:List Value}{ns:List Int}
  (KX:K.In s₁.heap) (hns:s₁.heap.Ns mainGlobals mg) (hb:s₁.heap.Ns builtinsNs mb) (hbb:∀ x:Str,x≠"__name__"→mb x=bootBuiltins x) (hlim:s₁.heap.NoLimit) (hg:s₁.gens= #[])
  (ha:s₁.heap.get? a=some {cls:=.type "list",data:=.seq vs.toArray}) (hi:IntsAre vs ns) (hl:ns.length≤sizeLine) (hr:Room k callerA)
  (F:∀ base:Heap,K.In base→base.Ns mainGlobals mg→FnOk P w K mg base CX k fa fd [x] sp) (hbind:∀ (s:Shared) (u:Value),BindsTo s fd ⟨[u],[]⟩ [(x,u)])
  (hsp:∀ H:Hp,Only H→SqL K H a (ns.map V.int)→sp [.ref a] H (fun v _=>v= .bl true) fun _ _ _=>False)
  (hCX:∀ H e s',CX [] H s₁ (fun _ _ _=>False) e s'→False):
  codeAny (model P w) callerA (.call (.ref fa) ⟨[.ref a],[]⟩) (fun r s'=>r= .ok (.ret (.bool true))∧OldK s₁.heap s'.heap∧s'.os=s₁.os∧AllBare s'.gens) s₁ :=by
 have rv:=zia hi
 have lenV:=hi.length
 have core:∀ H:Hp,Only H→SqL K H a (ns.map V.int)→HOk P w H s₁.heap→(∀ b,H b≠none→b=a)→(H a≠none→K.lookup a=none)→
   codeAny (model P w) callerA (.call (.ref fa) ⟨[.ref a],[]⟩) (fun r s'=>r= .ok (.ret (.bool true))∧OldK s₁.heap s'.heap∧s'.os=s₁.os∧AllBare s'.gens) s₁ :=by
  intro H hO hS hok hA hK
  have base_of:∀ {b:Addr} {o:Obj},s₁.heap.get? b=some o→H b=none→(hidT s₁.heap H).get? b=some o:=fun e n=>zmw e n
  have noA:∀ {b:Addr} {o:Obj} {es:Array DictEntry} {ep:Nat},s₁.heap.get? b=some o→o.data= .dict es ep→H b=none:=fun {b o es ep} e d=>by
   cases q:H b with
   | none=>rfl
   | some u=>
    have e':b=a:=hA b (by rw [q];simp)
    subst e'
    rw [ha] at e;cases e
    have d':Data.seq vs.toArray _=Data.dict es ep:=d
    cases d'
  have nsK:∀ {b:Addr} {m:Str→Option Value},s₁.heap.Ns b m→(hidT s₁.heap H).Ns b m:=fun {b m} ⟨o,es,ep,e,d,r⟩=>⟨o,es,ep,base_of e (noA e d),d,r⟩
  have hKb:K.In (hidT s₁.heap H):=fun b o e=>base_of (KX b o e) (by
   cases q:H b with
   | none=>rfl
   | some u=>
    have e':b=a:=hA b (by rw [q];simp)
    subst e'
    rw [hK (by rw [q];simp)] at e;cases e)
  have hM:Mod K mg (hidT s₁.heap H):=⟨hKb,nsK hns,⟨mb,nsK hb,hbb⟩,let ⟨mc,h1,h2⟩:=hlim;⟨mc,nsK h1,h2⟩⟩
  have e0:Env0 P w K mg (hidT s₁.heap H) callerA [] s₁ H:=⟨rfl,hM,fun b o e=>znL e,Nat.le_of_eq (zlH _ _),trivial,fun b hb=>absurd (show b∈([]:List Addr) from hb) (by simp),hok,.of_eq hg⟩
  refine codeAny_mono ((F _ hKb (nsK hns)).run callerA [] s₁ H ⟨[.ref a],[]⟩ [.ref a] [.ref a] _ _ hr e0 (hbind s₁ (.ref a)) (.cons rfl .nil) (hsp H hO hS)) fun r s' h=>?_
  cases r with
  | error e=>exact (hCX H e s' h).elim
  | ok fl=>
   cases fl with
   | next=>exact False.elim h
   | brk=>exact False.elim h
   | cont=>exact False.elim h
   | ret u=>
    obtain ⟨v,H',os,bare,un,hok',r',q⟩:=h
    have q':v= .bl true:=q
    subst q'
    obtain rfl:u=Value.bool true:=r'
    refine ⟨rfl,OldK.of_keep fun b o e=>?_,os,bare⟩
    cases q:H b with
    | none=>exact un.keep b o e q (by intro z;exact absurd (show b∈([]:List Addr) from z) (by simp)) (by simp)
    | some u=>
     rcases hO b with z | ⟨ob,xs,z⟩
     ·rw [q] at z;cases z
     ·have z2:=un.frzs b ob _ z
      obtain ⟨e1,_⟩:=hok b _ z
      obtain ⟨e2,_⟩:=hok' b _ z2
      rw [e] at e1;cases e1
      exact e2
 cases hk:K.lookup a with
 | some o=>
  have e:=KX a o hk
  rw [ha] at e
  cases e
  refine core (fun _=>none) (fun _=>.inl rfl) (.inr ⟨_,vs.toArray,_,hk,rfl,rfl,rfl,by rw [List.size_toArray,lenV];exact hl,by simpa using rv⟩) (fun b u z=>by have z':(none:Option HO)=some u:=z;cases z') (fun b z=>absurd rfl z) fun z=>absurd rfl z
 | none=>
  refine core (fun b=>if b=a then some (.frz {cls:=.type "list",data:=.seq vs.toArray} (.lst (ns.map V.int))) else none) (fun b=>?_) (.inl (.inr ⟨{cls:=.type "list",data:=.seq vs.toArray},if_pos rfl⟩)) (fun b u z=>?_) (fun b z=>?_) fun _=>hk
  ·by_cases hb:b=a
   ·exact .inr ⟨_,_,if_pos hb⟩
   ·exact .inl (if_neg hb)
  ·by_cases hb:b=a
   ·have z':=(if_pos hb).symm.trans z
    cases z'
    subst hb
    exact ⟨ha,by rw [List.length_map];exact hl,vs,_,rv,ha⟩
   ·have z':=(if_neg hb).symm.trans z
    cases z'
  ·by_cases hb:b=a
   ·exact hb
   ·exact absurd (if_neg hb) z
end L2
namespace L2
open PySem PySem.Spec PyProof.Rows
theorem zor {l:PySem.W.OpenLaw}{n k:Nat}{q:Program}{loose:List Str}{XP:(Str→Option Value)→Heap→Prop}{YP:World→Heap→Prop}{d:DefRec}{K:Params→PySem.W.Frag}{CX:World→CXT}{sp:World→Sp}{x:Str}
  (hn:l.most=some n) (hn2:n≤sizeLine) (hdf:d.params.defaults= []) (hr:Room k callerA)
  (hY:∀ (w:World) (h:Heap),YP w h→(K w.params).In h)
  (F:∀ (w:World) (mg:Str→Option Value) (fa:Addr) (h:Heap),(K w.params).In h→h.Ns mainGlobals mg→mg d.name=some (.ref fa)→
   ∃ fd:FuncData,(∀ (s:Shared) (u:Value),BindsTo s fd ⟨[u],[]⟩ [(x,u)])∧
    ∀ base:Heap,(K w.params).In base→base.Ns mainGlobals mg→FnOk l.prog w (K w.params) mg base (CX w) k fa fd [x] (sp w))
  (hsp:∀ (w:World) (H:Hp) (a:Addr) (ns:List Int),ns.length≤n→Only H→SqL (K w.params) H a (ns.map V.int)→sp w [.ref a] H (fun v _=>v= .bl true) fun _ _ _=>False)
  (hCX:∀ (w:World) (H:Hp) (s:Shared) (e:Value) (s':Shared),CX w [] H s (fun _ _ _=>False) e s'→False):
  PySem.W.WalkO q loose XP YP l.row.toRowW d [] (fun f vs=>PySem.call f vs):=by
 refine Att.attach_call hn hdf fun w s₀ s₁ mg mb fa o pm cd doc a vs ns G Y ho hd hcd hmg hobj hints hlen hg=>?_
 have KX:=hY w _ Y
 obtain ⟨fd,hb,hF⟩:=F w mg fa _ KX G.T.g hmg
 exact zng KX G.T.g G.T.b G.T.builtins G.T.nolimit hg hobj hints (Nat.le_trans hlen hn2) hr hF hb (fun H hO hS=>hsp w H a ns hlen hO hS) fun H e s'=>hCX w H s₁ e s'
end L2
namespace L2
open PySem PySem.Spec PyProof.Rows
noncomputable abbrev CX0:CXT:=fun _ _ _ _ _ _=>False
noncomputable abbrev E0:XK:=fun _ _ _=>False
theorem zaH {X:Cx}:zkg CX0 X E0:=fun _ _ _ _ _ _ _ h=>h.elim
structure Fun (K:PySem.W.Frag) (x qual:Str) (st:Stmt) (f:Addr) (fd:FuncData):Prop where
 ex:∃ (oc:Value) (od:Option Addr) (kV doc pm:Value) (an:Option Addr) (cdv ct:Value) (osl:Array (Option Value)),
  fd=PySem.W.fnOf x qual (zaw st) (zau st) (zah st) .none kV doc pm an cdv ct∧K.lookup f=some ⟨oc,od,.func fd,osl⟩∧PySem.W.codeIn K cdv qual=true
 kp:PySem.W.keepIn K (.ref f)=true
section
variable {P:Program} {w:World} {K:PySem.W.Frag} {mg:Str→Option Value} {base:Heap}
theorem Fun.ok {x qual:Str}{st:Stmt}{f:Addr}{fd:FuncData}{N ps:List Str}{k:Nat}{sp:Sp}(F:Fun K x qual st f fd)(S:zay N ps (zah st))(len:∀ vs H Q E,sp vs H Q E→vs.length=ps.length)
  (hbody:∀ (cdv:Value) (A:Around) (outer:List Env) (s:Shared) (H:Hp) (vs:List V) (Q:VK) (E:XK),Room k (A.deeper (envOfC qual (zah st) s.heap.objs.size f cdv))→sp vs H Q E→
   ∃ t,PSs (cxOf CX0 P w K mg base N qual (zah st) f cdv A outer s H E).nox (zau st) t∧t {nx:=fun _ H'=>Q .non H',rt:=Q} (start N vs) H):FnOk P w K mg base CX0 (k+1) f fd ps sp:=by
 obtain ⟨oc,od,kV,doc,pm,an,cdv,ct,osl,rfl,lk,hcd⟩:=F.ex
 refine fn_of lk hcd S len fun A outer s H vs Q E hr hsp=>?_
 obtain ⟨t,h,q⟩:=hbody cdv A outer s H vs Q E hr hsp
 exact ⟨t,h.nox,q⟩
theorem Fun.binds {x qual:Str}{st:Stmt}{f:Addr}{fd:FuncData}{ps:List Str}(F:Fun K x qual st f fd)
  (h:∀ (kV doc pm:Value) (an:Option Addr) (cdv ct:Value) (us:List Value),us.length=ps.length→bindArgs (PySem.W.fnOf x qual (zaw st) (zau st) (zah st) .none kV doc pm an cdv ct) ⟨us,[]⟩=pure (ps.zip us)):zgY K fd ps []:=by
 obtain ⟨oc,od,kV,doc,pm,an,cdv,ct,osl,rfl,lk,hcd⟩:=F.ex
 exact .all (h kV doc pm an cdv ct)
theorem zaW {x qual:Str}{st:Stmt}{f:Addr}{oc:Value}{od an:Option Addr}{osl:Array (Option Value)}{kV doc pm cdv ct:Value}(l:K.lookup f=some ⟨oc,od,.func (PySem.W.fnOf x qual (zaw st) (zau st) (zah st) .none kV doc pm an cdv ct),osl⟩)
  (c:PySem.W.codeIn K cdv qual=true) (k:PySem.W.keepIn K (.ref f)=true):Fun K x qual st f (PySem.W.fnOf x qual (zaw st) (zau st) (zah st) .none kV doc pm an cdv ct):=⟨⟨oc,od,kV,doc,pm,an,cdv,ct,osl,rfl,l,c⟩,k⟩
end
theorem zhV {A:Around}{k:Nat}(hr:Room k A):A.units+1 < cLine:=Nat.lt_of_le_of_lt (Nat.add_le_add_left (by decide: 1≤64) _) hr.units
section
variable {X:Cx}
theorem pv (i:Nat){x:Str}{pos:Pos}(hN:X.N[i]? =some x:=by rfl)(hv:Vis X.env.scope x:=by first | exact Or.inl rfl | exact Or.inr (Or.inl rfl) | exact Or.inr (Or.inr rfl))(hd:(x==("__debug__" :Str))=false:=by decide)
  (hcd:(x==("__classdict__" :Str))=false:=by decide):PE X (.Name x pos) (tVar i):=znr hN hv hd hcd
end
theorem iteF {A B:Prop}(h:B):if false=true then A else B:=by
 rw [if_neg Bool.false_ne_true]
 exact h
theorem iteT {A B:Prop}(h:A):if true=true then A else B:=by
 rw [if_pos rfl]
 exact h
theorem ite2 {c A B:Prop}[Decidable c](h1:c→A)(h2:¬c→B):if c then A else B:=by
 by_cases h:c
 ·rw [if_pos h]
  exact h1 h
 ·rw [if_neg h]
  exact h2 h
theorem iteNS {c A B:Prop}[Decidable c](hc:c)(h:B):if (!decide c)=true then A else B:=by
 rw [decide_eq_true hc]
 exact iteF h
noncomputable def Same (H H':Hp):Prop:=∀ b o,H b=some o→H' b=some o
theorem Same.refl (H:Hp):Same H H:=fun _ _ h=>h
theorem Same.trans {H H1 H2:Hp}(a:Same H H1)(b:Same H1 H2):Same H H2:=fun c o h=>b c o (a c o h)
theorem Same.free {H H':Hp}(e:Same H H'){l:Addr}(h:H' l=Option.none):H l=Option.none:=by
 cases q:H l with
 | none=>rfl
 | some o=>
  rw [e l o q] at h
  cases h
theorem Same.seq {K:PySem.W.Frag}{H H':Hp}{a:Addr}{xs:List V}(e:Same H H')(h:SqL K H a xs):SqL K H' a xs:=by
 rcases h with (h | ⟨o,h⟩) | h
 ·exact .inl (.inl (e _ _ h))
 ·exact .inl (.inr ⟨o,e _ _ h⟩)
 ·exact .inr h
end L2
namespace L2
open PySem PySem.Spec PyProof.Rows
section
variable {X:Cx}
end
section
variable {κ :Type} [DecidableEq κ]
end
end L2
set_option maxHeartbeats 4000000
namespace L2
open PySem PySem.Spec PyProof.Rows
theorem zhy {prog:Program}{w:World}{A:Around}{R:Result→Shared→Prop}{s:Shared}
  {elt tg iter:Expr} {ifs:List Expr} {scope:Scope} {pos:Pos} {it acc:Value} {env:Env}
  (I:Nat→Shared→Prop)
  (turn:∀ n s,I n s→wpAny (model prog w) A (pyNext it)
   (fun r s1=>match r with
    | none=>R (.ok .next) s1
    | some v=>wpAny (model prog w) A (letOwnedTupleGo tg it v) (fun _ s2=>
      wpAny (model prog w) A (assign tg env v) (fun _ s3=>
      wpAny (model prog w) A
       (forIn ifs true fun c r=>if r=true then do
         let ok ← isTrue c env (eval c env)
         pure (ForInStep.yield ok)
        else pure (ForInStep.yield r))
       (fun ok s4=>if ok=true then
         wpAny (model prog w) A (eval elt env) (fun x s5=>
          wpAny (model prog w) A (call (.builtin "list.append") [acc,x])
           (fun _ s6=>∃ m,m < n∧I m s6) (fun _ _=>False) s5) (fun _ _=>False) s4
        else ∃ m,m < n∧I m s4) (fun _ _=>False) s3) (fun _ _=>False) s2)
      (fun _ _=>False) s1)
   (fun _ _=>False) s)
  (n:Nat) (h:I n s):
  codeAny (model prog w) A (.compLoop (.ListComp elt [⟨tg,iter,ifs,0⟩] scope pos) 0 it acc env) R s:=by
 refine codeAny_loop rfl I (fun n s hI=>?_) n h
 show wpAny _ A ((compTurn _ 0 it acc env).onRaise (fun x=>do noteFrame x env;theTreesLotGoes x)) _ _ s
 refine wpAny_noted (E:=fun e s'=>R (.error e) s') ?_
 rw [compTurn_list]
 refine wpAny_bind (wpAny_standAt (wpAny_bind (wpAny_mono (turn n s hI) (fun r s1 h1=>?_) fun _ _ z=>z.elim)))
 cases r with
 | none=>exact wpAny_pure h1
 | some v=>
  refine wpAny_bind (wpAny_mono h1 (fun _ s2 h2=>wpAny_bind (wpAny_mono h2 (fun _ s3 h3=>
   wpAny_bind (wpAny_mono h3 (fun ok s4 h4=>?_) fun _ _ z=>z.elim)) fun _ _ z=>z.elim)) fun _ _ z=>z.elim)
  cases ok with
  | false=>exact wpAny_pure ⟨rfl,h4⟩
  | true=>
   exact wpAny_bind (wpAny_bind (wpAny_mono h4 (fun x s5 h5=>wpAny_bind (wpAny_mono h5
    (fun _ s6 h6=>wpAny_pure (wpAny_pure ⟨rfl,h6⟩)) fun _ _ z=>z.elim)) fun _ _ z=>z.elim))
theorem zg7 {scope:Scope}{env:Env}(h:∀ y∈scope.names,y.2= .free→∃ c,env.cells.lookup y.1=some c):
  ∃ cl,closureFor scope env=pure cl∧(∀ x c,cl.lookup x=some c→env.cells.lookup x=some c)∧
   ∀ y∈scope.names,y.2= .free→∃ c,cl.lookup y.1=some c:=by
 have all:∀ (ns:List (Str×NameKind)),(∀ y∈ns,y.2= .free→∃ c,env.cells.lookup y.1=some c)→∀ cl0:List (Str×Addr),
   (∀ x c,cl0.lookup x=some c→env.cells.lookup x=some c)→
   ∃ cl,(forIn ns cl0 fun (x:Str×NameKind) (r:List (Str×Addr))=>
     (if (x.2==NameKind.free)=true then do
      let a ← cellOf env x.1
      pure (ForInStep.yield ((x.1,a)::r))
     else pure (ForInStep.yield r):Sem _))=pure cl∧(∀ x c,cl.lookup x=some c→env.cells.lookup x=some c)∧
    (∀ x c,cl0.lookup x=some c→∃ c,cl.lookup x=some c)∧∀ y∈ns,y.2= .free→∃ c,cl.lookup y.1=some c:=by
  intro ns
  induction ns with
  | nil=>exact fun _ cl0 h0=>⟨cl0,rfl,h0,fun x c e=>⟨c,e⟩,fun y hy=>nomatch hy⟩
  | cons y r ih=>
   intro hy cl0 h0
   by_cases hk:y.2= .free
   ·obtain ⟨c,hc⟩:=hy y (.head _) hk
    have h1:∀ x d,((y.1,c)::cl0).lookup x=some d→env.cells.lookup x=some d:=fun x d e=>by
     rw [List.lookup_cons] at e
     cases q:x==y.1 with
     | true=>
      rw [q] at e
      have:x=y.1:=eq_of_beq q
      subst this
      exact (Option.some.inj e) ▸ hc
     | false=>
      rw [q] at e
      exact h0 x d e
    obtain ⟨cl,e,a,b,d⟩:=ih (fun z hz=>hy z (.tail _ hz)) ((y.1,c)::cl0) h1
    have keep:∀ x d,cl0.lookup x=some d→∃ d,cl.lookup x=some d:=fun x d e=>by
     cases q:x==y.1 with
     | true=>exact b x c (by rw [List.lookup_cons,q])
     | false=>exact b x d (by rw [List.lookup_cons,q];exact e)
    refine ⟨cl,?_,a,keep,fun z hz hf=>?_⟩
    ·rw [List.forIn_cons]
     have:(y.2==NameKind.free)=true:=by rw [hk];rfl
     rw [if_pos this]
     have ec:cellOf env y.1=pure c:=by unfold cellOf;rw [hc]
     rw [ec]
     exact e
    ·rcases List.mem_cons.mp hz with rfl | hz
     ·exact b z.1 c (by rw [List.lookup_cons,beq_self_eq_true])
     ·exact d z hz hf
   ·obtain ⟨cl,e,a,b,d⟩:=ih (fun z hz=>hy z (.tail _ hz)) cl0 h0
    refine ⟨cl,?_,a,b,fun z hz hf=>?_⟩
    ·rw [List.forIn_cons]
     have:¬(y.2==NameKind.free)=true:=by simpa using hk
     rw [if_neg this]
     exact e
    ·rcases List.mem_cons.mp hz with rfl | hz
     ·exact absurd hf hk
     ·exact d z hz hf
 obtain ⟨cl,e,a,_,d⟩:=all scope.names h [] (fun x c e=>by simp at e)
 exact ⟨cl,congrArg (fun (m:Sem (List (Str×Addr)))=>m >>=fun cs=>pure cs) e,a,d⟩
theorem zfB {scope:Scope}{env:Env}{x:Str}(hc:∀ y∈scope.names,y.2≠.cell)
  (h:(relabel scope env).names.lookup x=some .cell∨(relabel scope env).names.lookup x=some .free):∃ y∈scope.names,y.1=x∧y.2= .free:=by
 have all:∀ ns:List (Str×NameKind),(∀ y∈ns,y.2≠.cell)→∀ k,(k=NameKind.cell∨k=NameKind.free)→
   (ns.map fun (n,k)=>if (k== .free && env.scope.kind== .function && env.kindOf n==some .cell) then (n,.cell) else (n,k)).lookup x=some k→∃ y∈ns,y.1=x∧y.2= .free:=by
  intro ns
  induction ns with
  | nil=>intro _ k _ e;simp at e
  | cons y r ih=>
   intro hn k hk e
   obtain ⟨n,j⟩:=y
   rw [List.map_cons,List.lookup_cons] at e
   have step:(∃ z∈r,z.1=x∧z.2= .free)→∃ z∈(n,j)::r,z.1=x∧z.2= .free:=fun ⟨z,hz,q⟩=>⟨z,.tail _ hz,q⟩
   by_cases hcc:(j==NameKind.free && env.scope.kind== .function && env.kindOf n==some .cell)=true
   ·have hj:j= .free:=by
     simp only [Bool.and_eq_true,beq_iff_eq] at hcc
     exact hcc.1.1
    simp only [hcc,if_true] at e
    cases q:x==n with
    | true=>exact ⟨(n,j),.head _,(eq_of_beq q).symm,hj⟩
    | false=>
     rw [q] at e
     exact step (ih (fun z hz=>hn z (.tail _ hz)) k hk e)
   ·simp only [hcc,if_false,Bool.false_eq_true] at e
    cases q:x==n with
    | true=>
     rw [q] at e
     have ej:j=k:=Option.some.inj e
     refine ⟨(n,j),.head _,(eq_of_beq q).symm,?_⟩
     rcases hk with hk | hk
     ·exact absurd (ej.trans hk) (hn (n,j) (.head _))
     ·exact ej.trans hk
    | false=>
     rw [q] at e
     exact step (ih (fun z hz=>hn z (.tail _ hz)) k hk e)
 rcases h with h | h
 ·exact all scope.names hc _ (.inl rfl) h
 ·exact all scope.names hc _ (.inr rfl) h
noncomputable def zbV (X:Cx) (N:List Str) (scope:Scope) (cl:List (Str×Addr)) (fp:List Addr) (s:Shared) (H:Hp):Cx where
 prog:=X.prog
 w:=X.w
 K:=X.K
 mg:=X.mg
 base:=X.base
 A:=X.A
 N:=N
 s₀ :=s
 H₀ :=H
 env:=compEnvC scope cl s.heap.objs.size X.env
 outer:=X.stack
 stack:=X.stack
 ex:=fp
 fn:=fun _=>false
 calm:=X.calm
 pn:=[]
 xe:=fun _ _=>False
noncomputable def zcf (n:Nat) (cap:List Nat) (σ :St):St:=List.replicate n none++cap.map fun j=>(σ[j]?).join
noncomputable def PTs (X:Cx) (ifs:List Expr) (t:TT):Prop:=
 ∀ (pins:List (Addr×Obj)) (s:Shared) (σ :St) (H:Hp) (Q:Bool→Hp→Prop),Inv X pins σ H s→t σ H Q→
  wpAny (model X.prog X.w) X.A (forIn ifs true fun c r=>if r=true then do
    let ok ← isTrue c X.env (eval c X.env)
    pure (ForInStep.yield ok)
   else pure (ForInStep.yield r)) (TP X pins σ Q) X.xe s
noncomputable def tYes:TT:=fun _ H Q=>Q true H
theorem zn2 {X:Cx}:PTs X [] tYes:=fun _ _ _ H _ I h=>wpAny_tests_nil ⟨H,I,h⟩
theorem zoo {X:Cx}{c:Expr}{t:TT}(h:PT X c t):PTs X [c] t:=fun pins s σ H Q I hw=>wpAny_tests_one (h pins s σ H Q I hw)
noncomputable def zdR (J:It) (D:Addr) (n:Nat) (cap:List Nat) (σ :St) (g:TG) (tt:TT) (te:TE) (Q:VK) (H1:Hp):Prop:=
 ∃ W:Nat→Nat→Hp→Prop,(∃ m,W 0 m (upd H1 D (.lst [])))∧∀ i m H,W i m H→
  (J.stop i H∧Q (.ref D) H)∨(J.go i H∧∃ N:Hp→Prop,(∀ H',N H'→∃ m',m' < m∧W (i+1) m' H')∧∀ x H',J.yld i H x H'→g x (zcf n cap σ) H' fun σ2 H2=>
   tt σ2 H2 fun b H3=>if b=true then te σ2 H3 fun y H4=>∃ xs,H4 D=some (.lst xs)∧xs.length < sizeLine∧N (upd H4 D (.lst (xs++ [y])))
    else N H3)
noncomputable def zmB (n:Nat) (cap:List Nat) (wi:TI) (g:TG) (tt:TT) (te:TE):TE:=fun σ H Q=>wi σ H fun J H1=>∀ D,H1 D=none→zdR J D n cap σ g tt te Q H1
section
variable {X:Cx} {elt tg iter:Expr} {ifs:List Expr} {scope:Scope} {pos:Pos} {N:List Str} {n:Nat} {cap:List Nat} {wi:TI} {g:TG} {tt:TT} {te:TE}
structure Blk (X:Cx) (scope:Scope) (N:List Str) (n:Nat) (cap:List Nat):Prop where
 kind:scope.kind= .function
 cell:∀ y∈scope.names,y.2≠.cell
 names:∀ y∈scope.names,y.2= .local→scope.names.lookup y.1=some .local
 free:∀ y∈scope.names,y.2= .free→X.env.kindOf y.1=some .cell∨X.env.kindOf y.1=some .free
 len:N.length=n+cap.length
 caps:∀ (i j:Nat) (x:Str),cap[i]? =some j→N[n+i]? =some x→X.N[j]? =some x∧(scope.names.lookup x=some .free)
end
noncomputable def blkOk (names:List (Str×NameKind)) (N:List Str) (n:Nat) (cap:List Nat) (No:List Str) (so:List (Str×NameKind)):Bool:=
 names.all (fun y=>y.2 != .cell) && names.all (fun y=>y.2 != .local || names.lookup y.1==some .local) &&
 names.all (fun y=>y.2 != .free || (so.lookup y.1==some .cell || so.lookup y.1==some .free)) && (N.length==n+cap.length) &&
 (List.range cap.length).all fun i=>match cap[i]?,N[n+i]? with
  | some j,some x=>No[j]? ==some x && names.lookup x==some .free
  | _,_=>true
theorem zbG {X:Cx}{scope:Scope}{N:List Str}{n:Nat}{cap:List Nat}(hk:scope.kind= .function)(h:blkOk scope.names N n cap X.N X.env.scope.names=true):Blk X scope N n cap:=by
 unfold blkOk at h
 simp only [Bool.and_eq_true,List.all_eq_true] at h
 obtain ⟨⟨⟨⟨h1,h2⟩,h3⟩,h4⟩,h5⟩:=h
 refine ⟨hk,fun y hy z=>?_,fun y hy z=>?_,fun y hy z=>?_,by simpa using h4,fun i j x e1 e2=>?_⟩
 ·have:=h1 y hy
  rw [z] at this
  cases this
 ·have:=h2 y hy
  rw [z] at this
  simpa using this
 ·have:=h3 y hy
  rw [z] at this
  show X.env.scope.names.lookup y.1=some .cell∨X.env.scope.names.lookup y.1=some .free
  simpa using this
 ·have hi:i < cap.length:=(List.getElem?_eq_some_iff.mp e1).1
  have:=h5 i (List.mem_range.mpr hi)
  rw [e1,e2] at this
  simpa using this
theorem zlv {n:Nat}{cap:List Nat}{σ :St}{i:Nat}{v:V}(h:(zcf n cap σ)[i]? =some (some v)):
  ∃ k j,i=n+k∧cap[k]? =some j∧σ[j]? =some (some v):=by
 unfold zcf at h
 by_cases hi:i < n
 ·rw [List.getElem?_append_left (by simpa using hi),List.getElem?_replicate,if_pos hi] at h
  cases h
 ·rw [List.getElem?_append_right (by simpa using Nat.not_lt.mp hi)] at h
  simp only [List.length_replicate,List.getElem?_map] at h
  cases e:cap[i - n]? with
  | none=>rw [e] at h;cases h
  | some j=>
   rw [e] at h
   have h':(σ[j]?).join=some v:=Option.some.inj h
   refine ⟨i - n,j,by omega,e,?_⟩
   cases q: σ[j]? with
   | none=>rw [q] at h';cases h'
   | some o=>
    rw [q] at h'
    exact congrArg some h'
theorem zfF {scope:Scope}{env:Env}{x:Str}(h:scope.names.lookup x=some .free):
  (relabel scope env).names.lookup x=some .cell∨(relabel scope env).names.lookup x=some .free:=by
 have all:∀ ns:List (Str×NameKind),ns.lookup x=some .free→
   (ns.map fun (n,k)=>if (k== .free && env.scope.kind== .function && env.kindOf n==some .cell) then (n,NameKind.cell) else (n,k)).lookup x=some .cell∨
   (ns.map fun (n,k)=>if (k== .free && env.scope.kind== .function && env.kindOf n==some .cell) then (n,NameKind.cell) else (n,k)).lookup x=some .free:=by
  intro ns
  induction ns with
  | nil=>intro e;simp at e
  | cons y r ih=>
   intro e
   obtain ⟨m,j⟩:=y
   rw [List.lookup_cons] at e
   rw [List.map_cons,List.lookup_cons]
   cases q:x==m with
   | true=>
    rw [q] at e
    have ej:j= .free:=Option.some.inj e
    subst ej
    by_cases hcc:(NameKind.free==NameKind.free && env.scope.kind== .function && env.kindOf m==some .cell)=true
    ·simp only [hcc,if_true,q,true_or]
    ·simp only [hcc,if_false,Bool.false_eq_true,q,or_true]
   | false=>
    rw [q] at e
    have h1:=ih e
    by_cases hcc:(j==NameKind.free && env.scope.kind== .function && env.kindOf m==some .cell)=true
    ·simp only [hcc,if_true,q]
     exact h1
    ·simp only [hcc,if_false,Bool.false_eq_true,q]
     exact h1
 exact all scope.names h
theorem znI {X:Cx}{pins:List (Addr×Obj)}{σ :St}{H:Hp}{s:Shared}{N:List Str}{scope:Scope}{n:Nat}{cap:List Nat}{cl:List (Str×Addr)}{fp:List Addr}
  (I:Inv X pins σ H s) (B:Blk X scope N n cap) (c1:∀ x c,cl.lookup x=some c→X.env.cells.lookup x=some c)
  (c2:∀ y∈scope.names,y.2= .free→∃ c,cl.lookup y.1=some c) (hf:∀ b∈fp,FpOk X pins H b) (hfl:∀ b∈fp,b < s.heap.objs.size):(zbV X N scope cl fp s H).Ok where
 mod:=I.ok.mod
 kind:=by show (relabel scope X.env).kind=_;exact B.kind
 glob:=I.ok.glob
 blt:=I.ok.blt
 above:=Nat.le_refl _
 inj:=fun x y c e1 e2=>I.ok.inj x y c (c1 x c e1) (c1 y c e2)
 has:=fun x h=>by
  obtain ⟨y,hy,e,k⟩:=zfB B.cell h
  obtain ⟨c,hc⟩:=c2 y hy k
  exact ⟨c,e ▸ hc⟩
 cab:=fun x c h=>nomatch h
 hd:=I.ok.hd
 frames:=I.ok.frames
 stk:=.inl rfl
 exf:=fun b hb=>⟨Nat.ne_of_lt (hfl b hb),fun x c e=>(hf b hb).2.2.2.2.1 x c (c1 x c e)⟩
 bs:=I.bs
 bsz:=Nat.le_trans I.ok.bsz I.sz
 noex:=fun b o e hb=>by
  rcases (hf b hb).2.2.2.1 with z | z
  ·exact I.ok.noex b o e z
  ·exact absurd (Nat.lt_of_lt_of_le (Heap.lt_size e) (Nat.le_trans I.ok.bsz z)) (Nat.lt_irrefl _)
 exfs:=fun b hb z=>by
  rcases List.mem_cons.mp (I.stkSub b z) with e | e
  ·exact (hf b hb).2.1 e
  ·exact (hf b hb).2.2.1 e
 funs:=I.stack
 frf:=I.stkFree
theorem zki {X:Cx}{pins:List (Addr×Obj)}{σ :St}{H:Hp}{s:Shared}{h1:Heap}{t1:Nat}{N:List Str}{scope:Scope}{n:Nat}{cap:List Nat}{cl:List (Str×Addr)}{fp:List Addr}{m:Str→Option Value}
  (I:Inv X pins σ H s) (B:Blk X scope N n cap) (c1:∀ x c,cl.lookup x=some c→X.env.cells.lookup x=some c)
  (c2:∀ y∈scope.names,y.2= .free→∃ c,cl.lookup y.1=some c) (hf:∀ b∈fp,FpOk X pins H b) (hfl:∀ b∈fp,b < s.heap.objs.size)
  (hn:h1.Ns s.heap.objs.size m) (k:∀ b o,s.heap.get? b=some o→h1.get? b=some o):
  Inv (zbV X N scope cl fp s H) [] (zcf n cap σ) H {s with heap:=h1,toks:=t1} where
 ok:=znI I B c1 c2 hf hfl
 os:=rfl
 bare:=I.bare
 base:=Un.kept k
 loc:=by
  refine ⟨m,hn,fun i x v e1 e2 e3=>?_⟩
  obtain ⟨k',j,rfl,ec,es⟩:=zlv e2
  obtain ⟨ex,ef⟩:=B.caps k' j x ec e1
  have hy:∃ y∈scope.names,y.1=x∧y.2= .free:=zfB (env:=X.env) B.cell (zfF ef)
  obtain ⟨y,hy,ey,ky⟩:=hy
  have kx:X.env.kindOf x=some .cell∨X.env.kindOf x=some .free:=ey ▸ B.free y hy ky
  obtain ⟨m0,_,hl⟩:=I.loc
  have vis:Vis X.env.scope x:=.inr kx
  obtain ⟨u,r,l⟩:=hl j x v ex es vis
  refine ⟨u,r,.inr ⟨zfF ef,?_⟩⟩
  rcases l with ⟨kl,_⟩ | ⟨_,c,hc,ho⟩
  ·rcases kx with q | q <;> (rw [kl] at q;cases q)
  ·obtain ⟨c',hc'⟩:=c2 y hy ky
   rw [ey] at hc'
   have:=c1 x c' hc'
   rw [hc] at this
   cases this
   obtain ⟨o,eo,d⟩:=ho
   exact ⟨c,hc',o,k c o eo,d⟩
 cell:=fun x c e=>by
  obtain ⟨v,o,eo,d⟩:=I.cell x c (c1 x c e)
  exact ⟨v,o,k c o eo,d⟩
 free:=I.hok.fresh (Nat.le_refl _)
 freeC:=fun x c e=>I.freeC x c (c1 x c e)
 pin:=fun p hp=>nomatch hp
 hok:=I.hok.kept k
 len:=by show (zcf n cap σ).length=N.length;rw [B.len];unfold zcf;simp
theorem zmP {X:Cx}{pins:List (Addr×Obj)}{σ σ':St}{H H':Hp}{s s':Shared}{N:List Str}{scope:Scope}{cl:List (Str×Addr)}{fp:List Addr}{pl:List (Addr×Obj)}
  (I:Inv X pins σ H s) (I':Inv (zbV X N scope cl fp s H) pl σ' H' s') (hf:∀ b∈fp,FpOk X pins H b):
  Inv X pins σ H' s'∧FpOk X pins H' s.heap.objs.size∧∃ m,s'.heap.Ns s.heap.objs.size m:=by
 obtain ⟨m,hn,_⟩:=I'.loc
 have u:Un (frs X.stack) fp H H' s.heap s'.heap:=I'.base
 have J:Inv X pins σ H' s':=I.call' (ch:=fp) I'.os u I'.hok I'.bare fun b hb=>by
  obtain ⟨_,a1,_,a3,a4,a5⟩:=hf b hb
  exact ⟨a3,a1,a4,a5⟩
 exact ⟨J,I.fpOk (Nat.le_refl _) I'.free,m,hn⟩
noncomputable def zjw (n:Nat) (g:TG):Prop:=∀ x σ H Q,g x σ H Q→g x σ H fun σ2 H2=>Q σ2 H2∧σ2.length= σ.length∧∀ z,n≤z→σ2[z]? = σ[z]?
noncomputable def zlU (n:Nat) (g:TGs):Prop:=∀ xs σ H Q,g xs σ H Q→g xs σ H fun σ2 H2=>Q σ2 H2∧σ2.length= σ.length∧∀ z,n≤z→σ2[z]? = σ[z]?
theorem zaL {n i:Nat}(h:i < n):zjw n (zfq i):=fun x σ H Q q=>⟨q,by simp,fun z hz=>by rw [List.getElem?_set_ne (by omega)]⟩
theorem zm4 {n:Nat}:zlU n gNil:=fun xs σ H Q q=>⟨q.1,q.2,rfl,fun _ _=>rfl⟩
theorem ziE {n i:Nat}{u:TGs}(h:i < n)(hu:zlU n u)(hm:∀ xs σ H (Q Q':St→Hp→Prop),u xs σ H Q→(∀ a b,Q a b→Q' a b)→u xs σ H Q'):zlU n (zji (zfq i) u):=fun xs σ H Q q=>by
 obtain ⟨v,r,e,q⟩:=q
 refine ⟨v,r,e,hm r _ H _ _ (hu r _ H _ q) fun σ2 H2 ⟨p,l,k⟩=>⟨p,by rw [l];simp,fun z hz=>?_⟩⟩
 rw [k z hz,List.getElem?_set_ne (by omega)]
theorem zjP:∀ xs σ H (Q Q':St→Hp→Prop),gNil xs σ H Q→(∀ a b,Q a b→Q' a b)→gNil xs σ H Q':=fun xs σ H Q Q' q m=>⟨q.1,m _ _ q.2⟩
theorem zlJ {i:Nat}{u:TGs}(hm:∀ xs σ H (Q Q':St→Hp→Prop),u xs σ H Q→(∀ a b,Q a b→Q' a b)→u xs σ H Q'):
  ∀ xs σ H (Q Q':St→Hp→Prop),zji (zfq i) u xs σ H Q→(∀ a b,Q a b→Q' a b)→zji (zfq i) u xs σ H Q':=fun xs σ H Q Q' ⟨v,r,e,q⟩ m=>⟨v,r,e,hm r _ H _ _ q m⟩
theorem zdi {K:PySem.W.Frag}{n m i j:Nat}(hi:i < n)(hj:j < n):zjw n (gTup K m (zji (zfq i) (zji (zfq j) gNil))):=fun x σ H Q q=>by
 obtain ⟨a,xs,e,hq,hl,q⟩:=q
 exact ⟨a,xs,e,hq,hl,ziE hi (ziE hj zm4 zjP) (zlJ zjP) xs σ H Q q⟩
theorem ziJ {X:Cx}{elt tg iter:Expr}{ifs:List Expr}{scope:Scope}{pos:Pos}{N:List Str}{n:Nat}{cap:List Nat}{g:TG}{tt:TT}{te:TE}
  {cl:List (Str×Addr)} {RR:Value→Addr→Result→Shared→Prop} {E:Value→Shared→Prop}
  (hc:X.calm=true) (B:Blk X scope N n cap) (c1:∀ x c,cl.lookup x=some c→X.env.cells.lookup x=some c) (c2:∀ y∈scope.names,y.2= .free→∃ c,cl.lookup y.1=some c)
  (hk:zjw n g) (hg:∀ cl fp s H,PG (zbV X N scope cl fp s H) tg g) (ht:∀ cl fp s H,PTs (zbV X N scope cl fp s H) ifs tt) (he:∀ cl fp s H,PE (zbV X N scope cl fp s H) elt te)
  {pins:List (Addr×Obj)} {σ :St} {Q:VK} {itv:Value} {s2:Shared}
  (h:PIE X pins σ tg (fun J H1=>∀ D,H1 D=none→zdR J D n cap σ g tt te Q H1) itv s2)
  (hRR:∀ (D C:Addr) (H':Hp) (s':Shared) (m:Str→Option Value),Inv X pins σ H' s'→FpOk X pins H' C→s'.heap.Ns C m→Q (.ref D) H'→RR (.ref D) C (.ok .next) s'):
  wpAny (model X.prog X.w) X.A (newList []) (fun acc s3=>
   wpAny (model X.prog X.w) X.A (newFunctionEnv scope X.env.globals cl [] X.env.qual none .none (some X.env)) (fun cenv s4=>
    codeAny (model X.prog X.w) X.A (.compStart (.ListComp elt [⟨tg,iter,ifs,0⟩] scope pos) 0 itv acc {cenv with scope:=relabel scope X.env})
     (RR acc cenv.locals) s4) E s3) E s2:=by
 obtain ⟨it,fp,tn,J,H2,e,I2,T,st2,f2,q2⟩:=h
 subst e
 refine wpAny_newObj_type ?_ (by show 0≤sizeLine;decide)
 have hD:H2 s2.heap.objs.size=none:=I2.hok.fresh (Nat.le_refl _)
 obtain ⟨W,⟨m0,w0⟩,turn⟩:=q2 _ hD
 have I3:Inv X pins σ (upd H2 s2.heap.objs.size (.lst [])) {s2 with heap:=s2.heap.push {cls:=.type "list",data:=.seq ([]:List Value).toArray},toks:=s2.toks}:=
  I2.lnew .nil (by show 0≤sizeLine;decide)
 have st3:tn 0 (s2.heap.push {cls:=.type "list",data:=.seq ([]:List Value).toArray}):=T.keep _ _ _ st2 fun b _ o e=>Heap.get?_push_of_some _ e
 have obj2:=T.obj _ _ st2
 have fD:∀ b∈fp,b≠s2.heap.objs.size:=fun b hb=>by
  obtain ⟨o,eo,_⟩:=obj2 b hb
  exact Nat.ne_of_lt (Heap.lt_size eo)
 have f3:∀ b∈fp,FpOk X pins (upd H2 s2.heap.objs.size (.lst [])) b:=fun b hb=>⟨by rw [zam (fD b hb)];exact (f2 b hb).1,(f2 b hb).2⟩
 have go3:∀ (s3:Shared) (H3:Hp),Inv X pins σ H3 s3→tn 0 s3.heap→(∀ b∈fp,FpOk X pins H3 b)→W 0 m0 H3→
   wpAny (model X.prog X.w) X.A (newFunctionEnv scope X.env.globals cl [] X.env.qual none .none (some X.env)) (fun cenv s4=>
    codeAny (model X.prog X.w) X.A (.compStart (.ListComp elt [⟨tg,iter,ifs,0⟩] scope pos) 0 (.ref it) (.ref s2.heap.objs.size) {cenv with scope:=relabel scope X.env})
     (RR (.ref s2.heap.objs.size) cenv.locals) s4) E s3:=by
  intro s3 H3 I3 st3 f3 w0
  refine wpAny_newFunctionEnv B.cell (fun y hy=>nomatch hy) (fun h4 n4 sb4=>?_) B.kind
  have k4:∀ b o,s3.heap.get? b=some o→h4.get? b=some o:=fun b o e=>sb4.extBut b o (Nat.ne_of_lt (Heap.lt_size e)) (Heap.get?_push_of_some _ e)
  have fl3:∀ b∈fp,b < s3.heap.objs.size:=fun b hb=>by
   obtain ⟨o,eo,_⟩:=T.obj _ _ st3 b hb
   exact Heap.lt_size eo
  have I4:Inv (zbV X N scope cl fp s3 H3) [] (zcf n cap σ) H3 {s3 with heap:=h4,toks:=s3.toks+([]:List (Str×Value)).length}:=
   zki I3 B c1 c2 f3 fl3 n4 k4
  have st4:tn 0 h4:=T.keep _ _ _ st3 fun b _ o e=>k4 b o e
  have stat:∀ {H':Hp},(∀ b∈fp,H' b=none)→∀ b∈fp,FpOk (zbV X N scope cl fp s3 H3) [] H' b:=fun hn b hb=>by
   obtain ⟨_,a1,a2,_,a4,_⟩:=f3 b hb
   refine ⟨hn b hb,Nat.ne_of_lt (fl3 b hb),fun z=>?_,.inl hb,fun x c e=>a4 x c (c1 x c e),fun p hp=>nomatch hp⟩
   rcases List.mem_cons.mp (I3.stkSub b z) with e | e
   ·exact a1 e
   ·exact a2 e
  have loop:∀ s5:Shared,s5= {s3 with heap:=h4,toks:=s3.toks+([]:List (Str×Value)).length}→
    codeAny (model X.prog X.w) X.A (.compLoop (.ListComp elt [⟨tg,iter,ifs,0⟩] scope pos) 0 (.ref it) (.ref s2.heap.objs.size) (compEnvC scope cl s3.heap.objs.size X.env))
     (RR (.ref s2.heap.objs.size) s3.heap.objs.size) s5:=by
   rintro s5 rfl
   refine zhy (fun k s'=>∃ i H',Inv (zbV X N scope cl fp s3 H3) [] (zcf n cap σ) H' s'∧tn i s'.heap∧(∀ b∈fp,H' b=none)∧W i k H') ?_ m0
    ⟨0,H3,I4,st4,fun b hb=>(f3 b hb).1,w0⟩
   rintro k s6 ⟨i,H6,I6,st6,fr6,w6⟩
   rcases turn i k H6 w6 with ⟨stop,qn⟩ | ⟨go,N6,hN6,step⟩
   ·refine thn (T.done (zbV X N scope cl fp s3 H3) rfl rfl rfl hc i [] s6 _ H6 _ I6 (stat fr6) st6 stop) fun r s7 ⟨hr,I7⟩=>?_
    subst hr
    obtain ⟨J7,C7,m7,n7⟩:=zmP I3 I7 f3
    exact hRR _ _ H6 s7 m7 J7 C7 n7 qn
   ·refine thn (T.item (zbV X N scope cl fp s3 H3) rfl rfl rfl hc i [] s6 _ H6 _ I6 (stat fr6) st6 go) fun r s7 ⟨u,hr,h7⟩=>?_
    subst hr
    refine thn h7 fun _ s8 ⟨x,H8,I8,r8,y8,st8,fr8⟩=>?_
    have I8':=I8.pinned (stat fr8) (T.obj _ _ st8)
    refine thn (hg cl fp s3 H3 _ s8 _ H8 x u _ I8' r8 (hk _ _ _ _ (step x H8 y8))) fun _ s9 ⟨σ9,H9,I9,q9,l9,k9⟩=>?_
    refine thn (ht cl fp s3 H3 _ s9 σ9 H9 _ I9 q9) fun b s10 ⟨H10,I10,q10⟩=>?_
    have wk:∀ (z:Nat) v,(zcf n cap σ)[z]? =some (some v)→σ9[z]? =some (some v):=fun z v e=>by
     obtain ⟨kk,j,rfl,_,_⟩:=zlv e
     rw [k9 _ (Nat.le_add_right _ _)]
     exact e
    have back:∀ {Ha:Hp} {sa:Shared} {j:Nat},Inv (zbV X N scope cl fp s3 H3) ([]++zhX fp s8.heap) σ9 Ha sa→W (i+1) j Ha→
      ∃ i H',Inv (zbV X N scope cl fp s3 H3) [] (zcf n cap σ) H' sa∧tn i sa.heap∧(∀ b∈fp,H' b=none)∧W i j H':=fun {Ha sa j} Ia wa=>by
     refine ⟨i+1,Ha,(Ia.unpinned).weak l9.symm wk,T.keep _ _ _ st8 fun b hb o e=>(Ia.pin (b,o) (List.mem_append_right _ (List.mem_append_right _ (zd4 hb e)))).1,fun b hb=>?_,wa⟩
     obtain ⟨o,e,d⟩:=T.obj _ _ st8 b hb
     exact (Ia.pin (b,o) (List.mem_append_right _ (List.mem_append_right _ (zd4 hb e)))).2.1
    cases b with
    | false=>
     rw [if_neg Bool.false_ne_true] at q10 ⊢
     obtain ⟨m',hm,w'⟩:=hN6 _ q10
     exact ⟨m',hm,back I10 w'⟩
    | true=>
     rw [if_pos rfl] at q10 ⊢
     refine thn (he cl fp s3 H3 _ s10 σ9 H10 _ I10 q10) fun y s11 ⟨yv,H11,I11,r11,q11⟩=>?_
     obtain ⟨xs,eD,hl,q11⟩:=q11
     obtain ⟨m',hm,w'⟩:=hN6 _ q11
     refine thn (zaM _ s11 σ9 H11 (.ref s2.heap.objs.size) [yv] (.ref s2.heap.objs.size) [y] (fun _ Hz=>Hz=upd H11 s2.heap.objs.size (.lst (xs++ [yv]))) I11 rfl (.cons r11 .nil)
      ⟨_,xs,yv,rfl,rfl,eD,hl,rfl⟩) fun _ s12 ⟨_,H12,I12,_,e12⟩=>?_
     subst e12
     exact ⟨m',hm,back I12 w'⟩
  exact codeAny_compStart_list (loop _ rfl) (T.self _ _ _ _ _ st4 (loop _ rfl))
 exact go3 _ _ I3 st3 f3 w0
section
variable {X:Cx} {elt tg iter:Expr} {ifs:List Expr} {scope:Scope} {pos:Pos} {N:List Str} {n:Nat} {cap:List Nat} {wi:TI} {g:TG} {tt:TT} {te:TE}
theorem znH (hc:X.calm=true)(B:Blk X scope N n cap)(hi:PI X tg iter wi)(hk:zjw n g)
  (hg:∀ cl fp s H,PG (zbV X N scope cl fp s H) tg g) (ht:∀ cl fp s H,PTs (zbV X N scope cl fp s H) ifs tt) (he:∀ cl fp s H,PE (zbV X N scope cl fp s H) elt te)
  (hs:∀ x,foldedSetIterable iter X.env x=pure x:=by intro _;rfl):PE X (.ListComp elt [⟨tg,iter,ifs,0⟩] scope pos) (zmB n cap wi g tt te):=by
 intro pins s σ H Q I h
 obtain ⟨cl,ecl,c1,c2⟩:=zg7 (scope:=scope) (env:=X.env) fun y hy k=>I.ok.has y.1 (B.free y hy k)
 rw [eval_ListComp]
 refine wpAny_comprehension_free (use:=none) rfl hs ecl B.kind B.names ?_
 refine thn (hi pins s σ H _ I h) fun v s1 h1=>thn h1 fun itv s2 h2=>?_
 refine ziJ (RR:=fun acc C=>compPost (model X.prog X.w) X.A X.xe none (EP X pins σ Q) acc C) hc B c1 c2 hk hg ht he h2 fun D C H' s' m J f nn q=>?_
 exact ⟨m,nn,fun h' sb=>⟨.ref D,H',J.turned (t':=s'.toks) (fun b o hb e=>sb.extBut b o hb e) f.1 f.2.1 f.2.2.2.1 f.2.2.2.2.1 f.2.2.2.2.2,rfl,q⟩⟩
theorem zn1 {i:Nat}{x:Str}{pos' spos:Pos}(hc:X.calm=true)(B:Blk X scope N n cap)(hN:X.N.Nodup)(hi:X.N[i]? =some x)(hx:X.env.scope.names.lookup x=some .local)(hit:PI X tg iter wi)(hk:zjw n g)
  (hg:∀ cl fp s H,PG (zbV X N scope cl fp s H) tg g) (ht:∀ cl fp s H,PTs (zbV X N scope cl fp s H) ifs tt) (he:∀ cl fp s H,PE (zbV X N scope cl fp s H) elt te)
  (hsw:swapsWith (.ListComp elt [⟨tg,iter,ifs,0⟩] scope pos) (some (.Name x pos')) spos.line X.env=pure true)
  (hs:∀ x,foldedSetIterable iter X.env x=pure x:=by intro _;rfl):
  PS X (.Assign [.Name x pos'] (.ListComp elt [⟨tg,iter,ifs,0⟩] scope pos) spos) (tAsg (zmB n cap wi g tt te) (zfq i)):=by
 intro pins s σ H D I h
 obtain ⟨cl,ecl,c1,c2⟩:=zg7 (scope:=scope) (env:=X.env) fun y hy k=>I.ok.has y.1 (B.free y hy k)
 rw [exec_Assign_Name_used _ _ _ _ hsw]
 refine wpAny_bind (wpAny_standAt (wpAny_bind ?_))
 show wpAny _ X.A (do
  let _ ← comprehension (.ListComp elt [⟨tg,iter,ifs,0⟩] scope pos) scope X.env _ (newList []) false (eval iter X.env)
   (some (assign (.Name x pos') X.env))) _ _ s
 refine wpAny_bind (thn (wpAny_comprehension_free (use:=some (assign (.Name x pos') X.env)) (Q:=fun _ s'=>SP X pins D .next s') rfl hs ecl B.kind B.names ?_) fun _ s' hq=>wpAny_pure (wpAny_pure hq))
 refine thn (hit pins s σ H _ I h) fun v s1 h1=>thn h1 fun itv s2 h2=>?_
 refine ziJ (Q:=fun y H2=>zfq i y σ H2 D.nx) (RR:=fun acc C=>compPost (model X.prog X.w) X.A X.xe (some (assign (.Name x pos') X.env)) (fun _ s'=>SP X pins D .next s') acc C) hc B c1 c2 hk hg ht he h2 fun Dl C H' s' m J f nn q=>?_
 show wpAny (model X.prog X.w) X.A (assign (.Name x pos') X.env (.ref Dl)) _ X.xe s'
 refine wpAny_assign_Name (zid J hN hi (.inl hx) (show RelV (.ref Dl) (.ref Dl) from rfl) (fun s3 I3 ⟨a,sb,ha⟩=>?_) (.inr hx))
 have ca:C≠a:=by
  rcases ha with e | e
  ·rw [e];exact f.2.1
  ·exact fun z=>f.2.2.2.2.1 x a e z.symm
 refine ⟨m,nn.sameBut sb ca,fun h' sb'=>⟨_,H',I3.turned (t':=s3.toks) (fun b o hb e=>sb'.extBut b o hb e) f.1 f.2.1 f.2.2.2.1 f.2.2.2.2.1 f.2.2.2.2.2,q⟩⟩
end
section
variable {g:TG} {tt:TT} {te:TE} {n0:Nat} {cap:List Nat} {σ :St} {Q:VK} {D:Addr} {H1:Hp} {K:PySem.W.Frag}
theorem zd6 {lo:Int}{n:Nat}(Pv:Nat→Hp→Prop)(h0:Pv 0 (upd H1 D (.lst [])))
  (hs:∀ i H,i < n→Pv i H→g (.int (lo+i)) (zcf n0 cap σ) H fun σ2 H2=>tt σ2 H2 fun b H3=>if b=true then te σ2 H3 fun y H4=>∃ xs,H4 D=some (.lst xs)∧xs.length < sizeLine∧Pv (i+1) (upd H4 D (.lst (xs++ [y]))) else Pv (i+1) H3)
  (hd:∀ H,Pv n H→Q (.ref D) H):
  zdR (Itr lo n) D n0 cap σ g tt te Q H1:=by
 refine ⟨fun i m H=>m=n - i∧i≤n∧Pv i H,⟨n,by simp,Nat.zero_le _,h0⟩,?_⟩
 rintro i m H ⟨rfl,hi,p⟩
 by_cases hlt:i < n
 ·refine .inr ⟨hlt,Pv (i+1),fun H' p'=>⟨n - (i+1),by omega,rfl,hlt,p'⟩,fun x H' y=>?_⟩
  obtain ⟨e1,e2⟩:=y
  subst e1 e2
  exact hs i _ hlt p
 ·have e:i=n:=by omega
  subst e
  exact .inl ⟨Nat.le_refl _,hd H p⟩
theorem zba {a:Addr}{xs:List V}(Pv:Nat→Hp→Prop)(h0:Pv 0 (upd H1 D (.lst [])))(hl:∀ i H,i≤xs.length→Pv i H→SqL K H a xs)
  (hs:∀ i x H,xs[i]? =some x→Pv i H→g x (zcf n0 cap σ) H fun σ2 H2=>tt σ2 H2 fun b H3=>if b=true then te σ2 H3 fun y H4=>∃ xs,H4 D=some (.lst xs)∧xs.length < sizeLine∧Pv (i+1) (upd H4 D (.lst (xs++ [y]))) else Pv (i+1) H3)
  (hd:∀ H,Pv xs.length H→Q (.ref D) H):
  zdR (Itl K a) D n0 cap σ g tt te Q H1:=by
 refine ⟨fun i m H=>m=xs.length - i∧i≤xs.length∧Pv i H,⟨xs.length,by simp,Nat.zero_le _,h0⟩,?_⟩
 rintro i m H ⟨rfl,hi,p⟩
 have q:=hl i H hi p
 by_cases hlt:i < xs.length
 ·refine .inr ⟨⟨xs,xs[i],q,by simp [hlt]⟩,Pv (i+1),fun H' p'=>⟨xs.length - (i+1),by omega,rfl,hlt,p'⟩,fun x H' y=>?_⟩
  obtain ⟨e1,y⟩:=y
  subst e1
  exact hs i x _ (y xs q) p
 ·have e:i=xs.length:=by omega
  subst e
  exact .inl ⟨⟨xs,q,Nat.le_refl _⟩,hd H p⟩
theorem zfY {a:Addr}{xs:List V}(Pv:Nat→Hp→Prop)(h0:Pv 0 (upd H1 D (.lst [])))(hl:∀ i H,i≤xs.length→Pv i H→SqT K H a xs)
  (hs:∀ i x H,xs[i]? =some x→Pv i H→g x (zcf n0 cap σ) H fun σ2 H2=>tt σ2 H2 fun b H3=>if b=true then te σ2 H3 fun y H4=>∃ xs,H4 D=some (.lst xs)∧xs.length < sizeLine∧Pv (i+1) (upd H4 D (.lst (xs++ [y]))) else Pv (i+1) H3)
  (hd:∀ H,Pv xs.length H→Q (.ref D) H):
  zdR (Itt K a) D n0 cap σ g tt te Q H1:=by
 refine ⟨fun i m H=>m=xs.length - i∧i≤xs.length∧Pv i H,⟨xs.length,by simp,Nat.zero_le _,h0⟩,?_⟩
 rintro i m H ⟨rfl,hi,p⟩
 have q:=hl i H hi p
 by_cases hlt:i < xs.length
 ·refine .inr ⟨⟨xs,xs[i],q,by simp [hlt]⟩,Pv (i+1),fun H' p'=>⟨xs.length - (i+1),by omega,rfl,hlt,p'⟩,fun x H' y=>?_⟩
  obtain ⟨e1,y⟩:=y
  subst e1
  exact hs i x _ (y xs q) p
 ·have e:i=xs.length:=by omega
  subst e
  exact .inl ⟨⟨xs,q,Nat.le_refl _⟩,hd H p⟩
end
end L2
namespace L2
open PySem PySem.Spec PyProof.Rows
theorem Inv.laidC {X:Cx}{pins:List (Addr×Obj)}{σ :St}{H:Hp}{s:Shared}{h':Heap}{a:Addr}{o:HO}{t':Nat}{ch:List Addr}(I:Inv X pins σ H s)
  (hch:∀ b∈ch,FpOk X pins H b) (k:∀ b u,b∉ch→s.heap.get? b=some u→h'.get? b=some u) (hp:s.heap.objs.size≤a)
  (new:zcB X.prog X.w (upd H a o) h' a o):Inv X pins σ (upd H a o) {s with heap:=h',toks:=t'}:=by
 have hn:=I.hok.fresh hp
 have nch:∀ c u,H c=some u→c∉ch:=fun c u e z=>by rw [(hch c z).1] at e;cases e
 refine I.step (g':=s.gens) (d':=s.drawn) (ch:=ch) (fun b hb=>⟨(hch b hb).2.2.2.1,(hch b hb).2.1,(hch b hb).2.2.2.2.1,(hch b hb).2.2.2.2.2⟩)
  (fun b u _ _ hc e _=>k b u hc e) (fun b u _ _ hc e _=>⟨u.slots,k b u hc e⟩)
  (fun b u _ e n=>by rw [zam (Nat.ne_of_lt (Nat.lt_of_lt_of_le (Heap.lt_size e) hp))];exact n) (fun b u hc e=>⟨u,k b u hc e⟩)
  (fun b xs q=>by rw [zam (zap q hn)];exact q) (fun b u xs q=>by rw [zam (zap q hn)];exact q)
  (fun b ps q=>⟨#[],by rw [zam (zap q hn),q];simp⟩) (fun m hm=>?_) (fun b u e=>?_) I.bare
 ·exact hm.at' fun ob e=>k _ ob (fun z=>(hch _ z).2.1 rfl) e
 ·by_cases hb:b=a
  ·subst hb;rw [zab] at e;cases e;exact new
  ·rw [zam hb] at e
   refine (I.hok b u e).stay (fun c v hc q=>k c v ?_ q) (fun c q=>by rw [zam (zap q hn)];exact q) fun c xs q=>q.upd hn
   rcases hc with rfl | hc
   ·exact nch _ _ e
   ·exact nch _ _ hc
noncomputable def Ite (K:PySem.W.Frag) (a:Addr):It:=
 ⟨fun i H => ∃ xs x, SqL K H a xs ∧ xs[i]? = some x,
  fun i H v H'=>∃ T x,H T=none∧v= .ref T∧H'=upd H T (.tup [.int i,x])∧∀ xs,SqL K H a xs→xs[i]? =some x,
  fun i H=>∃ xs,SqL K H a xs∧xs.length≤i⟩
theorem zmc {P:Program}{w:World}{K:PySem.W.Frag}{elts:List Expr}{k:Nat}{tp:Pos}(a e it:Addr)(hne:e≠it):
  Turn P w K (.Tuple elts k tp) (Ite K a) [e,it] e (fun i h=>(∃ old,IsEnum h e it (i:Nat) old)∧h.IsListIter it a i) where
 mem:=by simp
 obj:=fun i h st b hb=>by
  obtain ⟨⟨old,he⟩,o,eo,c,d⟩:=st
  rcases List.mem_cons.mp hb with rfl | hb
  ·exact ⟨_,he,fun v z=>nomatch z⟩
  ·have q:b=it:=by simpa using hb
   subst q
   exact ⟨o,eo,fun v z=>by rw [d] at z;cases z⟩
 keep:=fun i h h' st k=>by
  obtain ⟨⟨old,he⟩,hit⟩:=st
  exact ⟨⟨old,k e (by simp) _ he⟩,hit.at fun o q=>k it (by simp) o q⟩
 item:=by
  intro X hP hw hK hc i pins s σ H E I hf st hg
  subst hP hw hK
  obtain ⟨⟨old,he⟩,hit⟩:=st
  obtain ⟨xs,x,hq,hx⟩:=hg
  obtain ⟨its,rv,p,hz⟩:=I.list hq
  obtain ⟨u,hu,ru⟩:=rv.get hx
  have fe:=hf e (by simp)
  have fi:=hf it (by simp)
  refine wpAny_pyNext_enum_item he hit p.isList (x:=u) (by simpa using hu) hne fun h' ho hit' hT hsz hk=>?_
  have eT:e≠s.heap.objs.size:=Nat.ne_of_lt (Heap.lt_size he)
  have iT:it≠s.heap.objs.size:=by
   obtain ⟨o,eo,_⟩:=hit
   exact Nat.ne_of_lt (Heap.lt_size eo)
  have I1:Inv X pins σ (upd H s.heap.objs.size (.tup [.int i,x])) {s with heap:=h',toks:=s.toks+1}:=
   I.laidC (ch:=[e,it]) hf (fun b v hb q=>hk b v (fun z=>hb (by simp [z])) (fun z=>hb (by simp [z])) q) (Nat.le_refl _)
    ⟨(by show 2≤sizeLine;decide),[.int i s.toks,u],.cons ⟨_,rfl⟩ (.cons ru .nil),_,hT,rfl,_,rfl⟩
  refine ⟨_,rfl,wpAny_letOwnedTupleGo_enum ho fun h2 he2 sb2=>?_⟩
  have I2:Inv X pins σ (upd H s.heap.objs.size (.tup [.int i,x])) {s with heap:=h2,toks:=s.toks+1}:=
   I1.turned (t':=s.toks+1) (fun b o hb q=>(sb2.2 b hb).trans q) (by rw [zam eT];exact fe.1) fe.2.1 fe.2.2.2.1 fe.2.2.2.2.1 fe.2.2.2.2.2
  refine ⟨.ref s.heap.objs.size,_,I2,rfl,⟨_,x,I.hok.fresh (Nat.le_refl _),rfl,rfl,fun ys hy=>by rw [I.list_inj hy hq];exact hx⟩,⟨⟨u,?_⟩,?_⟩,fun b hb=>?_⟩
  ·have:(((i+1:Nat)):Int)=(i:Int)+1:=by omega
   rw [this]
   exact he2
  ·exact hit'.extBut sb2.extBut (Ne.symm hne)
  ·rcases List.mem_cons.mp hb with rfl | hb
   ·rw [zam eT];exact fe.1
   ·have q:b=it:=by simpa using hb
    subst q
    rw [zam iT];exact fi.1
 done:=by
  intro X hP hw hK hc i pins s σ H E I hf st hg
  subst hP hw hK
  obtain ⟨⟨old,he⟩,hit⟩:=st
  obtain ⟨xs,hq,hx⟩:=hg
  obtain ⟨its,rv,p,hz⟩:=I.list hq
  have fi:=hf it (by simp)
  have hl:=rv.length
  exact wpAny_pyNext_enum_end (I.ok.hd hc) he hit p.isList (by simp;omega) fun h' eb=>
   ⟨rfl,I.turned (t':=s.toks) (fun b o hb q=>eb b o hb q) fi.1 fi.2.1 fi.2.2.2.1 fi.2.2.2.2.1 fi.2.2.2.2.2⟩
 self:=fun _ _ _ _ _ st h=>by
  obtain ⟨⟨old,he⟩,_⟩:=st
  exact wpAny_pyIter_enum he h
noncomputable def iEnum (K:PySem.W.Frag) (ta:TA):TI:=fun σ H R=>ta σ H fun vs H1=>∃ l,vs= [.ref l]∧(∃ xs,SqL K H1 l xs)∧R (Ite K l) H1
theorem zoB {X:Cx}{a:Expr}{ta:TA}{p pos tp:Pos}{elts:List Expr}{k:Nat}(hg:Gl X "enumerate")(hm:X.mg "enumerate" =none)(ha:PA X [a] ta)
  (hs:starEach [a] X.env= [(false,eval a X.env)]:=by rfl):PI X (.Tuple elts k tp) (.Call (.Name "enumerate" p) [a] [] pos) (iEnum X.K ta):=by
 intro pins s σ H R I h
 refine Call_ (zgD I hg hm boot_enumerate (PyProof.Rows.callWith_type1 (thn (ha pos pins s σ H _ I h) fun us s1 ⟨vs,H1,I1,r1,q1⟩=>?_) hs rfl))
 obtain ⟨l,e,⟨xs,hq⟩,q⟩:=q1
 subst e
 cases r1 with
 | cons r rr=>
  cases rr
  cases r
  obtain ⟨its,rv,pl,hz⟩:=I1.list hq
  refine call_enumerate_list pl.isList fun h' he hit hz' hk=>?_
  refine wpAny_pyIter_enum he ?_
  refine ⟨s1.heap.objs.size+1,[s1.heap.objs.size+1,s1.heap.objs.size],_,_,H1,rfl,I1.kept (t':=s1.toks) hk,zmc l _ _ (Nat.succ_ne_self _),⟨⟨_,he⟩,hit⟩,fun b hb=>?_,q⟩
  have le:s1.heap.objs.size≤b:=by
   rcases List.mem_cons.mp hb with z | hb
   ·rw [z];exact Nat.le_succ _
   ·have z:b=s1.heap.objs.size:=by simpa using hb
    rw [z];exact Nat.le_refl _
  exact I1.fpOk le (I1.hok.fresh le)
theorem zf7 {K:PySem.W.Frag}{a:Addr}{xs:List V}{g:TG}{tb:TS}{D:Ends}{σ :St}{H:Hp}(Pv:Nat→St→Hp→Prop)(h0:Pv 0 σ H)
  (hl:∀ i σ H,i≤xs.length→Pv i σ H→SqL K H a xs)
  (hs:∀ i x σ H T,xs[i]? =some x→Pv i σ H→H T=none→g (.ref T) σ (upd H T (.tup [.int i,x])) fun σ2 H2=>tb {D with nx:=Pv (i+1),ct:=Pv (i+1),bk:=D.nx} σ2 H2)
  (hd:∀ σ H,Pv xs.length σ H→D.nx σ H):
  ∃ W:Nat→Nat→St→Hp→Prop,(∃ m,W 0 m σ H)∧∀ i m σ H,W i m σ H→
   ((Ite K a).stop i H ∧ D.nx σ H) ∨ ((Ite K a).go i H ∧ ∃ N : St → Hp → Prop, (∀ σ' H', N σ' H' → ∃ m', m' < m ∧ W (i + 1) m' σ' H') ∧
     ∀ x H',(Ite K a).yld i H x H'→g x σ H' fun σ2 H2=>tb {D with nx:=N,ct:=N,bk:=D.nx} σ2 H2):=by
 refine ⟨fun i m σ H=>m=xs.length - i∧i≤xs.length∧Pv i σ H,⟨xs.length,by simp,Nat.zero_le _,h0⟩,?_⟩
 rintro i m σ H ⟨rfl,hi,p⟩
 have q:=hl i σ H hi p
 by_cases hlt:i < xs.length
 ·refine .inr ⟨⟨xs,xs[i],q,by simp [hlt]⟩,Pv (i+1),fun σ' H' p'=>⟨xs.length - (i+1),by omega,rfl,hlt,p'⟩,fun x H' y=>?_⟩
  obtain ⟨T,z,hT,e1,e2,y⟩:=y
  subst e1 e2
  exact hs i z σ H T (y xs q) p hT
 ·have e:i=xs.length:=by omega
  subst e
  exact .inl ⟨⟨xs,q,Nat.le_refl _⟩,hd σ H p⟩
end L2
namespace L2
open PySem PySem.Spec PyProof.Rows
open PySem.W (Dat kqdP kqdPs kqdOk)
mutual
inductive Rep (K:PySem.W.Frag) (H:Hp):V→Dat→Prop
 | non:Rep K H .non .none
 | bl (b:Bool):Rep K H (.bl b) (.bool b)
 | int (i:Int):Rep K H (.int i) (.int i)
 | str (x:Str):Rep K H (.str x) (.str x)
 | tup {a:Addr} {xs:List V} {ds:List Dat}:SqT K H a xs→Reps K H xs ds→Rep K H (.ref a) (.tuple ds)
 | lst {a:Addr} {xs:List V} {ds:List Dat}:SqL K H a xs→Reps K H xs ds→Rep K H (.ref a) (.list ds)
inductive Reps (K:PySem.W.Frag) (H:Hp):List V→List Dat→Prop
 | nil:Reps K H [] []
 | cons {x:V} {xs:List V} {d:Dat} {ds:List Dat}:Rep K H x d→Reps K H xs ds→Reps K H (x::xs) (d::ds)
end
theorem Same.seqT {K:PySem.W.Frag}{H H':Hp}{a:Addr}{xs:List V}(e:Same H H')(h:SqT K H a xs):SqT K H' a xs:=by
 rcases h with h | h
 ·rcases h with h | ⟨o,h⟩
  ·exact .inl (.inl (e _ _ h))
  ·exact .inl (.inr ⟨o,e _ _ h⟩)
 ·exact .inr h
mutual
theorem Rep.mono {K:PySem.W.Frag}{H H':Hp}(s:Same H H'):∀ {v:V} {d:Dat},Rep K H v d→Rep K H' v d
 | _,_,.non=>.non
 | _,_,.bl b=>.bl b
 | _,_,.int i=>.int i
 | _,_,.str x=>.str x
 | _,_,.tup h r=>.tup (s.seqT h) (Reps.mono s r)
 | _,_,.lst h r=>.lst (s.seq h) (Reps.mono s r)
theorem Reps.mono {K:PySem.W.Frag}{H H':Hp}(s:Same H H'):∀ {vs:List V} {ds:List Dat},Reps K H vs ds→Reps K H' vs ds
 | _,_,.nil=>.nil
 | _,_,.cons h r=>.cons (Rep.mono s h) (Reps.mono s r)
end
theorem Reps.length {K:PySem.W.Frag}{H:Hp}:∀ {vs:List V} {ds:List Dat},Reps K H vs ds→vs.length=ds.length
 | _,_,.nil=>rfl
 | _,_,.cons _ r=>congrArg Nat.succ (Reps.length r)
theorem Reps.get {K:PySem.W.Frag}{H:Hp}:∀ {vs:List V} {ds:List Dat} {i:Nat} {v:V},Reps K H vs ds→vs[i]? =some v→∃ d,ds[i]? =some d∧Rep K H v d
 | _,_,_,_,.nil,e=>by simp at e
 | _,_,0,_,.cons h _,e=>by simp at e;subst e;exact ⟨_,rfl,h⟩
 | _,_,i+1,v,.cons _ r,e=>by
  obtain ⟨d,h1,h2⟩:=Reps.get (i:=i) (v:=v) r (by simpa using e)
  exact ⟨d,by simpa using h1,h2⟩
theorem Reps.getD {K:PySem.W.Frag}{H:Hp}:∀ {vs:List V} {ds:List Dat} {i:Nat} {d:Dat},Reps K H vs ds→ds[i]? =some d→∃ v,vs[i]? =some v∧Rep K H v d
 | _,_,_,_,.nil,e=>by simp at e
 | _,_,0,_,.cons h _,e=>by simp at e;subst e;exact ⟨_,rfl,h⟩
 | _,_,i+1,v,.cons _ r,e=>by
  obtain ⟨d,h1,h2⟩:=Reps.getD (i:=i) (d:=v) r (by simpa using e)
  exact ⟨d,by simpa using h1,h2⟩
theorem Reps.append {K:PySem.W.Frag}{H:Hp}:∀ {vs us:List V} {ds es:List Dat},Reps K H vs ds→Reps K H us es→Reps K H (vs++us) (ds++es)
 | _,_,_,_,.nil,s=>s
 | _,_,_,_,.cons h r,s=>.cons h (Reps.append r s)
theorem Reps.snoc {K:PySem.W.Frag}{H:Hp}{vs:List V}{ds:List Dat}{v:V}{d:Dat}(r:Reps K H vs ds)(h:Rep K H v d):Reps K H (vs++ [v]) (ds++ [d]):=r.append (.cons h .nil)
theorem Reps.ints {K:PySem.W.Frag}{H:Hp}:∀ ns:List Int,Reps K H (ns.map V.int) (ns.map Dat.int)
 | []=>.nil
 | n::r=>.cons (.int n) (Reps.ints r)
section
variable {X:Cx} {pins:List (Addr×Obj)} {σ :St} {H:Hp} {s:Shared}
mutual
theorem Rep.reads (I:Inv X pins σ H s):∀ (n:Nat) {v:V} {d:Dat} {u:Value},Rep X.K H v d→RelV v u→kqdOk n d=true→∃ as,Reads s.heap u (kqdP d) as
 | _,_,_,_,.non,r,_=>by cases (show _=_ from r);exact ⟨_,Reads.none⟩
 | _,_,_,_,.bl b,r,_=>by cases (show _=_ from r);exact ⟨_,Reads.bool b⟩
 | _,_,_,_,.int i,r,_=>by obtain ⟨t,rfl⟩:=r;exact ⟨_,Reads.int i t⟩
 | _,_,_,_,.str x,r,_=>by obtain ⟨t,rfl⟩:=r;exact ⟨_,Reads.str x t⟩
 | 0,_,_,_,.tup _ _,_,hk=>by simp [kqdOk] at hk
 | 0,_,_,_,.lst _ _,_,hk=>by simp [kqdOk] at hk
 | n+1,_,_,_,.tup h q,r,hk=>by
  cases (show _=_ from r)
  obtain ⟨its,rv,⟨o,e,c,m,d⟩,_⟩:=I.tuple h
  obtain ⟨as,z⟩:=Reps.reads I n q rv (by simpa [kqdOk] using hk)
  rw [kqdP]
  exact ⟨as,reads_tuple_at e c d (by simpa using z)⟩
 | n+1,_,_,_,.lst h q,r,hk=>by
  cases (show _=_ from r)
  obtain ⟨its,rv,⟨o,m,e,c,_,d⟩,_⟩:=I.list h
  obtain ⟨as,z⟩:=Reps.reads I n q rv (by simpa [kqdOk] using hk)
  rw [kqdP]
  exact ⟨_,reads_list_at e c d (by simpa using z)⟩
theorem Reps.reads (I:Inv X pins σ H s):∀ (n:Nat) {vs:List V} {ds:List Dat} {us:List Value},Reps X.K H vs ds→Vals vs us→(∀ d∈ds,kqdOk n d=true)→∃ as,ReadsAll s.heap us (kqdPs ds) as
 | _,_,_,_,.nil,r,_=>by cases r;exact ⟨_,ReadsAll.nil⟩
 | n,_,_,_,.cons h q,r,hk=>by
  cases r with
  | cons r1 r2=>
   obtain ⟨as,z⟩:=Rep.reads I n h r1 (hk _ (.head _))
   obtain ⟨bs,y⟩:=Reps.reads I n q r2 fun d hm=>hk d (.tail _ hm)
   rw [kqdPs]
   exact ⟨_,ReadsAll.cons z y⟩
end
end
noncomputable def rEqD (K:PySem.W.Frag) (neg:Bool):R2:=fun x y H Q=>∃ dx dy,Rep K H x dx∧Rep K H y dy∧kqdOk 8 dx=true∧kqdOk 8 dy=true∧(dx=dy→Q (.bl (!neg)) H)∧(dx≠dy→Q (.bl neg) H)
section
variable {X:Cx}
theorem zcP {d:Dat}(h:kqdOk 8 d=true):SeqAt.shaped (kqdP d)=true:=by
 have l:=PySem.W.kqd_lay 8 d h
 unfold SeqAt.shaped
 rw [l.1,Bool.true_and]
 exact decide_eq_true (Nat.le_trans l.2 (by decide))
theorem zny (hu:X.A.units+64 < cLine):OpR X (compareOp .Eq) (rEqD X.K false):=by
 intro pins s σ H x y v u Q I rx ry ⟨dx,dy,hx,hy,kx,ky,q1,q2⟩
 obtain ⟨as,ra⟩:=Rep.reads I 8 hx rx kx
 obtain ⟨bs,rb⟩:=Rep.reads I 8 hy ry ky
 have e:=PySem.W.kqd_eqv 8 dx dy 8 kx ky
 refine eq_dataH ra rb (zcP kx) (zcP ky) hu ?_
 cases z:PyData.eqv (kqdP dx) (kqdP dy) with
 | true=>exact ⟨.bl true,H,I,rfl,q1 (e.mp z)⟩
 | false=>exact ⟨.bl false,H,I,rfl,q2 fun w=>by rw [e.mpr w] at z;cases z⟩
theorem zlp (hu:X.A.units+64 < cLine):OpR X (compareOp .NotEq) (rEqD X.K true):=by
 intro pins s σ H x y v u Q I rx ry ⟨dx,dy,hx,hy,kx,ky,q1,q2⟩
 obtain ⟨as,ra⟩:=Rep.reads I 8 hx rx kx
 obtain ⟨bs,rb⟩:=Rep.reads I 8 hy ry ky
 have e:=PySem.W.kqd_eqv 8 dx dy 8 kx ky
 refine ne_dataH ra rb (zcP kx) (zcP ky) hu ?_
 cases z:PyData.eqv (kqdP dx) (kqdP dy) with
 | true=>exact ⟨.bl false,H,I,rfl,q1 (e.mp z)⟩
 | false=>exact ⟨.bl true,H,I,rfl,q2 fun w=>by rw [e.mpr w] at z;cases z⟩
noncomputable def CBits (i j:Int):Prop:=Builtin.Int.intBits i≤2 ^ 20∧Builtin.Int.intBits j≤2 ^ 20
theorem zfo:OpR X (binaryOp .Mult) (rI CBits fun i j=>.int (i * j)):=opI fun i j t u s Q E h q=>mul_int q (IntMulOk.of_bits h.1 h.2)
theorem zgk {i:Int}{k:Nat}(hk:k≤2 ^ 20)(h1: -(2 ^ k) < i)(h2:i < 2 ^ k):Builtin.Int.intBits i≤2 ^ 20:=by
 unfold Builtin.Int.intBits
 split
 ·exact Nat.zero_le _
 ·rename_i h0
  have hn:i.natAbs < 2 ^ k:=by
   have e:((2 ^ k:Nat):Int)=2 ^ k:=by norm_cast
   omega
  have:i.natAbs.log2 < k:=by
   refine (Nat.log2_lt ?_).mpr hn
   intro z
   simp at h0
   omega
  omega
end
end L2
namespace L2
open PySem PySem.Spec PyProof.Rows
section
variable {X:Cx} {K:PySem.W.Frag}
theorem zed (h:X.K=K:=by rfl):IxR X (rIxL K):=by subst h;exact zaN
theorem zfa (h:X.K=K:=by rfl):IxR X (rIxT K):=by subst h;exact zaC
theorem znJ (h:X.K=K:=by rfl):SlR X (rSlT K):=by subst h;exact ziY
theorem zn8 {es:List Expr}{k:Nat}{t:TGs}{n:Nat}{pos:Pos}(hc:X.calm=true)(h:PGs X es t)(hK:X.K=K:=by rfl)
  (hn:(assignEach es X.env).length=n:=by rfl) (hst:(assignEach es X.env).findIdx? (·.1)=none:=by rfl):PG X (.Tuple es k pos) (gTup K n t):=by subst hK;exact znp hc h hn hst
end
end L2
namespace L2
open PySem PySem.Spec PyProof.Rows
structure Bx (p:Prop):Prop where
 get:p
section
variable {X:Cx} {a b c e l o i f elt tg iter target value:Expr} {es ts rest:List Expr} {st:Stmt} {sts body els:List Stmt} {ta tb tc te td ty tx tv tl to ti:TE} {tA tB':TT} {t tr:TA} {s u tb':TS} {g:TG} {gs:TGs} {wi:TI} {tt:TT}
 {pos apos cpos p pos' spos:Pos} {op op':CmpOp} {bop:Operator} {r r':R2} {lo hi:Option Expr} {tlo thi:TO}
theorem bpv (k:Nat){x:Str}{pos:Pos}(hN:X.N[k]? =some x:=by rfl)(hv:Vis X.env.scope x:=by first | exact Or.inl rfl | exact Or.inr (Or.inl rfl) | exact Or.inr (Or.inr rfl))
  (hd:(x==("__debug__" :Str))=false:=by decide) (hcd:(x==("__classdict__" :Str))=false:=by decide):Bx (PE X (.Name x pos) (tVar k)):=⟨znr hN hv hd hcd⟩
theorem zaf {k:Int}{j pos}:Bx (PE X (.Constant (.int k) j pos) (tC (.int k))):=⟨pe_int⟩
theorem zka {k:Bool}{j pos}:Bx (PE X (.Constant (.bool k) j pos) (tC (.bl k))):=⟨pe_bl⟩
theorem zhr {j pos}:Bx (PE X (.Constant .none j pos) (tC .non)):=⟨pe_non⟩
theorem zav {x:Str}{j pos}:Bx (PE X (.Constant (.str x) j pos) (tC (.str x))):=⟨pe_str⟩
theorem zmY {x:Str}{v:V}{w:Value}{pos:Pos}(hg:Gl X x)(hm:X.mg x=some w)(r:RelV v w)(hd:(x==("__debug__" :Str))=false:=by decide):Bx (PE X (.Name x pos) (tC v)):=⟨zoF hg hm r hd⟩
theorem zak (ho:OpR X (binaryOp bop) r)(ha:Bx (PE X a ta))(hb:Bx (PE X b tb)):Bx (PE X (.BinOp a bop b pos) (tOp r ta tb)):=⟨pe_op ho ha.1 hb.1⟩
theorem zfv {uop:UnaryOp}{r:V→Hp→VK→Prop}(ho:UnR X (unaryOp uop) r)(ha:Bx (PE X a ta)):Bx (PE X (.UnaryOp uop a pos) (tUn r ta)):=⟨pe_un ho ha.1⟩
theorem zcU (ho:OpR X (compareOp op) r)(ha:Bx (PE X a ta))(hb:Bx (PE X b tb))(hm:behindInMarks op b=false):Bx (PE X (.Compare a [op] [b] pos) (tOp r ta tb)):=⟨znT ho ha.1 hb.1 hm⟩
theorem zaA (ho:OpR X (compareOp op) r)(ha:Bx (PE X a ta))(hb:Bx (PE X b tb))(hm:behindInMarks op b=false):Bx (PT X (.Compare a [op] [b] pos) (tTest (tOp r ta tb))):=⟨zn0 ho ha.1 hb.1 hm⟩
theorem zl3 {j pos'}(ha:Bx (PE X a ta)):Bx (PC X .Is a (.Constant .none j pos') (tIsN ta)):=⟨pc_isN ha.1⟩
theorem zhx {j pos'}(ha:Bx (PE X a ta)):Bx (PC X .IsNot a (.Constant .none j pos') (tNotN ta)):=⟨zoi ha.1⟩
theorem znN (hu:X.A.units+1 < cLine)(hi:Bx (PE X i ty))(ho:Bx (PE X o td)):Bx (PC X .In i o (tDIn ty td)):=⟨pc_din hu hi.1 ho.1⟩
theorem zkh (hu:X.A.units+1 < cLine)(hi:Bx (PE X i ty))(ho:Bx (PE X o td)):Bx (PC X .NotIn i o (zkX ty td)):=⟨zlD hu hi.1 ho.1⟩
theorem znF (h:Bx (PC X op a b te))(h1:behindInMarks op b=false:=by first | exact zf2 _ (by decide) (by decide) | rfl):Bx (PE X (.Compare a [op] [b] pos) te):=⟨pe_cmp h.1 h1⟩
theorem zeZ (h:Bx (PC X op a b te))(h1:behindInMarks op b=false:=by first | exact zf2 _ (by decide) (by decide) | rfl):Bx (PT X (.Compare a [op] [b] pos) (tB te)):=⟨pt_cmp h.1 h1⟩
theorem zlr (h:Bx (PE X e te))(he:∀ zeY,isTrue e X.env zeY=(do let v ← zeY;standAt e.pos;holding [v] (truthy v)):=by intro _;rfl):Bx (PT X e (tB te)):=⟨pt_val h.1 he⟩
theorem zkf (h:Bx (PW X e tt)):Bx (PT X e tt):=⟨h.1.pt⟩
theorem zjH (ha:Bx (PT X a tA)):Bx (PW X (.BoolOp .And [a] pos) tA):=⟨zon ha.1⟩
theorem zli (ha:Bx (PT X a tA)):Bx (PW X (.BoolOp .Or [a] pos) tA):=⟨pw_or1 ha.1⟩
theorem zlh (ha:Bx (PT X a tA))(hb:Bx (PW X (.BoolOp .And (b::rest) pos) tB')):Bx (PW X (.BoolOp .And (a::b::rest) pos) (tAnd tA tB')):=⟨pw_and ha.1 hb.1⟩
theorem znh (ha:Bx (PT X a tA))(hb:Bx (PW X (.BoolOp .Or (b::rest) pos) tB')):Bx (PW X (.BoolOp .Or (a::b::rest) pos) (tOr tA tB')):=⟨pw_or ha.1 hb.1⟩
theorem zoq (ha:Bx (PE X a ta)):Bx (PE X (.UnaryOp .Not a pos) (tNotV ta)):=⟨pe_not ha.1⟩
theorem zhY (hc:Bx (PT X c tA))(ha:Bx (PE X a ta))(hb:Bx (PE X b tb)):Bx (PE X (.IfExp c a b pos) (tIf tA ta tb)):=⟨zmM hc.1 ha.1 hb.1⟩
theorem zac:Bx (PA X [] tNil):=⟨pa_nil⟩
theorem zaa (ha:Bx (PE X e te))(hr:Bx (PA X es t))(hs:starEach (e::es) X.env=(false,eval e X.env)::starEach es X.env:=by rfl):Bx (PA X (e::es) (tCons te t)):=⟨zow ha.1 hr.1 hs⟩
theorem zaB {x1}(h:Bx (PA X es t)):Bx (PE X (.Tuple es x1 pos) (tTup t)):=⟨pe_tup h.1⟩
theorem zax (h:Bx (PA X es t)):Bx (PE X (.List es pos) (tLst t)):=⟨pe_lst h.1⟩
theorem zao (hr:IxR X r)(ha:Bx (PE X a ta))(hb:Bx (PE X b tb))(hs:zmq b):Bx (PE X (.Subscript a b pos) (tOp r ta tb)):=⟨pe_ix hr ha.1 hb.1 hs⟩
theorem zmV (hu:X.A.units+1 < cLine)(ho:Bx (PE X o td))(hi:Bx (PE X i ty))(hs:NoSl i):Bx (PE X (.Subscript o i pos) (tDGet td ty)):=⟨zov hu ho.1 hi.1 hs⟩
theorem zdj (hu:X.A.units+1 < cLine)(ho:Bx (PE X o td))(he:Bx (PE X e ty))(hf:Bx (PE X f tx))(m:M2 X o "get" apos e f cpos):Bx (PE X (.Call (.Attribute o "get" apos) [e,f] [] cpos) (znz td ty tx)):=⟨zmJ hu ho.1 he.1 hf.1 m⟩
theorem zeF:Bx (PE X (.Dict [] [] pos) znw):=⟨zmz⟩
theorem zcC:Bx (PO X none zkY):=⟨zod⟩
theorem zbt (h:Bx (PE X e te)):Bx (PO X (some e) (tPart te)):=⟨zog h.1⟩
theorem zbs {r:V→Option Int→Option Int→Hp→VK→Prop}{p2:Pos}(hr:SlR X r)(he:Bx (PE X e te))(hl:Bx (PO X lo tlo))(hu:Bx (PO X hi thi)):Bx (PE X (.Subscript e (.Slice lo hi none p2) pos) (tSl r te tlo thi)):=⟨zm9 hr he.1 hl.1 hu.1⟩
theorem zaE {r:List V→Hp→VK→Prop}{x:Str}{id:String}(hc:zey X (.builtin id) r)(hg:Gl X x)(hm:X.mg x=none)(hv:bootBuiltins x=some (.builtin id))(ha:Bx (PA X (e::es) t))(hn:x≠"__name__" :=by decide)(hdb:(x==("__debug__" :Str))=false:=by decide)
  (he:starEach (e::es) X.env=(false,eval e X.env)::starEach es X.env:=by rfl) (hpl:(backTo pos (starEach es X.env)).any (·.1)=false:=by rfl):Bx (PE X (.Call (.Name x p) (e::es) [] pos) (tCB r t)):=⟨zmT hc hg hm hv ha.1 hn hdb he hpl⟩
theorem zbo {r:List V→Hp→VK→Prop}{x:Str}{T:String}(hc:zey X (.type T) r)(hg:Gl X x)(hm:X.mg x=none)(hv:bootBuiltins x=some (.type T))(ha:Bx (PA X (e::es) t))(hn:x≠"__name__" :=by decide)(hdb:(x==("__debug__" :Str))=false:=by decide)
  (he:starEach (e::es) X.env=(false,eval e X.env)::starEach es X.env:=by rfl) (hpl:(backTo pos (starEach es X.env)).any (·.1)=false:=by rfl):Bx (PE X (.Call (.Name x p) (e::es) [] pos) (tCB r t)):=⟨zmh hc hg hm hv ha.1 hn hdb he hpl⟩
theorem zal {CX:CXT}{k:Nat}{fa:Addr}{fd:FuncData}{ps:List Str}{sp:Sp}{dvs:List V}{ds:List Value}{E:XK}{x:Str}(F:FnOk X.prog X.w X.K X.mg X.base CX k fa fd ps sp)(hr:Room k X.A)(hg:Gl X x)(hm:X.mg x=some (.ref fa))(hk:PySem.W.keepIn X.K (.ref fa)=true)
  (hb:zgY X.K fd ps ds) (hd:Vals dvs ds) (hx:zkg CX X E) (ha:Bx (PA X (e::es) t)) (hdb:(x==("__debug__" :Str))=false:=by decide)
  (he:starEach (e::es) X.env=(false,eval e X.env)::starEach es X.env:=by rfl) (hpl:(backTo pos (starEach es X.env)).any (·.1)=false:=by rfl):Bx (PE X (.Call (.Name x p) (e::es) [] pos) (tCall sp dvs E t)):=⟨znW F hr hg hm hk hb hd hx ha.1 hdb he hpl⟩
theorem zb4 {name:Str}{T id:String}{r:V→List V→Hp→VK→Prop}(pa:PlainAttrs T)(slot:Slot T name id)(hty:typeOf (.builtin id)=pure (.type "method_descriptor"))(hm:MtR X id r)(ho:Bx (PE X o to))(ha:Bx (PA X (e::es) t))
  (h1:attributeBase o name X.env (eval o X.env)=eval o X.env:=by rfl)
  (h2:((backTo cpos (starEach (e::es) X.env)).all (fun x=>!x.1) && (backToKw cpos (keywordEach [] X.env)).all (fun x=>x.1.isSome) && decide ((e::es).length+([]:List Keyword).length+(if ([]:List Keyword).isEmpty then 0 else 1) < 30))=true:=by rfl)
  (h3:(apos.endLine==cpos.line)=true:=by rfl) (h4:starEach (e::es) X.env=(false,eval e X.env)::starEach es X.env:=by rfl) (h5:(backTo cpos (starEach es X.env)).any (·.1)=false:=by rfl):
  Bx (PE X (.Call (.Attribute o name apos) (e::es) [] cpos) (tBM X.K T r to t)):=⟨pe_bm pa slot hty hm ho.1 ha.1 h1 h2 h3 h4 h5⟩
theorem zoe {name:Str}{T id:String}{r:V→List V→Hp→VK→Prop}(pa:PlainAttrs T)(slot:Slot T name id)(hty:typeOf (.builtin id)=pure (.type "method_descriptor"))(hm:MtR X id r)(ho:Bx (PE X o to))
  (hbase:attributeBase o name X.env (eval o X.env)=eval o X.env:=by rfl) (hline:(apos.endLine==cpos.line)=true:=by rfl):Bx (PE X (.Call (.Attribute o name apos) [] [] cpos) (tBM0 X.K T r to)):=⟨pe_bm0 pa slot hty hm ho.1 hbase hline⟩
theorem zaF:Bx (PSs X [] tNext):=⟨znK⟩
theorem zad (h1:Bx (PS X st s))(h2:Bx (PSs X sts u)):Bx (PSs X (st::sts) (tSeq s u)):=⟨zmt h1.1 h2.1⟩
theorem zag (h1:Bx (PS X st s)):Bx (PSs X [st] s):=⟨zok h1.1⟩
theorem ziF:Bx (PS X st znm):=⟨zmG⟩
theorem zaR (he:Bx (PE X e te))(hs:swapsWith e none pos.line X.env=pure false:=by rfl):Bx (PS X (.Expr e pos) (tDrop te)):=⟨zn6 he.1 hs⟩
theorem zaq (he:Bx (PE X e te)):Bx (PS X (.Return (some e) pos) (tRet te)):=⟨ps_ret he.1⟩
theorem zbd (hc:Bx (PT X c tA))(ha:Bx (PSs X body s))(hb:Bx (PSs X els u)):Bx (PS X (.If c body els pos) (tIfS tA s u)):=⟨ps_if hc.1 ha.1 hb.1⟩
theorem zai {k:Nat}{x:Str}(hN:X.N.Nodup)(hi:X.N[k]? =some x)(hx:Loc X.env.scope x)(hf:X.fn x=true∨X.env.scope.names.lookup x=some .local:=by first | exact .inl rfl | exact .inr rfl | assumption):Bx (PG X (.Name x pos) (zfq k)):=⟨zoj hN hi hx hf⟩
theorem zbq:Bx (PGs X [] gNil):=⟨zn4⟩
theorem zas (h1:Bx (PG X e g))(h2:Bx (PGs X es gs))(hs:(assignEach (e::es) X.env).map (·.2)=assign e X.env::(assignEach es X.env).map (·.2):=by rfl):Bx (PGs X (e::es) (zji g gs)):=⟨znd h1.1 h2.1 hs⟩
theorem zcY {k n:Nat}(hc:X.calm=true)(h:Bx (PGs X es gs))(hn:(assignEach es X.env).length=n:=by rfl)(hst:(assignEach es X.env).findIdx? (·.1)=none:=by rfl):Bx (PG X (.Tuple es k pos) (gTup X.K n gs)):=⟨znp hc h.1 hn hst⟩
theorem zd7 {K:PySem.W.Frag}{k n:Nat}(hc:X.calm=true)(h:Bx (PGs X es gs))(hK:X.K=K:=by rfl)(hn:(assignEach es X.env).length=n:=by rfl)(hst:(assignEach es X.env).findIdx? (·.1)=none:=by rfl):Bx (PG X (.Tuple es k pos) (gTup K n gs)):=⟨zn8 hc h.1 hK hn hst⟩
theorem zhK (he:Bx (PE X e te))(hg:Bx (PG X tg g))(hs:swapsWithSole [tg] e pos.line X.env=pure false:=by rfl)(hw:swappedStores [tg] e X.env=pure none:=by rfl)
  (h1:(assignEach [tg] X.env).map (·.2)= [assign tg X.env]:=by rfl):Bx (PS X (.Assign [tg] e pos) (tAsg te g)):=⟨ps_asg he.1 hg.1 hs hw h1⟩
theorem zaj {k:Nat}{x:Str}(hN:X.N.Nodup)(hi:X.N[k]? =some x)(hx:Loc X.env.scope x)(he:Bx (PE X e te))(hs:swapsWith e (some (.Name x pos')) pos.line X.env=pure false:=by rfl)(hf:X.fn x=true∨X.env.scope.names.lookup x=some .local:=by first | exact .inl rfl | exact .inr rfl | assumption):
  Bx (PS X (.Assign [.Name x pos'] e pos) (tAsg te (zfq k))):=⟨ps_set hN hi hx he.1 hs hf⟩
theorem zjX (hu:X.A.units+1 < cLine)(ho:Bx (PE X o td))(hi:Bx (PE X i ty))(hv:Bx (PE X value tv))(hs:swapsWith value (some (.Subscript o i pos')) pos.line X.env=pure false:=by rfl):Bx (PS X (.Assign [.Subscript o i pos'] value pos) (sDPut td ty tv)):=⟨zn5 hu ho.1 hi.1 hv.1 hs⟩
theorem zaS (hp:PassesOwn (model X.prog X.w) X.A X.env X.xe)(hc:X.calm=true)(hi:Bx (PI X tg iter wi))(hg:Bx (PG X tg g))(hb:Bx (PSs X body tb'))(hs:∀ x,foldedSetIterable iter X.env x=pure x:=by intro _;rfl):Bx (PS X (.For tg iter body [] pos) (tFor wi g tb')):=⟨ps_for hp hc hi.1 hg.1 hb.1 hs⟩
theorem zaD (hl:Bx (PE X l tl)):Bx (PI X tg l (iList X.K tl)):=⟨zop hl.1⟩
theorem zhS (hl:Bx (PE X l tl)):Bx (PI X tg l (iTup X.K tl)):=⟨pi_tup hl.1⟩
theorem zaZ (hg:Gl X "range")(hm:X.mg "range" =none)(ha:Bx (PA X [a] t))(hs:starEach [a] X.env= [(false,eval a X.env)]:=by rfl):Bx (PI X tg (.Call (.Name "range" p) [a] [] pos) (iRng1 t)):=⟨zlm hg hm ha.1 hs⟩
theorem zdz {elts:List Expr}{k:Nat}{tp:Pos}(hg:Gl X "enumerate")(hm:X.mg "enumerate" =none)(ha:Bx (PA X [a] t))(hs:starEach [a] X.env= [(false,eval a X.env)]:=by rfl):Bx (PI X (.Tuple elts k tp) (.Call (.Name "enumerate" p) [a] [] pos) (iEnum X.K t)):=⟨zoB hg hm ha.1 hs⟩
theorem zaJ:Bx (PTs X [] tYes):=⟨zn2⟩
theorem zmS (h:Bx (PT X c tA)):Bx (PTs X [c] tA):=⟨zoo h.1⟩
theorem zaV {ifs:List Expr}{scope:Scope}{N:List Str}{n:Nat}{cap:List Nat}(hc:X.calm=true)(B:Blk X scope N n cap)(hi:Bx (PI X tg iter wi))(hk:zjw n g)
  (hg:∀ cl fp s H,Bx (PG (zbV X N scope cl fp s H) tg g)) (ht:∀ cl fp s H,Bx (PTs (zbV X N scope cl fp s H) ifs tt)) (he:∀ cl fp s H,Bx (PE (zbV X N scope cl fp s H) elt te))
  (hs:∀ x,foldedSetIterable iter X.env x=pure x:=by intro _;rfl):Bx (PE X (.ListComp elt [⟨tg,iter,ifs,0⟩] scope pos) (zmB n cap wi g tt te)):=
 ⟨znH hc B hi.1 hk (fun cl fp s H=>(hg cl fp s H).1) (fun cl fp s H=>(ht cl fp s H).1) (fun cl fp s H=>(he cl fp s H).1) hs⟩
theorem zfV {ifs:List Expr}{scope:Scope}{N:List Str}{n:Nat}{cap:List Nat}{k:Nat}{x:Str}(hc:X.calm=true)(B:Blk X scope N n cap)(hN:X.N.Nodup)(hi:X.N[k]? =some x)(hx:X.env.scope.names.lookup x=some .local)(hit:Bx (PI X tg iter wi))(hk:zjw n g)
  (hg:∀ cl fp s H,Bx (PG (zbV X N scope cl fp s H) tg g)) (ht:∀ cl fp s H,Bx (PTs (zbV X N scope cl fp s H) ifs tt)) (he:∀ cl fp s H,Bx (PE (zbV X N scope cl fp s H) elt te))
  (hsw:swapsWith (.ListComp elt [⟨tg,iter,ifs,0⟩] scope pos) (some (.Name x pos')) spos.line X.env=pure true) (hs:∀ x,foldedSetIterable iter X.env x=pure x:=by intro _;rfl):
  Bx (PS X (.Assign [.Name x pos'] (.ListComp elt [⟨tg,iter,ifs,0⟩] scope pos) spos) (tAsg (zmB n cap wi g tt te) (zfq k))):=
 ⟨zn1 hc B hN hi hx hit.1 hk (fun cl fp s H=>(hg cl fp s H).1) (fun cl fp s H=>(ht cl fp s H).1) (fun cl fp s H=>(he cl fp s H).1) hsw hs⟩
end
section
variable {P:Program} {w:World} {K:PySem.W.Frag} {mg:Str→Option Value} {base:Heap}
theorem Fun.okB {x qual:Str}{st:Stmt}{f:Addr}{fd:FuncData}{N ps:List Str}{k:Nat}{sp:Sp}(F:Fun K x qual st f fd)(S:zay N ps (zah st))(len:∀ vs H Q E,sp vs H Q E→vs.length=ps.length)
  (hbody:∀ (cdv:Value) (A:Around) (outer:List Env) (s:Shared) (H:Hp) (vs:List V) (Q:VK) (E:XK),Room k (A.deeper (envOfC qual (zah st) s.heap.objs.size f cdv))→sp vs H Q E→
   ∃ t,Bx (PSs (cxOf CX0 P w K mg base N qual (zah st) f cdv A outer s H E).nox (zau st) t)∧t {nx:=fun _ H'=>Q .non H',rt:=Q} (start N vs) H):FnOk P w K mg base CX0 (k+1) f fd ps sp:=
 F.ok S len fun cdv A outer s H vs Q E hr h=>let ⟨t,a,b⟩:=hbody cdv A outer s H vs Q E hr h;⟨t,a.1,b⟩
end
end L2
namespace L2
open PySem PySem.Spec PyProof.Rows
section
variable {X:Cx}
theorem zfh {its:List Value}{ns:List Int}(h:IntsAre its ns):∃ xs:Array (Int×Tok),its.toArray=intItems xs∧xs.toList.map (·.1)=ns:=by
 obtain ⟨xs,e⟩:=h.allInts.items
 refine ⟨xs,e,?_⟩
 rw [← nums_intItems,← e]
 exact h.numsOf
theorem zlT (hc:X.calm=true):zey X (.builtin "sum") (fun xs H Q=>∃ (p:Addr) (ns:List Int),xs= [.ref p]∧SqL X.K H p (ns.map V.int)∧Q (.int ns.sum) H):=by
 intro pins s σ H xs us Q I r ⟨p,ns,e,hq,q⟩
 subst e
 obtain ⟨u,rfl,rx⟩:=zgW r
 cases rx
 obtain ⟨its,rv,pl,hz⟩:=I.list hq
 obtain ⟨zs,e,en⟩:=zfh (L2.zfd rv)
 refine sum_intListG (I.ok.hd hc) (by rw [← e];exact pl.isList) fun h' tk t' hk=>?_
 rw [preSum_eq,List.take_of_length_le (by simp),en]
 exact ⟨.int ns.sum,H,I.kept (t':=tk) hk,⟨t',rfl⟩,q⟩
theorem zle {zs:Array (Int×Tok)}{k:Nat}(h:k < zs.size):numAt zs k∈zs.toList.map (·.1):=by
 rw [numAt_eq]
 have hk:k < (zs.toList.map (·.1)).length:=by simpa using h
 rw [List.getD_eq_getElem?_getD,List.getElem?_eq_getElem hk]
 exact List.getElem_mem hk
theorem zmn {zs:Array (Int×Tok)}{a:Int}(h:a∈zs.toList.map (·.1)):∃ j,j < zs.size∧numAt zs j=a:=by
 obtain ⟨j,hj,e⟩:=List.mem_iff_getElem.mp h
 refine ⟨j,by simpa using hj,?_⟩
 rw [numAt_eq,List.getD_eq_getElem?_getD,List.getElem?_eq_getElem hj,← e]
 rfl
theorem zlc (hc:X.calm=true):zey X (.builtin "min") (fun xs H Q=>∃ (p:Addr) (ns:List Int),xs= [.ref p]∧SqL X.K H p (ns.map V.int)∧ns≠[]∧∀ M,M∈ns→(∀ a∈ns,M≤a)→Q (.int M) H):=by
 intro pins s σ H xs us Q I r ⟨p,ns,e,hq,hn,q⟩
 subst e
 obtain ⟨u,rfl,rx⟩:=zgW r
 cases rx
 obtain ⟨its,rv,pl,hz⟩:=I.list hq
 obtain ⟨zs,e,en⟩:=zfh (L2.zfd rv)
 have hs: 0 < zs.size:=by
  have: 0 < ns.length:=List.length_pos_iff.mpr hn
  rw [← en] at this
  simpa using this
 refine min_intList (I.ok.hd hc) (by rw [← e];exact pl.isList) hs fun v h' tk hv hk=>?_
 obtain ⟨t,ev⟩:=intItems_at hv
 obtain ⟨b1,b2⟩:=argBest_lt (numAt zs) (zs.size - 1)
 subst ev
 refine ⟨.int _,H,I.kept (t':=tk) hk,⟨t,rfl⟩,q _ (by rw [← en];exact zle (by omega)) fun a ha=>?_⟩
 rw [← en] at ha
 obtain ⟨j,hj,ej⟩:=zmn ha
 rw [← ej]
 exact b2 j (by omega)
theorem zkZ (hc:X.calm=true):zey X (.builtin "max") (fun xs H Q=>∃ (p:Addr) (ns:List Int),xs= [.ref p]∧SqL X.K H p (ns.map V.int)∧ns≠[]∧∀ M,M∈ns→(∀ a∈ns,a≤M)→Q (.int M) H):=by
 intro pins s σ H xs us Q I r ⟨p,ns,e,hq,hn,q⟩
 subst e
 obtain ⟨u,rfl,rx⟩:=zgW r
 cases rx
 obtain ⟨its,rv,pl,hz⟩:=I.list hq
 obtain ⟨zs,e,en⟩:=zfh (L2.zfd rv)
 have hs: 0 < zs.size:=by
  have: 0 < ns.length:=List.length_pos_iff.mpr hn
  rw [← en] at this
  simpa using this
 refine max_intList (I.ok.hd hc) (by rw [← e];exact pl.isList) hs fun v h' tk hv hk=>?_
 obtain ⟨t,ev⟩:=intItems_at hv
 obtain ⟨b1,b2⟩:=argBest_gt (numAt zs) (zs.size - 1)
 subst ev
 refine ⟨.int _,H,I.kept (t':=tk) hk,⟨t,rfl⟩,q _ (by rw [← en];exact zle (by omega)) fun a ha=>?_⟩
 rw [← en] at ha
 obtain ⟨j,hj,ej⟩:=zmn ha
 rw [← ej]
 exact b2 j (by omega)
theorem zmE {bs:List Bool}:∀ {us:List Value} {j:Nat} {v:Value},Vals (bs.map V.bl) us→us[j]? =some v→∃ b,bs[j]? =some b∧v= .bool b:=by
 intro us j v r h
 have hl:=r.length
 have hj:j < us.length:=(List.getElem?_eq_some_iff.mp h).1
 have hb:j < bs.length:=by rw [List.length_map] at hl;omega
 obtain ⟨u,hu,ru⟩:=r.get (i:=j) (x:=.bl bs[j]) (by simp [hb])
 rw [h] at hu
 cases hu
 exact ⟨bs[j],by simp [hb],ru⟩
theorem zlM (bs:List Bool):(List.range bs.length).all (fun j=>(bs[j]?).getD true)=bs.all id:=by
 rw [Bool.eq_iff_iff,List.all_eq_true,List.all_eq_true]
 constructor
 ·intro h b hb
  obtain ⟨j,hj,e⟩:=List.mem_iff_getElem.mp hb
  have:=h j (List.mem_range.mpr hj)
  rw [List.getElem?_eq_getElem hj] at this
  simpa [e] using this
 ·intro h j hj
  have hj:=List.mem_range.mp hj
  rw [List.getElem?_eq_getElem hj]
  exact h _ (List.getElem_mem hj)
theorem ziQ (hc:X.calm=true):zey X (.builtin "all") (fun xs H Q=>∃ (p:Addr) (bs:List Bool),xs= [.ref p]∧SqL X.K H p (bs.map V.bl)∧Q (.bl (bs.all id)) H):=by
 intro pins s σ H xs us Q I r ⟨p,bs,e,hq,q⟩
 subst e
 obtain ⟨u,rfl,rx⟩:=zgW r
 cases rx
 obtain ⟨its,rv,pl,hz⟩:=I.list hq
 have hl:its.toArray.size=bs.length:=by
  have:=rv.length
  simpa using this.symm
 have hlt:p < s.heap.objs.size:=by
  obtain ⟨o,ho,_⟩:=pl.isList
  exact Heap.lt_size ho
 refine call_all_walk (wpAny_pyIter_list pl.isList ?_)
 refine ⟨_,_,_,_,_,_,fun j=>(bs[j]?).getD true,rfl,Walks.list (A:=X.A.in1) (I.ok.hd hc) _ p (Nat.ne_of_lt hlt) its.toArray,⟨⟨_,Heap.get?_push_size _ rfl,rfl,rfl⟩,pl.isList.at fun o e=>Heap.get?_push_of_some _ e⟩,?_,fun h' tk hk=>?_⟩
 ·intro j v s' Q' E' hv hQ
  obtain ⟨b,hb,rfl⟩:=zmE rv (show its[j]? =some v by simpa using hv)
  dsimp only at hQ
  rw [hb] at hQ
  exact wpAny_truthy_bool hQ
 ·rw [hl,zlM]
  refine ⟨.bl _,H,I.kept (t':=tk) fun b o e=>hk b o ?_ (Heap.get?_push_of_some _ e),rfl,q⟩
  intro z
  have:b=s.heap.objs.size:=by simpa using z
  exact Nat.ne_of_lt (Heap.lt_size e) this
end
end L2
namespace L2
open PySem PySem.Spec PyProof.Rows
open PySem.W (Dat kqdP kqdPs kqdOk)
theorem zae {H:Hp}{p:Addr}(h:H p=none)(o:HO):Same H (upd H p o):=fun b u q=>by rw [zam (zap q h)];exact q
theorem Same.upd {H H':Hp}(s:Same H H'){p:Addr}(h:H' p=none)(o:HO):Same H (upd H' p o):=s.trans (zae h o)
theorem Same.write {H H':Hp}(s:Same H H'){p:Addr}(h:H p=none)(o:HO):Same H (L2.upd H' p o):=fun b u q=>by rw [zam (zap q h)];exact s b u q
noncomputable def znR (p:Addr) (H H':Hp):Prop:=∀ b o,b≠p→H b=some o→H' b=some o
structure Bld (K:PySem.W.Frag) (H0:Hp) (p:Addr) (xs:List V) (ds:List Dat) (H:Hp):Prop where
 ex:∃ G,Same H0 G∧Same G H∧G p=none∧Reps K G xs ds
 at_:H p=some (.lst xs)
section
variable {K:PySem.W.Frag} {H0 H:Hp} {p T:Addr} {xs vs:List V} {ds es:List Dat}
theorem Bld.start (h:H0 p=none):Bld K H0 p [] [] (upd H0 p (.lst [])):=⟨⟨H0,Same.refl _,zae h _,h,.nil⟩,zab⟩
theorem Bld.same (b:Bld K H0 p xs ds H):Same H0 H:=by
 obtain ⟨G,a,c,_⟩:=b.ex
 exact a.trans c
theorem Bld.reps (b:Bld K H0 p xs ds H):Reps K H xs ds:=by
 obtain ⟨G,_,a,_,r⟩:=b.ex
 exact r.mono a
theorem Bld.len (b:Bld K H0 p xs ds H):xs.length=ds.length:=b.reps.length
theorem Bld.sq (b:Bld K H0 p xs ds H):SqL K H p xs:=.of b.at_
theorem Bld.rep (b:Bld K H0 p xs ds H):Rep K H (.ref p) (.list ds):=.lst b.sq b.reps
theorem Bld.new (b:Bld K H0 p xs ds H)(h:H T=none)(o:HO):Bld K H0 p xs ds (upd H T o):=by
 obtain ⟨G,a,c,n,r⟩:=b.ex
 exact ⟨⟨G,a,c.upd h o,n,r⟩,by rw [zam (zap b.at_ h)];exact b.at_⟩
theorem Bld.pushT (b:Bld K H0 p xs ds H)(h:H T=none)(r:Reps K H0 vs es):Bld K H0 p (xs++ [.ref T]) (ds++ [.tuple es]) (upd (upd H T (.tup vs)) p (.lst (xs++ [.ref T]))):=by
 obtain ⟨G,a,c,n,rs⟩:=b.ex
 have hT:G T=none:=c.free h
 have pT:p≠T:=zap b.at_ h
 have s1:Same G (upd G T (.tup vs)):=zae hT _
 refine ⟨⟨upd G T (.tup vs),a.trans s1,fun x u q=>?_,by rw [zam pT];exact n,(rs.mono s1).snoc (.tup (.of zab) ((r.mono a).mono s1))⟩,zab⟩
 by_cases e:x=T
 ·subst e
  rw [zab] at q
  rw [zam (Ne.symm pT),zab]
  exact q
 ·rw [zam e] at q
  rw [zam (zap q n),zam e]
  exact c x u q
end
theorem big {n:Nat}(h:n≤100000):n < sizeLine:=Nat.lt_of_le_of_lt h (by decide)
theorem bigE {n:Nat}(h:n≤100000):n≤sizeLine:=Nat.le_of_lt (big h)
end L2
namespace L2
open PySem PySem.Spec PyProof.Rows
open PySem.W (Dat kqdP kqdPs kqdOk)
noncomputable def rInD (K:PySem.W.Frag) (neg:Bool):R2:=fun x y H Q=>∃ d ds,Rep K H x d∧Rep K H y (.list ds)∧kqdOk 8 d=true∧(∀ e∈ds,kqdOk 8 e=true)∧(d∈ds→Q (.bl (!neg)) H)∧(d∉ds→Q (.bl neg) H)
section
variable {X:Cx}
open Classical in
theorem znU {pins:List (Addr×Obj)}{σ :St}{H:Hp}{s:Shared}{x y:V}{v u:Value}{d:Dat}{ds:List Dat}(I:Inv X pins σ H s)(hu:X.A.units+64 < cLine)(rx:RelV x v)(ry:RelV y u)
  (hx:Rep X.K H x d) (hy:Rep X.K H y (.list ds)) (kd:kqdOk 8 d=true) (ks:∀ e∈ds,kqdOk 8 e=true):
  ∃ (p:Addr) (its:List Value) (e:Value→Bool),u= .ref p∧s.heap.IsList p its.toArray∧(∀ z,z∈its.toArray→SeqAt.EqAt X.A.in1 s z v (e z))∧(its.toArray.any e=true↔d∈ds):=by
 cases hy with
 | lst hq rq=>
  cases (show _=_ from ry)
  obtain ⟨its,r,pl,hz⟩:=I.list hq
  obtain ⟨as,ra⟩:=Rep.reads I 8 hx rx kd
  have room:∀ di,kqdOk 8 di=true→X.A.in1.units+min (kqdP di).depth (kqdP d).depth < cLine:=fun di k=>by
   have l:=(PySem.W.kqd_lay 8 di k).2
   rw [Around.in1_units]
   omega
  have back:∀ {xs:List V} {us:List Value} {i:Nat} {u:Value},Vals xs us→us[i]? =some u→∃ x,xs[i]? =some x∧RelV x u:=fun {xs us i u} r e=>by
   have hi:i < xs.length:=by rw [r.length];exact (List.getElem?_eq_some_iff.mp e).1
   obtain ⟨u',h1,h2⟩:=r.get (List.getElem?_eq_getElem hi)
   rw [e] at h1
   cases h1
   exact ⟨_,List.getElem?_eq_getElem hi,h2⟩
  have each:∀ z∈its,∃ di,di∈ds∧∃ bs,Reads s.heap z (kqdP di) bs:=by
   intro z hz
   obtain ⟨i,hi⟩:=List.getElem?_of_mem hz
   obtain ⟨w,hw,rw'⟩:=back r hi
   obtain ⟨di,hdi,rdi⟩:=rq.get hw
   exact ⟨di,List.mem_of_getElem? hdi,Rep.reads I 8 rdi rw' (ks di (List.mem_of_getElem? hdi))⟩
  have same:∀ di,di∈ds→kqdP di=kqdP d→di=d:=fun di hd e=>by
   have z:=(PySem.W.kqd_eqv 8 d d 8 kd kd).mpr rfl
   exact (PySem.W.kqd_eqv 8 di d 8 (ks di hd) kd).mp (by rw [e];exact z)
  refine ⟨_,its,fun z=>decide (∃ bs,Reads s.heap z (kqdP d) bs),rfl,pl.isList,fun z hz=>?_,?_⟩
  ·obtain ⟨di,hd,bs,rb⟩:=each z (by simpa using hz)
   have q:=SeqAt.eqAt_reads _ _ X.A.in1 s z v bs as rb ra (SeqAt.canLay_of_shaped (zcP (ks di hd))) (SeqAt.canLay_of_shaped (zcP kd)) (room di (ks di hd))
   have e:PyData.eqv (kqdP di) (kqdP d)=decide (∃ bs,Reads s.heap z (kqdP d) bs):=by
    by_cases h:di=d
    ·subst h
     rw [(PySem.W.kqd_eqv 8 di di 8 kd kd).mpr rfl]
     exact (decide_eq_true ⟨bs,rb⟩).symm
    ·have e1:PyData.eqv (kqdP di) (kqdP d)=false:=by
      cases c:PyData.eqv (kqdP di) (kqdP d) with
      | true=>exact absurd ((PySem.W.kqd_eqv 8 di d 8 (ks di hd) kd).mp c) h
      | false=>rfl
     rw [e1]
     refine (decide_eq_false ?_).symm
     rintro ⟨cs,rc⟩
     exact h (same di hd (SeqAt.Reads.unique _ _ z bs cs (SeqAt.canLay_of_shaped (zcP (ks di hd))) rb rc))
   show SeqAt.EqAt X.A.in1 s z v (decide (∃ bs,Reads s.heap z (kqdP d) bs))
   rw [← e]
   exact q
  ·rw [Array.any_eq_true']
   constructor
   ·rintro ⟨z,hz,c⟩
    obtain ⟨cs,rc⟩:=of_decide_eq_true c
    obtain ⟨di,hd,bs,rb⟩:=each z (by simpa using hz)
    have:=same di hd (SeqAt.Reads.unique _ _ z bs cs (SeqAt.canLay_of_shaped (zcP (ks di hd))) rb rc)
    exact this ▸ hd
   ·intro hd
    obtain ⟨i,hi⟩:=List.getElem?_of_mem hd
    obtain ⟨w,hw,rw'⟩:=rq.getD hi
    obtain ⟨z,hz,rz⟩:=r.get hw
    exact ⟨z,by simpa using List.mem_of_getElem? hz,decide_eq_true (Rep.reads I 8 rw' rz kd)⟩
theorem zio (hu:X.A.units+64 < cLine):OpR X (compareOp .NotIn) (rInD X.K true):=by
 intro pins s σ H x y v u Q I rx ry ⟨d,ds,hx,hy,kd,ks,q1,q2⟩
 obtain ⟨p,its,e,rfl,hl,he,hm⟩:=znU I hu rx ry hx hy kd ks
 refine SeqAt.notIn_listAt e hl he ?_
 by_cases h:d∈ds
 ·rw [hm.mpr h]
  exact ⟨.bl false,H,I,rfl,q1 h⟩
 ·have z:its.toArray.any e=false:=by
   cases c:its.toArray.any e with
   | true=>exact absurd (hm.mp c) h
   | false=>rfl
  rw [z]
  exact ⟨.bl true,H,I,rfl,q2 h⟩
end
section
variable {X:Cx} {K:PySem.W.Frag}
end
section
variable {g:TG} {tt:TT} {te:TE} {n0:Nat} {cap:List Nat} {σ :St} {Q:VK} {D:Addr} {H1:Hp} {K:PySem.W.Frag}
theorem zgn {a:Addr}{xs:List V}(Pv:Nat→Hp→Prop)(h0:Pv 0 (upd H1 D (.lst [])))(hl:∀ i H,i≤xs.length→Pv i H→SqL K H a xs)
  (hs:∀ i x H T,xs[i]? =some x→Pv i H→H T=none→g (.ref T) (zcf n0 cap σ) (upd H T (.tup [.int i,x])) fun σ2 H2=>tt σ2 H2 fun b H3=>if b=true then te σ2 H3 fun y H4=>∃ xs,H4 D=some (.lst xs)∧xs.length < sizeLine∧Pv (i+1) (upd H4 D (.lst (xs++ [y]))) else Pv (i+1) H3)
  (hd:∀ H,Pv xs.length H→Q (.ref D) H):
  zdR (Ite K a) D n0 cap σ g tt te Q H1:=by
 refine ⟨fun i m H=>m=xs.length - i∧i≤xs.length∧Pv i H,⟨xs.length,by simp,Nat.zero_le _,h0⟩,?_⟩
 rintro i m H ⟨rfl,hi,p⟩
 have q:=hl i H hi p
 by_cases hlt:i < xs.length
 ·refine .inr ⟨⟨xs,xs[i],q,by simp [hlt]⟩,Pv (i+1),fun H' p'=>⟨xs.length - (i+1),by omega,rfl,hlt,p'⟩,fun x H' y=>?_⟩
  obtain ⟨T,z,hT,e1,e2,y⟩:=y
  subst e1 e2
  exact hs i z H T (y xs q) p hT
 ·have e:i=xs.length:=by omega
  subst e
  exact .inl ⟨⟨xs,q,Nat.le_refl _⟩,hd H p⟩
end
end L2
namespace L2
open PySem PySem.Spec PyProof.Rows
open PySem.W (Dat kqdP kqdPs kqdOk)
structure Off (M:List Addr) (G H:Hp):Prop where
 same:Same G H
 out:∀ m∈M,G m=none
 there:∀ m∈M,∃ o,H m=some o
section
variable {M:List Addr} {G G1 G2 H H':Hp} {T m:Addr} {o u:HO}
theorem Off.ne (f:Off M G H)(h:H T=none):T∉M:=fun z=>by
 obtain ⟨o,e⟩:=f.there T z
 rw [h] at e
 cases e
theorem Off.ne' (f:Off M G H)(h:H T=none)(hm:m∈M):m≠T:=fun z=>f.ne h (z ▸ hm)
theorem Off.new (f:Off M G H)(h:H T=none)(o:HO):Off M G (upd H T o):=⟨f.same.upd h o,f.out,fun m hm=>by
 obtain ⟨u,e⟩:=f.there m hm
 exact ⟨u,zae h o _ _ e⟩⟩
theorem Off.grow (f:Off M G H)(s:Same H H'):Off M G H':=⟨f.same.trans s,f.out,fun m hm=>by
 obtain ⟨u,e⟩:=f.there m hm
 exact ⟨u,s _ _ e⟩⟩
theorem Off.add (f:Off M G H)(h:H T=none)(o:HO):Same G (upd G T o):=zae (f.same.free h) o
theorem Off.lay (f:Off M G H)(h:H T=none)(o:HO):Off M (upd G T o) (upd H T o):=⟨fun b v q=>by
  by_cases e:b=T
  ·subst e
   rw [zab] at q ⊢
   exact q
  ·rw [zam e] at q ⊢
   exact f.same b v q,
 fun m hm=>by rw [zam (f.ne' h hm)];exact f.out m hm,(f.new h o).there⟩
theorem Off.write (f:Off M G H)(hm:m∈M)(o:HO):Off M G (upd H m o):=⟨f.same.write (f.out m hm) o,f.out,fun k hk=>by
 by_cases e:k=m
 ·subst e
  exact ⟨o,zab⟩
 ·obtain ⟨u,e'⟩:=f.there k hk
  exact ⟨u,by rw [zam e];exact e'⟩⟩
theorem Off.opn (f:Off M G H)(h:H T=none)(o:HO):Off (T::M) G (upd H T o):=⟨f.same.upd h o,fun m hm=>by
  rcases List.mem_cons.mp hm with rfl | hm
  ·exact f.same.free h
  ·exact f.out m hm,
 fun m hm=>by
  rcases List.mem_cons.mp hm with rfl | hm
  ·exact ⟨o,zab⟩
  ·exact (f.new h o).there m hm⟩
theorem Off.drop (f:Off (m::M) G H):Off M G H:=⟨f.same,fun k hk=>f.out k (.tail _ hk),fun k hk=>f.there k (.tail _ hk)⟩
theorem Off.close (f:Off (m::M) G H)(e:H m=some o)(hn:m∉M):Off M (upd G m o) H:=⟨fun b v q=>by
  by_cases eb:b=m
  ·subst eb
   rw [zab] at q
   rw [e]
   exact q
  ·rw [zam eb] at q
   exact f.same b v q,
 fun k hk=>by
  have:k≠m:=fun z=>hn (z ▸ hk)
  rw [zam this]
  exact f.out k (.tail _ hk),fun k hk=>f.there k (.tail _ hk)⟩
theorem Off.cadd (f:Off (m::M) G H)(o:HO):Same G (upd G m o):=zae (f.out m (.head _)) o
theorem Off.take {a:Addr}(f:Off M G H)(e:H a=some o)(hn:a∉M):Off M (upd G a o) H∧Same G (upd G a o):=by
 refine ⟨⟨fun b v q=>?_,fun k hk=>?_,f.there⟩,fun b v q=>?_⟩
 ·by_cases eb:b=a
  ·subst eb
   rw [zab] at q
   rw [e]
   exact q
  ·rw [zam eb] at q
   exact f.same b v q
 ·have:k≠a:=fun z=>hn (z ▸ hk)
  rw [zam this]
  exact f.out k hk
 ·by_cases eb:b=a
  ·subst eb
   have:=f.same _ _ q
   rw [e] at this
   rw [zab]
   exact this
  ·rw [zam eb]
   exact q
theorem Off.start {p:Addr}(h:H p=none)(o:HO):Off [p] H (upd H p o):=⟨zae h o,fun m hm=>by rw [List.mem_singleton.mp hm];exact h,fun m hm=>by rw [List.mem_singleton.mp hm];exact ⟨o,zab⟩⟩
end
end L2
namespace L2
open PySem PySem.Spec PyProof.Rows
noncomputable def zfD (kvs more:List (List Key×V)):List (List Key×V):=more.foldl (fun acc kv=>putK acc kv.1 kv.2) kvs
noncomputable def zcz (acc xs:List (List Key×Addr×Value)):List (List Key×Addr×Value):=xs.foldl (fun acc x=>storedH acc x.1 x.2.1 x.2.2) acc
noncomputable abbrev zfe (H:Hp):List V→List (List Key×V)→Prop:=Paired fun x kv=>∃ p kt,x=V.ref p∧H p=some (.tup [.ref kt,kv.2])∧RdT H kt (kv.1.map kV)
theorem zlw:typeLookup (.type "list") "keys" =pure none:=am_miss_of_fast (by kernel_rfl)
theorem zej:entryFor table "dict.update.loop" =some Builtin.«dict.update.loop» :=entryFor_of_fast (by kernel_rfl)
theorem zcJ:plainId "dict.update.loop" =true:=by decide+kernel
theorem zhM (xs:List (List Key×Addr×Value)){i:Nat}{x:List Key×Addr×Value}(h:xs[i]? =some x):zcz [] (xs.take (i+1))=storedH (zcz [] (xs.take i)) x.1 x.2.1 x.2.2:=by
 unfold zcz
 rw [List.take_add_one,h,List.foldl_append]
 rfl
theorem zko (xs:List (List Key×Addr×Value))(k:List Key)(b:Addr)(v:Value):(storedH xs k b v).length≤xs.length+1:=by
 unfold storedH
 split
 ·rw [List.length_map];omega
 ·rw [List.length_append,List.length_singleton];omega
theorem zgr:∀ (xs acc:List (List Key×Addr×Value)),(zcz acc xs).length≤acc.length+xs.length
 | [],acc=>by show acc.length≤acc.length+0;omega
 | x::r,acc=>by
  have h1:=zgr r (storedH acc x.1 x.2.1 x.2.2)
  have h2:=zko acc x.1 x.2.1 x.2.2
  show (zcz (storedH acc x.1 x.2.1 x.2.2) r).length≤_
  rw [List.length_cons];omega
section
variable {prog:Program} {w:World} {A:Around} {E:Value→Shared→Prop} {s:Shared}
theorem zeP {a:Addr}{o:Obj}{xs:Array Value}{k:Nat}{Q:Option Value→Shared→Prop}
  (hx:s.heap.get? a=some o) (hc:o.cls= .type "list") (hdat:o.data= .seq xs k) (hd:o.dict=none) (hA:A.handled=none)
  (h:∀ h' tk,(∀ b ob,s.heap.get? b=some ob→h'.get? b=some ob)→Q none {s with heap:=h',toks:=tk}):
  wpAny (model prog w) A (getAttr? (.ref a) "keys") Q E s:=by
 obtain ⟨c,dct,dat,sl⟩:=o
 simp only at hc hdat hd
 subst hc hdat hd
 obtain ⟨hp,g,d,tk,os⟩:=s
 have hT:∀ tk',(⟨hp,g,d,tk',os⟩:Shared).TypeIs (.ref a) "list" :=fun _=>⟨_,hx,rfl⟩
 have f1:=sub_AttributeError
 have f3:=F.slot_list_getattribute.lookup
 have f4:=F.slot_list_getattribute.bind (.ref a)
 have f5:=am_list_getattr_none
 unfold getAttr? getAttrBy? getAttrBy
 repeat (any_goals (first | assumption | exact hT _ | ((with_reducible show wpAny _ _ (call (Value.builtin "list.__getattribute__") _ _) _ _ _);refine call_meets F.slot_list_getattribute (hT _) am_entry_list_getattribute (F.args_list_getattribute_2 _ _) (meets_getattribute_miss_list a xs k sl "keys" _ zlw (by decide+kernel) (by decide+kernel)) ⟨hx,hA,fun h' tk' e hx'=>?_⟩) | wp_step))
 obtain ⟨t',u',he⟩:=hx'.there
 show wpAny _ _ (getattributeRaised _ _ _ _ _ _ _) _ _ _
 unfold getattributeRaised
 repeat (any_goals (first | assumption | wp_step))
 exact h _ _ hx'.keeps
end
section
variable {prog:Program} {w:World} {A:Around} {R:Result→Shared→Prop}
theorem zjE {h h':Heap}{k:List Key}{a:Addr}(hk:(tupleKind (zaX prog w)).is h k a)(keep:∀ o,h.get? a=some o→h'.get? a=some o):(tupleKind (zaX prog w)).is h' k a:=by
 obtain ⟨o,it,n,e,r⟩:=hk
 exact ⟨o,it,n,keep _ e,r⟩
theorem zf5 {h:Heap}{I L:Addr}{i:Nat}(hit:h.IsListIter I L i):∃ oi,h.get? I=some oi∧oi.cls= .type "list_iterator" :=by
 obtain ⟨o,e,c,_⟩:=hit
 exact ⟨o,e,c⟩
theorem zhm {h h':Heap}{I d:Addr}{acc:List (List Key×Addr×Value)}(hm:h.DictOfH (tupleKind (zaX prog w)) d acc)(hI:∃ oi,h.get? I=some oi∧oi.cls= .type "list_iterator")
  (hk:∀ b o,b≠I→h.get? b=some o→h'.get? b=some o):h'.DictOfH (tupleKind (zaX prog w)) d acc:=by
 obtain ⟨o,es,ep,h1,h2,h3,h4,his,h5⟩:=hm
 obtain ⟨oi,e1,e2⟩:=hI
 refine ⟨o,es,ep,hk _ _ ?_ h1,h2,h3,h4,fun x hx=>?_,h5⟩
 ·intro z
  subst z
  rw [h1] at e1
  cases e1
  rw [h2.1] at e2
  exact absurd (Value.type.inj e2) (by decide)
 ·have q:=his x hx
  refine zjE q fun ob ho=>hk _ _ ?_ ho
  intro z
  obtain ⟨o',it,n,e,c,_⟩:=q
  rw [z,e1] at e
  cases e
  rw [e2] at c
  exact absurd (Value.type.inj c) (by decide)
theorem zfL {d I L:Addr}{items:Array Value}{h0:Heap}{xs:List (List Key×Addr×Value)}
  (hA:A.in1.handled=none) (hu:(tupleKind (zaX prog w)).room A.in1) (hLI:L≠I) (hdI:d≠I) (hdL:d≠L)
  (hd0:h0.get? d=none) (hI0:h0.get? I=none)
  (good:∀ (i:Nat) (x:List Key×Addr×Value),xs[i]? =some x→∃ (p:Addr) (o:Obj) (n:Nat),items[i]? =some (Value.ref p)∧h0.get? p=some o∧o.cls= .type "tuple"∧o.data= .seq #[.ref x.2.1,x.2.2] n∧(tupleKind (zaX prog w)).is h0 x.1 x.2.1)
  (hn:items.size=xs.length) (hz:xs.length < sizeLine):
  ∀ (k i:Nat) (s:Shared) (t:Tok),xs.length - i=k→i≤xs.length→s.heap.IsListIter I L i→s.heap.IsList L items→s.heap.DictOfH (tupleKind (zaX prog w)) d (zcz [] (xs.take i))→
   (∀ b o,h0.get? b=some o→s.heap.get? b=some o)→
   (∀ h' tk,h'.DictOfH (tupleKind (zaX prog w)) d (zcz [] xs)→(∀ b o,h0.get? b=some o→h'.get? b=some o)→R (.ok (.ret .none)) {s with heap:=h',toks:=tk})→
   codeAny (model prog w) A (.builtin "dict.update.loop" ⟨[.ref d,.ref I,.int i t,.none],[]⟩) R s:=by
 have W:=Walks.list (prog:=prog) (w:=w) hA I L hLI items
 intro k
 induction k with
 | zero=>
  intro i s t hk hi hit hl hm hkeep hR
  have hin:i=items.size:=by omega
  refine codeAny_builtin zej ?_
  rw [Around.under_plainId zcJ _]
  show wpAny _ A.in1 (pyNext (.ref I) >>=_) _ _ s
  refine wpAny_bind (W.done s _ _ (by rw [← hin];exact ⟨hit,hl⟩) fun h' tk hk'=>?_)
  have hk2:∀ b o,b≠I→s.heap.get? b=some o→h'.get? b=some o:=fun b o hb e=>hk' b o (by simpa using hb) e
  have et:xs.take i=xs:=List.take_of_length_le (by omega)
  rw [et] at hm
  show wpAny _ _ (Builtin.Dict.addKeywords d [] >>=_) _ _ _
  exact wpAny_bind (wpAny_pure (wpAny_pure (hR h' tk (zhm hm (zf5 hit) hk2) fun b o e=>hk2 b o (fun z=>by rw [z,hI0] at e;cases e) (hkeep b o e))))
 | succ k ih=>
  intro i s t hk hi hit hl hm hkeep hR
  have hlt:i < xs.length:=by omega
  obtain ⟨p,o,n,hp,ho,hc,hdat,hkey⟩:=good i xs[i] (List.getElem?_eq_getElem hlt)
  refine codeAny_builtin zej ?_
  rw [Around.under_plainId zcJ _]
  show wpAny _ A.in1 (pyNext (.ref I) >>=_) _ _ s
  refine wpAny_bind (W.item i s _ _ (by omega) ⟨hit,hl⟩ fun v h' tk hP hst' hk'=>?_)
  rw [hp] at hP
  cases hP
  have hk2:∀ b o,b≠I→s.heap.get? b=some o→h'.get? b=some o:=fun b o hb e=>hk' b o (by simpa using hb) e
  have hkeep':∀ b o,h0.get? b=some o→h'.get? b=some o:=fun b o e=>hk2 b o (fun z=>by rw [z,hI0] at e;cases e) (hkeep b o e)
  have hm':h'.DictOfH (tupleKind (zaX prog w)) d (zcz [] (xs.take i)):=zhm hm (zf5 hit) hk2
  refine wpAny_bind (wpAny_holding (wpAny_bind (wpAny_tryCatch ?_)))
  unfold Builtin.Dict.pairItems
  refine wpAny_bind (wpAny_typeOf (T:="tuple") ⟨o,hkeep' _ _ ho,hc⟩ ?_)
  rw [if_pos (by decide)]
  refine wpAny_bind (wpAny_seqItems (hkeep' _ _ ho) hdat (wpAny_pure ?_))
  show wpAny _ _ (holding [_,_] (dictSet d _ _)) _ _ _
  have l1:=zgr (xs.take i) []
  rw [List.length_nil,List.length_take] at l1
  refine wpAny_holding (wpAny_dictSet_heap (hsz:=by omega) hu (zjE hkey fun o e=>hkeep' _ _ e) hm' fun h2 hd2 hs2=>?_)
  have hk3:∀ b o,b≠d→h'.get? b=some o→h2.get? b=some o:=fun b o hb e=>(hs2.2 b hb).trans e
  refine wpAny_pure ⟨plainId_quiet zcJ _,ih (i+1) _ _ (by omega) (by omega) (hst'.1.at fun o e=>hk3 _ _ (Ne.symm hdI) e) (hst'.2.at fun o e=>hk3 _ _ (Ne.symm hdL) e) ?_ (fun b o e=>hk3 b o (fun z=>by rw [z,hd0] at e;cases e) (hkeep' b o e)) fun h3 tk3 hd3 hk4=>hR h3 tk3 hd3 hk4⟩
  rw [zhM xs (List.getElem?_eq_getElem hlt)]
  exact hd2
end
section
variable {prog:Program} {w:World} {A:Around} {E:Value→Shared→Prop} {s:Shared}
theorem zgb {L:Addr}{o:Obj}{items:Array Value}{m:Nat}{xs:List (List Key×Addr×Value)}{Q:Value→Shared→Prop}(hA:A.handled=none)(hu:A.units+64 < cLine)
  (ho:s.heap.get? L=some o) (hc:o.cls= .type "list") (hd:o.dict=none) (hdat:o.data= .seq items m)
  (good:∀ (i:Nat) (x:List Key×Addr×Value),xs[i]? =some x→∃ (p:Addr) (o:Obj) (n:Nat),items[i]? =some (Value.ref p)∧s.heap.get? p=some o∧o.cls= .type "tuple"∧o.data= .seq #[.ref x.2.1,x.2.2] n∧(tupleKind (zaX prog w)).is s.heap x.1 x.2.1)
  (hn:items.size=xs.length) (hz:xs.length < sizeLine)
  (h:∀ h' tk,h'.DictOfH (tupleKind (zaX prog w)) s.heap.objs.size (zcz [] xs)→(∀ b o,s.heap.get? b=some o→h'.get? b=some o)→Q (.ref s.heap.objs.size) {s with heap:=h',toks:=tk}):
  wpAny (model prog w) A (call (.type "dict") [.ref L]) Q E s:=by
 refine callType_codes (Q₁ :=fun obj s₁ =>obj= .ref s.heap.objs.size∧s₁ = {s with heap:=s.heap.push {cls:=.type "dict",data:=.dict #[]}}) PySem.F.kt_called_dict (PySem.F.kt_typeCall_dict_1 _) PySem.F.entry_dict_init (kt_code_dict_new _ ⟨rfl,rfl⟩) ?_
 rintro obj s₁ ⟨rfl,rfl⟩
 have hd1:(s.heap.push {cls:=.type "dict",data:=.dict #[]}).get? s.heap.objs.size=some {cls:=.type "dict",data:=.dict #[]}:=Heap.get?_push_size _ rfl
 have hL1:(s.heap.push {cls:=.type "dict",data:=.dict #[]}).get? L=some o:=Heap.get?_push_of_some _ ho
 have hlt:L < s.heap.objs.size:=Heap.lt_size ho
 refine ⟨⟨_,hd1,rfl⟩,PySem.F.args_dict_init_2 _ _,?_⟩
 unfold Builtin.«dict.__init__»
 refine wpAny_bind ?_
 unfold Builtin.Dict.selfAndRest
 refine wpAny_bind (wpAny_notOrdered_dict ⟨_,hd1,rfl⟩ ?_)
 show wpAny _ _ (pure (s.heap.objs.size,[Value.ref L])) _ _ _
 refine wpAny_pure ?_
 show wpAny _ _ (Builtin.Dict.updateFrom "dict.__init__" s.heap.objs.size (.ref L) [] .none) _ _ _
 unfold Builtin.Dict.updateFrom
 refine wpAny_bind (wpAny_typeOf (T:="list") ⟨_,hL1,hc⟩ ?_)
 rw [if_pos (by decide)]
 refine wpAny_bind (zeP hL1 hc hdat hd hA fun h2 tk2 hk2=>?_)
 rw [if_pos (show (none:Option Value).isNone=true from rfl)]
 refine wpAny_bind (wpAny_rule ?_)
 have hl2:h2.IsList L items:=⟨o,hk2 _ _ hL1,hc,m,hdat⟩
 refine wpAny_bind (wpAny_pyIter_list hl2 ?_)
 have hz2:s.heap.objs.size < h2.objs.size:=Heap.lt_size (hk2 _ _ hd1)
 have keep:∀ b ob,s.heap.get? b=some ob→(h2.push {cls:=.type "list_iterator",data:=.fields #[.ref L,.int 0 0]}).get? b=some ob:=fun b ob e=>Heap.get?_push_of_some _ (hk2 _ _ (Heap.get?_push_of_some _ e))
 refine wpAny_pure ⟨plainId_quiet zcJ _,zfL (A:=A.in1) (h0:=s.heap) (L:=L) hA (show A.units+1+1 < cLine by omega) (Nat.ne_of_lt (Nat.lt_trans hlt hz2)) (Nat.ne_of_lt hz2) (Ne.symm (Nat.ne_of_lt hlt)) (Heap.get?_none_of_le (Nat.le_refl _)) (Heap.get?_none_of_le (Nat.le_of_lt hz2)) good hn hz
  xs.length 0 _ _ (by omega) (Nat.zero_le _) ⟨_,Heap.get?_push_size _ rfl,rfl,rfl⟩ (hl2.at fun o e=>Heap.get?_push_of_some _ e) ?_ keep fun h' tk hd' hk'=>⟨rfl,h h' tk hd' hk'⟩⟩
 exact ⟨_,#[],0,Heap.get?_push_of_some _ (hk2 _ _ hd1),⟨rfl,rfl,rfl⟩,rfl,rfl,(fun x hx=>nomatch hx),List.nodup_nil⟩
end
theorem zew:∀ (more kvs:List (List Key×V)),(zfD kvs more).length≤kvs.length+more.length
 | [],kvs=>by show kvs.length≤kvs.length+0;omega
 | p::r,kvs=>by
  have h1:=zew r (putK kvs p.1 p.2)
  have h2:=zes kvs p.1 p.2
  show (zfD (putK kvs p.1 p.2) r).length≤_
  rw [List.length_cons];omega
theorem KT.merge {H:Hp}:∀ {more:List (List Key×V)} {xs:List (List Key×Addr×Value)} {kvs:List (List Key×V)} {ys:List (List Key×Addr×Value)},KT H more xs→KT H kvs ys→KT H (zfD kvs more) (zcz ys xs)
 | _,_,_,_,.nil,q=>q
 | _,_,kvs,ys,.cons (a:=p) (b:=x) h t,q=>by
  have e:KT H (putK kvs p.1 p.2) (storedH ys x.1 x.2.1 x.2.2):=by
   have:=q.put p.1 h.2.1 h.2.2
   rw [← h.1];exact this
  have z:=KT.merge (kvs:=putK kvs p.1 p.2) (ys:=storedH ys x.1 x.2.1 x.2.2) t e
  exact z
section
variable {X:Cx}
theorem zkl (hc:X.calm=true)(hu:X.A.units+64 < cLine):zey X (.type "dict") (fun xs H Q=>∃ (L:Addr) (vs:List V) (kvs:List (List Key×V)),xs= [.ref L]∧H L=some (.lst vs)∧zfe H vs kvs∧kvs.length < sizeLine∧∀ d,H d=none→Q (.ref d) (upd H d (.dT (zfD [] kvs)))):=by
 intro pins s σ H xs us Q I r ⟨L,vs,kvs,e,hL,hp,hz,q⟩
 subst e
 obtain ⟨u,rfl,rx⟩:=zgW r
 cases rx
 obtain ⟨z,its,n,rv,hl,eL⟩:=I.lstM hL
 obtain ⟨ws,kt,gd⟩:∃ ws:List (List Key×Addr×Value),KT H kvs ws∧∀ (i:Nat) (x:List Key×Addr×Value),ws[i]? =some x→∃ p o n,its[i]? =some (.ref p)∧s.heap.get? p=some o∧o.cls= .type "tuple"∧o.data= .seq #[.ref x.2.1,x.2.2] n∧(tupleKind (zaX X.prog X.w)).is s.heap x.1 x.2.1:=by
  clear q hz hL z eL hl
  induction hp generalizing its with
  | nil=>cases rv;exact ⟨[],.nil,fun i x hx=>by simp at hx⟩
  | @cons x kv vs kvs h t ih=>
   cases rv with
   | @cons _ u _ us ru rus=>
    obtain ⟨ws,k1,g1⟩:=ih us rus
    obtain ⟨p,ktt,rfl,h1,h2⟩:=h
    cases ru
    obtain ⟨_,ts,rt,ot,e1,c1,n1,d1⟩:=(show zcB X.prog X.w H s.heap p (.tup [.ref ktt,kv.2]) from I.hok p _ h1)
    cases rt with
    | @cons _ t1 _ _ r1 r2=>
     cases r2 with
     | @cons _ t2 _ _ r2 r3=>
      cases r3
      cases r1
      refine ⟨(kv.1,ktt,t2)::ws,.cons ⟨rfl,h2,r2⟩ k1,fun i x hx=>?_⟩
      cases i with
      | zero=>
       simp at hx
       subst hx
       exact ⟨p,ot,n1,rfl,e1,c1,d1,zgv I.hok h2⟩
      | succ i=>
       obtain ⟨p',o',n',a1,a2⟩:=g1 i x (by simpa using hx)
       exact ⟨p',o',n',by simpa using a1,a2⟩
 have lw:kvs.length=ws.length:=Paired.length kt
 have lv:vs.length=kvs.length:=Paired.length hp
 refine zgb (xs:=ws) (I.ok.hd hc) hu eL rfl rfl rfl (fun i x hx=>?_) (by rw [List.size_toArray];omega) (by omega) fun h' tk hd hk=>?_
 ·obtain ⟨p,o,n,a1,a2⟩:=gd i x hx
  exact ⟨p,o,n,by simpa using a1,a2⟩
 ·have hf:=I.fresh
  obtain ⟨o,es,ep,h1,h2,h3,h4,his,h5⟩:=hd
  have lm:=zew kvs []
  rw [List.length_nil] at lm
  have hb:=I.big
  refine ⟨.ref s.heap.objs.size,_,I.laid (a:=s.heap.objs.size) (o:=.dT (zfD [] kvs)) (t':=tk) hk (Nat.le_refl _) ⟨by omega,beq_eq_false_iff_ne.mpr (Ne.symm (Nat.ne_of_lt hb)),zcz [] ws,(kt.merge .nil).keeps fun b ys eb=>eb.upd hf,o,es,ep,h1,h2,h3,h4,h5⟩,rfl,q _ hf⟩
end
end L2
namespace L2
open PySem PySem.Spec PyProof.Rows
section
variable {X:Cx} {e k:Expr} {te tk:TE} {pos p2:Pos}
end
end L2
namespace L2
open PySem PySem.Spec PyProof.Rows
section
variable {prog:Program} {w:World} {A:Around} {E:Value→Shared→Prop} {s:Shared}
end
section
variable {X:Cx} {pos:Pos}
end
end L2
namespace L2
open PySem PySem.Spec PyProof.Rows
section
variable {X:Cx}
end
end L2
namespace L2
open PySem PySem.Spec PyProof.Rows
section
variable {prog:Program} {w:World} {A:Around} {E:Value→Shared→Prop} {s:Shared}
end
section
variable {X:Cx}
end
end L2
namespace My
open PySem L2
open PySem.W (Dat kqdP kqdPs kqdOk)
structure zat where
 ins:Int
 gates:List (Str×List Int)
 outs:List Int
noncomputable def zbJ (kind:Str) (n:Nat):Prop:=((kind="and"∨kind="or"∨kind="odd")∧2≤n∧n≤4)∨(kind="not"∧n=1)∨(kind="choose"∧n=3)∨((kind="zero"∨kind="one")∧n=0)
structure WF (most:Nat) (w:zat):Prop where
 i1: 1≤w.ins
 i6:w.ins≤6
 few:w.gates.length≤most
 legs:∀ (k:Nat) g,w.gates[k]? =some g→zbJ g.1 g.2.length∧∀ l∈g.2,0≤l∧l < w.ins+k
 o1: 1≤w.outs.length
 o3:w.outs.length≤most+20
 outs:∀ o∈w.outs,0≤o∧o < w.ins+w.gates.length
noncomputable def zhA (g:Str×List Int):Dat:=.tuple [.str g.1,.tuple (g.2.map .int)]
noncomputable def zbl (w:zat):Dat:=.tuple [.int w.ins,.list (w.gates.map zhA),.list (w.outs.map .int)]
theorem zbJ.le {k:Str}{n:Nat}(h:zbJ k n):n≤4:=by
 unfold zbJ at h
 omega
noncomputable def zmZ (i b:Int):Dat:=.tuple [.str "wire",.int i,.int b]
noncomputable def legF (k i b:Int):Dat:=.tuple [.str "leg",.int k,.int i,.int b]
noncomputable def zei:Nat→List Dat
 | 0=>[]
 | n+1=>zei n++ [zmZ n 0,zmZ n 1]
noncomputable def zht (k:Int):Nat→List Dat
 | 0=>[]
 | n+1=>zht k n++ [legF k n 0,legF k n 1]
noncomputable def zdK (gs:List (Str×List Int)):Nat→List Dat
 | 0=>[]
 | n+1=>zdK gs n++zht n ((gs[n]?.map fun g=>g.2.length).getD 0)
noncomputable def zcI (w:zat):List Dat:=zei (w.ins.toNat+w.gates.length)++zdK w.gates w.gates.length
noncomputable def zlk (i:Int):List Dat:=[.str "wire",.int i]
noncomputable def legP (k i:Int):List Dat:=[.str "leg",.int k,.int i]
noncomputable def zdb:Nat→List (List Dat)
 | 0=>[]
 | n+1=>zdb n++ [zlk n]
noncomputable def ze6 (k:Int):Nat→List (List Dat)
 | 0=>[]
 | n+1=>ze6 k n++ [legP k n]
noncomputable def zc7 (gs:List (Str×List Int)):Nat→List (List Dat)
 | 0=>[]
 | n+1=>zc7 gs n++ze6 n ((gs[n]?.map fun g=>g.2.length).getD 0)
noncomputable def zef (ps:List (List Dat)):List Dat:=ps.flatMap fun p=>[.tuple (p++ [.int 0]),.tuple (p++ [.int 1])]
theorem zct (a b:List (List Dat)):zef (a++b)=zef a++zef b:=by unfold zef;rw [List.flatMap_append]
theorem zez (p:List Dat):zef [p]= [.tuple (p++ [.int 0]),.tuple (p++ [.int 1])]:=by unfold zef;simp
theorem zgF:∀ n,zef (zdb n)=zei n
 | 0=>rfl
 | n+1=>by rw [zdb,zct,zgF n,zez,zei];rfl
theorem zhk (k:Int):∀ n,zef (ze6 k n)=zht k n
 | 0=>rfl
 | n+1=>by rw [ze6,zct,zhk k n,zez,zht];rfl
theorem zgQ (gs:List (Str×List Int)):∀ n,zef (zc7 gs n)=zdK gs n
 | 0=>rfl
 | n+1=>by rw [zc7,zct,zgQ gs n,zhk,zdK]
noncomputable def zbF (w:zat):List (List Dat):=zdb (w.ins.toNat+w.gates.length)++zc7 w.gates w.gates.length
theorem zc6 (w:zat):zef (zbF w)=zcI w:=by unfold zbF zcI;rw [zct,zgF,zgQ]
theorem zd2:∀ n,(zei n).length=2 * n
 | 0=>rfl
 | n+1=>by rw [zei,List.length_append,zd2 n];simp;omega
theorem zd5:∀ n,(zdb n).length=n
 | 0=>rfl
 | n+1=>by rw [zdb,List.length_append,zd5 n];simp
theorem zgH (k:Int):∀ n,(ze6 k n).length=n
 | 0=>rfl
 | n+1=>by rw [ze6,List.length_append,zgH k n];simp
theorem zgt (k:Int):∀ n,(zht k n).length=2 * n
 | 0=>rfl
 | n+1=>by rw [zht,List.length_append,zgt k n];simp;omega
theorem zjY {m:Nat}{w:zat}(h:WF m w)(n:Nat):(w.gates[n]?.map fun g=>g.2.length).getD 0≤4:=by
 cases e:w.gates[n]? with
 | none=>simp
 | some g=>simpa using (h.legs n g e).1.le
theorem ze1 {m:Nat}{w:zat}(h:WF m w):∀ n,(zc7 w.gates n).length≤4 * n
 | 0=>Nat.zero_le _
 | n+1=>by
  have:=ze1 h n
  have:=zjY h n
  rw [zc7,List.length_append,zgH]
  omega
theorem zg6 {m:Nat}{w:zat}(h:WF m w):∀ n,(zdK w.gates n).length≤8 * n
 | 0=>Nat.zero_le _
 | n+1=>by
  have:=zg6 h n
  have:=zjY h n
  rw [zdK,List.length_append,zgt]
  omega
theorem ziP:∀ ps:List (List Dat),(zef ps).length=2 * ps.length
 | []=>rfl
 | p::r=>by
  show (zef ([p]++r)).length=_
  rw [zct,zez,List.length_append,ziP r]
  simp
  omega
theorem zhl:∀ n p,p∈zdb n→∃ i,p=zlk i
 | 0,p,h=>nomatch h
 | n+1,p,h=>by
  rw [zdb] at h
  rcases List.mem_append.mp h with h | h
  ·exact zhl n p h
  ·exact ⟨_,List.mem_singleton.mp h⟩
theorem ziV (k:Int):∀ n p,p∈ze6 k n→∃ i,p=legP k i
 | 0,p,h=>nomatch h
 | n+1,p,h=>by
  rw [ze6] at h
  rcases List.mem_append.mp h with h | h
  ·exact ziV k n p h
  ·exact ⟨_,List.mem_singleton.mp h⟩
theorem zhi (gs:List (Str×List Int)):∀ n p,p∈zc7 gs n→∃ k i,p=legP k i
 | 0,p,h=>nomatch h
 | n+1,p,h=>by
  rw [zc7] at h
  rcases List.mem_append.mp h with h | h
  ·exact zhi gs n p h
  ·obtain ⟨i,e⟩:=ziV _ _ p h
   exact ⟨_,i,e⟩
theorem zfj {w:zat}{p:List Dat}(h:p∈zbF w):(∃ i,p=zlk i)∨∃ k i,p=legP k i:=by
 unfold zbF at h
 rcases List.mem_append.mp h with h | h
 ·exact .inl (zhl _ p h)
 ·exact .inr (zhi _ _ p h)
theorem zl5 {w:zat}{i:Nat}(h:(zbF w)[i]? =some []):False:=by
 rcases zfj (List.mem_of_getElem? h) with ⟨_,e⟩ | ⟨_,_,e⟩ <;> cases e
theorem zk9 {w:zat}{i:Nat}{p:List Dat}(h:(zbF w)[i]? =some p):p.length≤3:=by
 rcases zfj (List.mem_of_getElem? h) with ⟨_,e⟩ | ⟨_,_,e⟩ <;> (rw [e];simp [zlk,legP])
theorem zku {w:zat}{d:Dat}(h:d∈zcI w):(∃ i b,d=zmZ i b)∨∃ k i b,d=legF k i b:=by
 rw [← zc6] at h
 unfold zef at h
 obtain ⟨p,hp,hd⟩:=List.mem_flatMap.mp h
 rcases zfj hp with ⟨i,e⟩ | ⟨k,i,e⟩
 ·left
  rw [e] at hd
  rcases List.mem_cons.mp hd with e1 | hd
  ·exact ⟨i,0,e1⟩
  ·exact ⟨i,1,List.mem_singleton.mp hd⟩
 ·right
  rw [e] at hd
  rcases List.mem_cons.mp hd with e1 | hd
  ·exact ⟨k,i,0,e1⟩
  ·exact ⟨k,i,1,List.mem_singleton.mp hd⟩
theorem zjU {w:zat}{d:Dat}(n:Nat)(h:d∈zcI w):kqdOk (n+1) d=true:=by
 rcases zku h with ⟨i,b,e⟩ | ⟨k,i,b,e⟩
 ·rw [e]
  have:PyData.strOk "wire" =true:=by decide+kernel
  cases n <;> simp [zmZ,kqdOk,this]
 ·rw [e]
  have:PyData.strOk "leg" =true:=by decide+kernel
  cases n <;> simp [legF,kqdOk,this]
theorem zn7 (n:Nat)(ns:List Int):(ns.map Dat.int).all (kqdOk n)=true:=by
 refine List.all_eq_true.mpr fun d h=>?_
 obtain ⟨i,_,rfl⟩:=List.mem_map.mp h
 cases n <;> rfl
theorem za2 {K:PySem.W.Frag}{H:Hp}{w:zat}{x:V}(h:Rep K H x (zbl w)):
  ∃ a ga oa gs os,x= .ref a∧SqT K H a [.int w.ins,.ref ga,.ref oa]∧SqL K H ga gs∧SqL K H oa os∧Reps K H gs (w.gates.map zhA)∧Reps K H os (w.outs.map .int):=by
 unfold zbl at h
 cases h with
 | tup ha r=>
  cases r with
  | cons r1 r=>
   cases r with
   | cons r2 r=>
    cases r with
    | cons r3 r=>
     cases r
     cases r1
     cases r2 with
     | lst hg rg=>
      cases r3 with
      | lst ho ro=>exact ⟨_,_,_,_,_,rfl,ha,hg,ho,rg,ro⟩
theorem zel {K:PySem.W.Frag}{H:Hp}{g:Str×List Int}{x:V}(h:Rep K H x (zhA g)):
  ∃ a la,x= .ref a∧SqT K H a [.str g.1,.ref la]∧SqT K H la (g.2.map V.int):=by
 unfold zhA at h
 cases h with
 | tup ha r=>
  cases r with
  | cons r1 r=>
   cases r with
   | cons r2 r=>
    cases r
    cases r1
    cases r2 with
    | tup hl rl=>
     have e:∀ (xs:List V) (ns:List Int),Reps K H xs (ns.map Dat.int)→xs=ns.map V.int:=by
      intro xs ns
      induction ns generalizing xs with
      | nil=>intro z;cases z;rfl
      | cons m r ih=>
       intro z
       cases z with
       | cons z1 z2=>
        cases z1
        rw [ih _ z2]
        rfl
     rw [e _ _ rl] at hl
     exact ⟨_,_,rfl,ha,hl⟩
end My
namespace My
open PySem L2
noncomputable def Bits (ns:List Int):Prop:=∀ n∈ns,n=0∨n=1
noncomputable def zb0 (x:Str) (ns:List Int):Int:=
 if x="and" then (if ns.all (· ==1)=true then 1 else 0)
 else if x="or" then (if ns.any (· ==1)=true then 1 else 0)
 else if x="odd" then ns.sum % 2
 else if x="not" then 1 - ns.getD 0 0
 else if x="choose" then (if ns.getD 0 0=1 then ns.getD 1 0 else ns.getD 2 0)
 else if x="one" then 1 else 0
theorem n_oa:("or" :Str)≠"and" :=by decide+kernel
theorem n_da:("odd" :Str)≠"and" :=by decide+kernel
theorem n_do:("odd" :Str)≠"or" :=by decide+kernel
theorem n_na:("not" :Str)≠"and" :=by decide+kernel
theorem n_no:("not" :Str)≠"or" :=by decide+kernel
theorem n_nd:("not" :Str)≠"odd" :=by decide+kernel
theorem n_ca:("choose" :Str)≠"and" :=by decide+kernel
theorem n_co:("choose" :Str)≠"or" :=by decide+kernel
theorem n_cd:("choose" :Str)≠"odd" :=by decide+kernel
theorem n_cn:("choose" :Str)≠"not" :=by decide+kernel
theorem n_za:("zero" :Str)≠"and" :=by decide+kernel
theorem n_zo:("zero" :Str)≠"or" :=by decide+kernel
theorem n_zd:("zero" :Str)≠"odd" :=by decide+kernel
theorem n_zn:("zero" :Str)≠"not" :=by decide+kernel
theorem n_zc:("zero" :Str)≠"choose" :=by decide+kernel
theorem n_z1:("zero" :Str)≠"one" :=by decide+kernel
theorem n_1a:("one" :Str)≠"and" :=by decide+kernel
theorem n_1o:("one" :Str)≠"or" :=by decide+kernel
theorem n_1d:("one" :Str)≠"odd" :=by decide+kernel
theorem n_1n:("one" :Str)≠"not" :=by decide+kernel
theorem n_1c:("one" :Str)≠"choose" :=by decide+kernel
theorem zgu (ns:List Int):zb0 "and" ns=if ns.all (· ==1)=true then 1 else 0:=by unfold zb0;rw [if_pos rfl]
theorem zjy (ns:List Int):zb0 "or" ns=if ns.any (· ==1)=true then 1 else 0:=by unfold zb0;rw [if_neg n_oa,if_pos rfl]
theorem zgI (ns:List Int):zb0 "odd" ns=ns.sum % 2:=by unfold zb0;rw [if_neg n_da,if_neg n_do,if_pos rfl]
theorem zk2 (ns:List Int):zb0 "not" ns=1 - ns.getD 0 0:=by unfold zb0;rw [if_neg n_na,if_neg n_no,if_neg n_nd,if_pos rfl]
theorem zgx (ns:List Int):zb0 "choose" ns=if ns.getD 0 0=1 then ns.getD 1 0 else ns.getD 2 0:=by unfold zb0;rw [if_neg n_ca,if_neg n_co,if_neg n_cd,if_neg n_cn,if_pos rfl]
theorem zjg (ns:List Int):zb0 "zero" ns=0:=by unfold zb0;rw [if_neg n_za,if_neg n_zo,if_neg n_zd,if_neg n_zn,if_neg n_zc,if_neg n_z1]
theorem zlu (ns:List Int):zb0 "one" ns=1:=by unfold zb0;rw [if_neg n_1a,if_neg n_1o,if_neg n_1d,if_neg n_1n,if_neg n_1c,if_pos rfl]
theorem zoa {ns:List Int}{M:Int}(b:Bits ns)(h:M∈ns)(hle:∀ a∈ns,M≤a):M=zb0 "and" ns:=by
 rw [zgu]
 rcases b M h with e | e
 ·rw [if_neg]
  ·exact e
  ·intro z
   have:=List.all_eq_true.mp z M h
   simp [e] at this
 ·rw [if_pos]
  ·exact e
  ·refine List.all_eq_true.mpr fun a ha=>?_
   have:=hle a ha
   rcases b a ha with q | q
   ·omega
   ·simp [q]
theorem max_or {ns:List Int}{M:Int}(b:Bits ns)(h:M∈ns)(hle:∀ a∈ns,a≤M):M=zb0 "or" ns:=by
 rw [zjy]
 rcases b M h with e | e
 ·rw [if_neg]
  ·exact e
  ·intro z
   obtain ⟨a,ha,q⟩:=List.any_eq_true.mp z
   have:=hle a ha
   have q:a=1:=by simpa using q
   omega
 ·rw [if_pos]
  ·exact e
  ·exact List.any_eq_true.mpr ⟨M,h,by simp [e]⟩
theorem zbD {ns:List Int}(b:Bits ns){i:Nat}(h:i < ns.length):ns.getD i 0=0∨ns.getD i 0=1:=by
 rw [List.getD_eq_getElem?_getD,List.getElem?_eq_getElem h]
 exact b _ (List.getElem_mem h)
theorem zda {x:Str}{ns:List Int}(b:Bits ns)(h:zbJ x ns.length):zb0 x ns=0∨zb0 x ns=1:=by
 rcases h with ⟨h | h | h,l1,l2⟩ | ⟨h,l1⟩ | ⟨h,l1⟩ | ⟨h | h,l1⟩
 ·rw [h,zgu];split <;> simp
 ·rw [h,zjy];split <;> simp
 ·rw [h,zgI];omega
 ·rw [h,zk2]
  have:=zbD b (i:=0) (by omega)
  omega
 ·rw [h,zgx]
  split
  ·exact zbD b (i:=1) (by omega)
  ·exact zbD b (i:=2) (by omega)
 ·rw [h,zjg];simp
 ·rw [h,zlu];simp
noncomputable def zcD (gs:List (Str×List Int)) (row:List Int):Nat→List Int
 | 0=>row
 | n+1=>zcD gs row n++ [match gs[n]? with
   | some g=>zb0 g.1 (g.2.map fun l=>(zcD gs row n).getD l.toNat 0)
   | none=>0]
theorem zd9 (gs:List (Str×List Int))(row:List Int):∀ n,(zcD gs row n).length=row.length+n
 | 0=>rfl
 | n+1=>by rw [zcD,List.length_append,zd9 gs row n];simp;omega
theorem zeq {m:Nat}{w:zat}{row:List Int}(wf:WF m w)(hl:(row.length:Int)=w.ins)(b:Bits row):∀ n,n≤w.gates.length→Bits (zcD w.gates row n)
 | 0,_=>b
 | n+1,h=>by
  have ih:=zeq wf hl b n (by omega)
  obtain ⟨g,hg⟩:∃ g,w.gates[n]? =some g:=⟨_,List.getElem?_eq_getElem (by omega)⟩
  rw [zcD,hg]
  intro z hz
  rcases List.mem_append.mp hz with hz | hz
  ·exact ih z hz
  ·rw [List.mem_singleton.mp hz]
   obtain ⟨l1,l2⟩:=wf.legs n g hg
   refine zda (fun y hy=>?_) (by rw [List.length_map];exact l1)
   obtain ⟨l,hl',rfl⟩:=List.mem_map.mp hy
   have:=l2 l hl'
   exact zbD ih (by rw [zd9];omega)
theorem ifY {x y:Str}{A B:Prop}(h:x=y)(a:A):if (decide (V.str x=V.str y))=true then A else B:=by rw [if_pos (decide_eq_true (by rw [h]))];exact a
theorem ifN {x y:Str}{A B:Prop}(h:x≠y)(b:B):if (decide (V.str x=V.str y))=true then A else B:=by rw [if_neg (by rw [decide_eq_true_eq];intro z;exact h (V.str.inj z))];exact b
theorem zb1 {ns:List Int}{i:Int}(h0: 0≤i)(h1:i < ns.length):atI (ns.map V.int) i=some (.int (ns.getD i.toNat 0)):=by
 have e:i=((i.toNat:Nat):Int):=by omega
 have hk:i.toNat < ns.length:=by omega
 have q:atI (ns.map V.int) ((i.toNat:Nat):Int)=some (.int ns[i.toNat]):=zdg (by rw [List.getElem?_map,List.getElem?_eq_getElem hk] <;> rfl)
 rw [← e] at q
 rw [q,List.getD_eq_getElem?_getD,List.getElem?_eq_getElem hk]
 rfl
end My
namespace My
open PySem L2
open PySem.W (Dat kqdP kqdPs kqdOk)
noncomputable def zaI:Nat→List (List Int)
 | 0=>[[]]
 | n+1=>(zaI n).map (0:: ·)++(zaI n).map (1:: ·)
theorem zdk:∀ n,(zaI n).length=2 ^ n
 | 0=>rfl
 | n+1=>by rw [zaI,List.length_append,List.length_map,List.length_map,zdk n,Nat.pow_succ];omega
theorem zar:∀ n r,r∈zaI n→r.length=n∧Bits r
 | 0,r,h=>by
  rw [List.mem_singleton.mp h]
  exact ⟨rfl,fun _ z=>nomatch z⟩
 | n+1,r,h=>by
  rcases List.mem_append.mp h with h | h
  ·obtain ⟨u,hu,rfl⟩:=List.mem_map.mp h
   obtain ⟨a,b⟩:=zar n u hu
   exact ⟨by rw [List.length_cons,a],fun z hz=>by
    rcases List.mem_cons.mp hz with e | e
    ·exact .inl e
    ·exact b z e⟩
  ·obtain ⟨u,hu,rfl⟩:=List.mem_map.mp h
   obtain ⟨a,b⟩:=zar n u hu
   exact ⟨by rw [List.length_cons,a],fun z hz=>by
    rcases List.mem_cons.mp hz with e | e
    ·exact .inr e
    ·exact b z e⟩
theorem zj0 {n:Nat}(h:n≤6):(zaI n).length≤64:=by
 rw [zdk]
 exact Nat.pow_le_pow_right (n:=2) (by decide) h
inductive At (H:Hp):List Addr→List (List Int)→Prop
 | nil:At H [] []
 | cons {q:Addr} {r:List Int} {qs:List Addr} {rs:List (List Int)}:H q=some (.lst (r.map V.int))→At H qs rs→At H (q::qs) (r::rs)
section
variable {K:PySem.W.Frag} {H H':Hp} {qs qs':List Addr} {rs rs':List (List Int)}
theorem At.mono (s:Same H H')(h:At H qs rs):At H' qs rs:=by
 induction h with
 | nil=>exact .nil
 | cons e _ ih=>exact .cons (s _ _ e) ih
theorem At.append (h:At H qs rs)(h':At H qs' rs'):At H (qs++qs') (rs++rs'):=by
 induction h with
 | nil=>exact h'
 | cons e _ ih=>exact .cons e ih
theorem At.len (h:At H qs rs):qs.length=rs.length:=by
 induction h with
 | nil=>rfl
 | cons e _ ih=>rw [List.length_cons,List.length_cons,ih]
theorem At.get (h:At H qs rs):∀ {i:Nat} {q:Addr},qs[i]? =some q→∃ r,rs[i]? =some r∧H q=some (.lst (r.map V.int)):=by
 induction h with
 | nil=>intro i q e;cases e
 | cons e _ ih=>
  intro i q z
  cases i with
  | zero=>cases z;exact ⟨_,rfl,e⟩
  | succ i=>exact ih z
theorem At.here (h:At H qs rs){q:Addr}(m:q∈qs):∃ r∈rs,H q=some (.lst (r.map V.int)):=by
 obtain ⟨i,hi⟩:=List.getElem?_of_mem m
 obtain ⟨r,a,b⟩:=h.get hi
 exact ⟨r,List.mem_of_getElem? a,b⟩
theorem At.write {p:Addr}{o:HO}(n:p∉qs)(h:At H qs rs):At (upd H p o) qs rs:=by
 induction h with
 | nil=>exact .nil
 | cons e _ ih=>
  refine .cons ?_ (ih fun z=>n (.tail _ z))
  rename_i q0 _ _ _ _
  have hne:q0≠p:=fun z=>n (by rw [z];exact .head _)
  rw [zam hne]
  exact e
end
structure Rows (H0:Hp) (R:Addr) (qs:List Addr) (rs:List (List Int)) (H:Hp):Prop where
 same:Same H0 H
 out:H0 R=none
 at_:H R=some (.lst (qs.map V.ref))
 rows:At H qs rs
 nd:qs.Nodup
 new:∀ q∈qs,H0 q=none∧q≠R
section
variable {K:PySem.W.Frag} {H0 H H1 H2:Hp} {R D D1 D2 T q:Addr} {qs qs1 qs2:List Addr} {rs rs1 rs2:List (List Int)}
theorem Rows.start (s:Same H0 H)(h:H D=none):Rows H0 D [] [] (upd H D (.lst [])):=⟨s.upd h _,s.free h,zab,.nil,.nil,fun _ z=>nomatch z⟩
theorem Rows.sq (b:Rows H0 R qs rs H):SqL K H R (qs.map V.ref):=.of b.at_
theorem Rows.push {o:HO}{r:List Int}{vs:List V}(b:Rows H0 D qs rs H)(hT:H T=none)(hq:upd H T o q=none)(e:vs=r.map V.int):
  Rows H0 D (qs++ [q]) (rs++ [r]) (upd (upd (upd H T o) q (.lst vs)) D (.lst (qs.map V.ref++ [.ref q]))):=by
 subst e
 have s1:Same H (upd (upd H T o) q (.lst (r.map V.int))):=(zae hT _).upd hq _
 have q0:H q=none:=(zae hT o).free hq
 have qD:q≠D:=Ne.symm (zap b.at_ q0)
 have nq:q∉qs:=fun z=>by
  obtain ⟨r,_,e⟩:=b.rows.here z
  rw [q0] at e
  cases e
 refine ⟨(b.same.trans s1).write b.out _,b.out,by rw [zab,List.map_append];rfl,?_,?_,fun z hz=>?_⟩
 ·refine At.write (fun z=>?_) (At.append (b.rows.mono s1) (.cons zab .nil))
  rcases List.mem_append.mp z with z | z
  ·exact (b.new D z).2 rfl
  ·exact qD (List.mem_singleton.mp z).symm
 ·refine List.nodup_append.mpr ⟨b.nd,List.nodup_cons.mpr ⟨(fun z=>nomatch z),List.nodup_nil⟩,fun x hx y hy e=>?_⟩
  rw [List.mem_singleton.mp hy] at e
  exact nq (e ▸ hx)
 ·rcases List.mem_append.mp hz with hz | hz
  ·exact b.new z hz
  ·rw [List.mem_singleton.mp hz]
   exact ⟨b.same.free q0,qD⟩
theorem Rows.cat (a:Rows H0 D1 qs1 rs1 H1)(b:Rows H1 D2 qs2 rs2 H2)(h:H2 R=none):Rows H0 R (qs1++qs2) (rs1++rs2) (upd H2 R (.lst (qs1.map V.ref++qs2.map V.ref))):=by
 have s:=a.same.trans b.same
 have t:At H2 (qs1++qs2) (rs1++rs2):=(a.rows.mono b.same).append b.rows
 refine ⟨s.upd h _,s.free h,by rw [zab,List.map_append],t.mono (zae h _),?_,fun q hq=>?_⟩
 ·refine List.nodup_append.mpr ⟨a.nd,b.nd,fun x hx y hy e=>?_⟩
  subst e
  obtain ⟨r,_,e⟩:=a.rows.here hx
  rw [(b.new x hy).1] at e
  cases e
 ·refine ⟨?_,fun e=>?_⟩
  ·rcases List.mem_append.mp hq with hq | hq
   ·exact (a.new q hq).1
   ·exact a.same.free (b.new q hq).1
  ·obtain ⟨r,_,z⟩:=t.here hq
   rw [e,h] at z
   cases z
end
theorem zdr {K:PySem.W.Frag}{H:Hp}:∀ {xs:List V} {ns:List Int},Reps K H xs (ns.map Dat.int)→xs=ns.map V.int
 | _,[],h=>by cases h;rfl
 | _,n::ns,h=>by
  cases h with
  | cons h1 h2=>
   cases h1
   rw [zdr h2]
   rfl
noncomputable def zaQ (w:zat) (ws:List Int):List Int:=w.outs.map fun o=>ws.getD o.toNat 0
theorem zhR {r:List Int}{rs:List (List Int)}{j:Nat}(f:List Int→List Int)(h:rs[j]? =some r):(rs.take (j+1)).map f=(rs.take j).map f++ [f r]:=by
 rw [List.take_add_one,h,List.map_append]
 rfl
end My
namespace My
open PySem L2
open PySem.W (Dat kqdP kqdPs kqdOk)
theorem zf4 (ns:List Int):kqdOk 8 (.list (ns.map Dat.int))=true:=zn7 7 ns
theorem zmA (ns:List Int)(lo hi:Option Int):∃ ms:List Int,cutV (ns.map V.int) lo hi=ms.map V.int∧ms.length≤ns.length:=by
 refine ⟨(ns.drop (HT.sIx (ns.map V.int).length 0 lo)).take (HT.sIx (ns.map V.int).length (ns.map V.int).length hi - HT.sIx (ns.map V.int).length 0 lo),?_,?_⟩
 ·unfold cutV
  rw [List.map_take,List.map_drop]
 ·rw [List.length_take,List.length_drop]
  omega
end My
namespace My
open PySem L2
open PySem.W (Dat kqdP kqdPs kqdOk)
structure Flt where
 place:List Key
 worth:Int
noncomputable def kD:Key→Dat
 | .inl n=>.int n
 | .inr s=>.str s
noncomputable def fltD (f:Flt):Dat:=.tuple (f.place.map kD++ [.int f.worth])
noncomputable def zbn (i:Int):List Key:=[Sum.inr "wire",Sum.inl i]
noncomputable def legK (k i:Int):List Key:=[Sum.inr "leg",Sum.inl k,Sum.inl i]
noncomputable def zg5:Nat→List (List Key)
 | 0=>[]
 | n+1=>zg5 n++ [zbn n]
noncomputable def zkT (k:Int):Nat→List (List Key)
 | 0=>[]
 | n+1=>zkT k n++ [legK k n]
noncomputable def zhp (gs:List (Str×List Int)):Nat→List (List Key)
 | 0=>[]
 | n+1=>zhp gs n++zkT n ((gs[n]?.map fun g=>g.2.length).getD 0)
noncomputable def zjr (w:zat):List (List Key):=zg5 (w.ins.toNat+w.gates.length)++zhp w.gates w.gates.length
theorem zke:∀ n,(zg5 n).map (·.map kD)=zdb n
 | 0=>rfl
 | n+1=>by rw [zg5,List.map_append,zke n,zdb];rfl
theorem zmo (k:Int):∀ n,(zkT k n).map (·.map kD)=ze6 k n
 | 0=>rfl
 | n+1=>by rw [zkT,List.map_append,zmo k n,ze6];rfl
theorem zj9 (gs:List (Str×List Int)):∀ n,(zhp gs n).map (·.map kD)=zc7 gs n
 | 0=>rfl
 | n+1=>by rw [zhp,List.map_append,zj9 gs n,zc7,zmo]
theorem zil (w:zat):(zjr w).map (·.map kD)=zbF w:=by unfold zjr zbF;rw [List.map_append,zke,zj9]
theorem zfi:∀ {n:Nat} {p:List Key},p∈zg5 n→∃ i:Nat,i < n∧p=zbn i
 | n+1,p,h=>by
  rcases List.mem_append.mp h with h | h
  ·obtain ⟨i,a,b⟩:=zfi h
   exact ⟨i,by omega,b⟩
  ·exact ⟨n,by omega,List.mem_singleton.mp h⟩
theorem zgB:∀ {n i:Nat},i < n→zbn i∈zg5 n
 | n+1,i,h=>by
  by_cases e:i=n
  ·subst e
   exact List.mem_append.mpr (.inr (List.mem_singleton.mpr rfl))
  ·exact List.mem_append.mpr (.inl (zgB (by omega)))
theorem zh8 {k:Int}:∀ {n:Nat} {p:List Key},p∈zkT k n→∃ i:Nat,i < n∧p=legK k i
 | n+1,p,h=>by
  rcases List.mem_append.mp h with h | h
  ·obtain ⟨i,a,b⟩:=zh8 h
   exact ⟨i,by omega,b⟩
  ·exact ⟨n,by omega,List.mem_singleton.mp h⟩
theorem zjI {k:Int}:∀ {n i:Nat},i < n→legK k i∈zkT k n
 | n+1,i,h=>by
  by_cases e:i=n
  ·subst e
   exact List.mem_append.mpr (.inr (List.mem_singleton.mpr rfl))
  ·exact List.mem_append.mpr (.inl (zjI (by omega)))
theorem ze7 {gs:List (Str×List Int)}:∀ {n:Nat} {p:List Key},p∈zhp gs n→∃ k i:Nat,k < n∧i < ((gs[k]?.map fun g=>g.2.length).getD 0)∧p=legK k i
 | n+1,p,h=>by
  rcases List.mem_append.mp h with h | h
  ·obtain ⟨k,i,a,b,c⟩:=ze7 h
   exact ⟨k,i,by omega,b,c⟩
  ·obtain ⟨i,a,b⟩:=zh8 h
   exact ⟨n,i,by omega,a,b⟩
theorem zga {gs:List (Str×List Int)}:∀ {n k i:Nat},k < n→i < ((gs[k]?.map fun g=>g.2.length).getD 0)→legK k i∈zhp gs n
 | n+1,k,i,h,hi=>by
  by_cases e:k=n
  ·subst e
   exact List.mem_append.mpr (.inr (zjI hi))
  ·exact List.mem_append.mpr (.inl (zga (by omega) hi))
theorem zcx {i j:Int}(h:zbn i=zbn j):i=j:=by
 unfold zbn at h
 injection h with _ h
 injection h with h
 exact Sum.inl.inj h
theorem zea {k l i j:Int}(h:legK k i=legK l j):k=l∧i=j:=by
 unfold legK at h
 injection h with _ h
 injection h with h1 h
 injection h with h
 exact ⟨Sum.inl.inj h1,Sum.inl.inj h⟩
theorem zbk {i k j:Int}(h:zbn i=legK k j):False:=by
 have:=congrArg List.length h
 exact absurd this (by show ¬(2:Nat)=3;decide)
theorem zkU {α :Type}{xs:List α}{x: α}(h:xs.Nodup)(n:x∉xs):(xs++ [x]).Nodup:=
 List.nodup_append.mpr ⟨h,List.nodup_cons.mpr ⟨(fun z=>nomatch z),List.nodup_nil⟩,fun a ha b hb e=>n (by rw [← List.mem_singleton.mp hb,← e];exact ha)⟩
noncomputable def zb2 (w:zat) (f:Flt):Prop:=f.place∈zjr w∧(f.worth=0∨f.worth=1)
theorem zjD {w:zat}{f:Flt}(h:zb2 w f):fltD f∈zcI w:=by
 rw [← zc6,← zil]
 unfold zef
 refine List.mem_flatMap.mpr ⟨f.place.map kD,List.mem_map.mpr ⟨_,h.1,rfl⟩,?_⟩
 unfold fltD
 rcases h.2 with e | e
 ·rw [e];exact .head _
 ·rw [e];exact .tail _ (.head _)
noncomputable def zcu (fs:List Flt):Prop:=(fs.map (·.place)).Nodup
noncomputable def tabV (fs:List Flt):List (List Key×V):=fs.map fun f=>(f.place,V.int f.worth)
noncomputable def look (fs:List Flt) (p:List Key):Option Int:=(fs.find? fun f=>decide (f.place=p)).map (·.worth)
noncomputable def pick (fs:List Flt) (p:List Key) (v:Int):Int:=(look fs p).getD v
theorem zen (p:List Key):∀ fs:List Flt,valV (tabV fs) p=(look fs p).map V.int
 | []=>rfl
 | f::fs=>by
  show valV ((f.place,V.int f.worth)::tabV fs) p=_
  unfold look
  by_cases e:f.place=p
  ·rw [zfT e,List.find?_cons_of_pos (by simpa using e)]
   rfl
  ·rw [zfZ e,List.find?_cons_of_neg (by simpa using e),zen p fs]
   rfl
theorem zd1 (fs:List Flt)(p:List Key)(v:Int):(valV (tabV fs) p).getD (.int v)= .int (pick fs p v):=by
 rw [zen]
 unfold pick
 cases look fs p <;> rfl
theorem zdP {fs:List Flt}{p:List Key}(h:p∉fs.map (·.place)):look fs p=none:=by
 unfold look
 rw [List.find?_eq_none.mpr]
 ·rfl
 ·intro f hf z
  exact h (List.mem_map.mpr ⟨f,hf,of_decide_eq_true z⟩)
theorem zmL {fs:List Flt}{p:List Key}{b:Int}(h:look fs p=some b):⟨p,b⟩∈fs:=by
 unfold look at h
 obtain ⟨f,hf,rfl⟩:=Option.map_eq_some_iff.mp h
 have e0:=List.find?_some hf
 have e:f.place=p:=by simpa using e0
 rw [← e]
 exact List.mem_of_find?_eq_some hf
theorem zf3 {fs:List Flt}{p:List Key}{v:Int}(hb:∀ f∈fs,f.worth=0∨f.worth=1)(hv:v=0∨v=1):pick fs p v=0∨pick fs p v=1:=by
 unfold pick
 cases e:look fs p with
 | none=>exact hv
 | some b=>exact hb _ (zmL e)
noncomputable def zcS (fs:List Flt) (k:Int) (ns:List Int):List Int:=ns.mapIdx fun i v=>pick fs (legK k i) v
noncomputable def rowS (fs:List Flt) (ns:List Int):List Int:=ns.mapIdx fun i v=>pick fs (zbn i) v
noncomputable def zan (fs:List Flt) (gs:List (Str×List Int)) (row:List Int):Nat→List Int
 | 0=>rowS fs row
 | n+1=>zan fs gs row n++ [pick fs (zbn ((row.length+n:Nat):Int)) (match gs[n]? with
   | some g=>zb0 g.1 (zcS fs n (g.2.map fun l=>(zan fs gs row n).getD l.toNat 0))
   | none=>0)]
theorem zfX (fs:List Flt)(ns:List Int):(rowS fs ns).length=ns.length:=by unfold rowS;rw [List.length_mapIdx]
theorem zdu (fs:List Flt)(k:Int)(ns:List Int):(zcS fs k ns).length=ns.length:=by unfold zcS;rw [List.length_mapIdx]
theorem ziI (fs:List Flt)(ns:List Int)(v:Int):rowS fs (ns++ [v])=rowS fs ns++ [pick fs (zbn ns.length) v]:=by unfold rowS;rw [List.mapIdx_concat]
theorem zho (fs:List Flt)(k:Int)(ns:List Int)(v:Int):zcS fs k (ns++ [v])=zcS fs k ns++ [pick fs (legK k ns.length) v]:=by unfold zcS;rw [List.mapIdx_concat]
theorem zbZ (fs:List Flt)(gs:List (Str×List Int))(row:List Int):∀ n,(zan fs gs row n).length=row.length+n
 | 0=>zfX fs row
 | n+1=>by rw [zan,List.length_append,zbZ fs gs row n];simp;omega
theorem zmg {fs:List Flt}(hb:∀ f∈fs,f.worth=0∨f.worth=1){ns:List Int}(b:Bits ns):Bits (rowS fs ns):=by
 intro z hz
 unfold rowS at hz
 obtain ⟨i,h,e⟩:=List.mem_mapIdx.mp hz
 rw [← e]
 exact zf3 hb (b _ (List.getElem_mem h))
theorem zfl {fs:List Flt}(hb:∀ f∈fs,f.worth=0∨f.worth=1){k:Int}{ns:List Int}(b:Bits ns):Bits (zcS fs k ns):=by
 intro z hz
 unfold zcS at hz
 obtain ⟨i,h,e⟩:=List.mem_mapIdx.mp hz
 rw [← e]
 exact zf3 hb (b _ (List.getElem_mem h))
theorem zcX {fs:List Flt}(hb:∀ f∈fs,f.worth=0∨f.worth=1){m:Nat}{w:zat}{row:List Int}(wf:WF m w)(hl:(row.length:Int)=w.ins)(b:Bits row):∀ n,n≤w.gates.length→Bits (zan fs w.gates row n)
 | 0,_=>zmg hb b
 | n+1,h=>by
  have ih:=zcX hb wf hl b n (by omega)
  obtain ⟨g,hg⟩:∃ g,w.gates[n]? =some g:=⟨_,List.getElem?_eq_getElem (by omega)⟩
  rw [zan,hg]
  intro z hz
  rcases List.mem_append.mp hz with hz | hz
  ·exact ih z hz
  ·rw [List.mem_singleton.mp hz]
   obtain ⟨l1,l2⟩:=wf.legs n g hg
   refine zf3 hb (zda (zfl hb fun y hy=>?_) (by rw [zdu,List.length_map];exact l1))
   obtain ⟨l,hl',rfl⟩:=List.mem_map.mp hy
   have:=l2 l hl'
   exact zbD ih (by rw [zbZ];omega)
theorem zm6 (p:List Key)(v:Int):pick [] p v=v:=rfl
theorem zmQ (ns:List Int):rowS [] ns=ns:=by
 unfold rowS
 refine List.ext_getElem? fun i=>?_
 rw [List.getElem?_mapIdx]
 cases ns[i]? <;> rfl
theorem zld (k:Int)(ns:List Int):zcS [] k ns=ns:=by
 unfold zcS
 refine List.ext_getElem? fun i=>?_
 rw [List.getElem?_mapIdx]
 cases ns[i]? <;> rfl
theorem ze4 (gs:List (Str×List Int))(row:List Int):∀ n,zan [] gs row n=zcD gs row n
 | 0=>zmQ row
 | n+1=>by
  rw [zan,zcD,ze4 gs row n,zm6]
  cases gs[n]? with
  | none=>rfl
  | some g=>simp only [zld]
theorem zgs {K:PySem.W.Frag}{H:Hp}{b:Int}:∀ {ks:List Key} {vs:List V},Reps K H vs (ks.map kD++ [.int b])→vs=ks.map kV++ [.int b]
 | [],_,h=>by
  cases h with
  | cons h1 h2=>cases h1;cases h2;rfl
 | .inl n::ks,_,h=>by
  cases h with
  | cons h1 h2=>cases h1;rw [zgs h2];rfl
 | .inr n::ks,_,h=>by
  cases h with
  | cons h1 h2=>cases h1;rw [zgs h2];rfl
theorem zgG {K:PySem.W.Frag}{H:Hp}{b:Int}:∀ (ks:List Key),Reps K H (ks.map kV++ [.int b]) (ks.map kD++ [.int b])
 | []=>.cons (.int _) .nil
 | .inl n::ks=>.cons (.int _) (zgG ks)
 | .inr n::ks=>.cons (.str _) (zgG ks)
theorem ziS {K:PySem.W.Frag}{H:Hp}{f:Flt}{x:V}(h:Rep K H x (fltD f)):∃ a,x= .ref a∧SqT K H a (f.place.map kV++ [.int f.worth]):=by
 unfold fltD at h
 cases h with
 | tup ha r=>exact ⟨_,rfl,by rw [← zgs r];exact ha⟩
theorem zlb {K:PySem.W.Frag}{H:Hp}{f:Flt}{a:Addr}(h:SqT K H a (f.place.map kV++ [.int f.worth])):Rep K H (.ref a) (fltD f):=.tup h (zgG _)
theorem zeJ (xs:List V)(v:V):cutV (xs++ [v]) none (some (-1))=xs:=by
 have e1:HT.sIx (xs++ [v]).length 0 none=0:=rfl
 have e2:HT.sIx (xs++ [v]).length (xs++ [v]).length (some (-1))=xs.length:=by
  simp only [HT.sIx,List.length_append,List.length_singleton]
  rw [if_pos (by decide)]
  omega
 unfold cutV
 rw [e1,e2]
 simp
theorem zf1 (xs:List V)(v:V):¬(HT.sIx (xs++ [v]).length 0 none=0∧HT.sIx (xs++ [v]).length (xs++ [v]).length (some (-1))=(xs++ [v]).length):=by
 rintro ⟨_,z⟩
 simp only [HT.sIx,List.length_append,List.length_singleton] at z
 rw [if_pos (by decide)] at z
 omega
theorem zjn (xs:List V)(v:V):atI (xs++ [v]) (-1)=some v:=by
 unfold atI ixN
 have e:((-1:Int)+((xs++ [v]).length:Nat)).toNat=xs.length:=by rw [List.length_append,List.length_singleton];omega
 rw [if_neg (by decide),if_pos (by rw [List.length_append,List.length_singleton];omega),e]
 simp
end My
namespace My
open PySem L2
open PySem.W (Dat kqdP kqdPs kqdOk)
structure zj7 (K:PySem.W.Frag) (w:zat) (most:Nat) (G:Hp) (v:V) (fs:List Flt):Prop where
 rep:Rep K G v (.list (fs.map fltD))
 good:∀ f∈fs,zb2 w f
 apart:zcu fs
 few:fs.length≤most
theorem zj7.mono {K:PySem.W.Frag}{w:zat}{most:Nat}{G G':Hp}{v:V}{fs:List Flt}(h:zj7 K w most G v fs)(s:Same G G'):zj7 K w most G' v fs:=⟨h.rep.mono s,h.good,h.apart,h.few⟩
theorem zkR {H H':Hp}(s:Same H H'){xs:List V}{kvs:List (List Key×V)}(h:zfe H xs kvs):zfe H' xs kvs:=Paired.mapP h fun _ _ ⟨p,kt,e,h1,h2⟩=>⟨p,kt,e,s _ _ h1,h2.same s⟩
theorem zje {H:Hp}{D:Addr}{l:List V}{o:HO}(hD:H D=some (.lst l)){xs:List V}{kvs:List (List Key×V)}(h:zfe H xs kvs):zfe (upd H D o) xs kvs:=Paired.mapP h fun _ _ ⟨p,kt,e,h1,h2⟩=>
 ⟨p,kt,e,by rw [zam (zmW h1 hD (fun z=>nomatch z))];exact h1,h2.write hD⟩
theorem zib:∀ (fs gs:List Flt),zcu (gs++fs)→zfD (tabV gs) (tabV fs)=tabV (gs++fs)
 | [],gs,_=>by rw [List.append_nil];rfl
 | f::fs,gs,h=>by
  have nl:look gs f.place=none:=zdP fun z=>by
   unfold zcu at h
   rw [List.map_append] at h
   exact (List.nodup_append.mp h).2.2 _ z _ (List.mem_map.mpr ⟨f,.head _,rfl⟩) rfl
  have nv:valV (tabV gs) f.place=none:=by rw [zen,nl];rfl
  show zfD (putK (tabV gs) f.place (V.int f.worth)) (tabV fs)=_
  rw [zhD _ nv]
  have e:tabV gs++ [(f.place,V.int f.worth)]=tabV (gs++ [f]):=by unfold tabV;rw [List.map_append];rfl
  rw [e,zib fs (gs++ [f]) (by rw [List.append_assoc];exact h),List.append_assoc]
  rfl
end My
namespace L2
end L2
namespace My
open PySem L2
open PySem.W (Dat kqdP kqdPs kqdOk)
end My
namespace My
open PySem L2
open PySem.W (Dat kqdP kqdPs kqdOk)
theorem zeb {K:PySem.W.Frag}{H:Hp}:∀ (ks:List Key),Reps K H (ks.map kV) (ks.map kD)
 | []=>.nil
 | .inl n::ks=>.cons (.int _) (zeb ks)
 | .inr n::ks=>.cons (.str _) (zeb ks)
theorem zn9 (n:Nat){ks:List Key}(h:∀ s,Sum.inr s∈ks→PyData.strOk s=true):kqdOk (n+1) (.tuple (ks.map kD))=true:=by
 show (ks.map kD).all (kqdOk n)=true
 refine List.all_eq_true.mpr fun d hd=>?_
 obtain ⟨k,hk,rfl⟩:=List.mem_map.mp hd
 cases k with
 | inl i=>cases n <;> rfl
 | inr s=>cases n <;> exact h s hk
theorem zoy:PyData.strOk "wire" =true:=by decide+kernel
theorem ok_leg:PyData.strOk "leg" =true:=by decide+kernel
theorem zme {w:zat}{f:Flt}(h:zb2 w f){s:Str}(hs:Sum.inr s∈f.place):PyData.strOk s=true:=by
 rcases List.mem_append.mp h.1 with h | h
 ·obtain ⟨i,_,e⟩:=zfi h
  rw [e] at hs
  rcases List.mem_cons.mp hs with e | hs
  ·rw [Sum.inr.inj e];exact zoy
  ·exact nomatch List.mem_singleton.mp hs
 ·obtain ⟨k,i,_,_,e⟩:=ze7 h
  rw [e] at hs
  rcases List.mem_cons.mp hs with e | hs
  ·rw [Sum.inr.inj e];exact ok_leg
  ·rcases List.mem_cons.mp hs with e | hs
   ·exact nomatch e
   ·exact nomatch List.mem_singleton.mp hs
theorem zjN {w:zat}{f:Flt}(h:zb2 w f)(n:Nat):kqdOk (n+1) (.tuple (f.place.map kD))=true:=zn9 n fun s hs=>zme h hs
end My
namespace My
open PySem L2
open PySem.W (Dat kqdP kqdPs kqdOk)
noncomputable abbrev Gts:=List (Str×List Int)
section
variable {ins:Int} {gl:Gts} {row:List Int} {w:Int} {x:Str} {ls:List Int}
end
section
variable {ins n0:Int} {gl:Gts} {ss:List Int} {one other b l r:Int}
end
section
variable {K:PySem.W.Frag} {M:List Addr} {m D T:Addr} {ins:Int} {gl:Gts} {G H:Hp} {o:HO}
end
end My
namespace My
open PySem L2
end My
namespace My
open PySem L2
open PySem.W (Dat kqdP kqdPs kqdOk)
noncomputable def sh (W l:Int):Int:=l+(if W≤l then 1 else 0)
noncomputable def turned (W:Int) (g p n:Nat) (ls:List Int):List Int:=if n=g then (ls.map (sh W)).set p W else ls.map (sh W)
end My
namespace L2
end L2
namespace L2
open PySem PySem.Spec PyProof.Rows
section
variable {P:Program} {w:World} {C:Value} {M:Model} {A:Around} {env:Env} {outer:List Env} {L:Addr} {H:Hp} {s s':Shared} {E:XK} {e:Value} {base:Heap} {E1:Value→Shared→Prop}
end
section
variable {P:Program} {w:World} {M:Model} {A:Around} {env:Env} {outer:List Env} {L C x:Addr} {H:Hp} {s:Shared} {E:XK} {base h':Heap} {E1:Value→Shared→Prop} {us:List Value}
end
section
variable {X:Cx} {C:Addr} {E:XK} {B nid iid:String} {bB:List Value} {x:Str} {np cpos pos:Pos} {e:Expr} {es:List Expr} {t:TA}
end
section
variable {P:Program} {w:World} {K:PySem.W.Frag} {mg:Str→Option Value} {base:Heap} {N:List Str} {qual:Str} {scope:Scope} {f C:Addr} {cd:Value} {A:Around} {outer:List Env} {s:Shared} {H:Hp} {E:XK}
end
section
variable {X:Cx}
end
section
variable {P:Program} {w:World} {K:PySem.W.Frag} {mg:Str→Option Value} {base:Heap}
variable {N:List Str} {qual:Str} {scope:Scope} {f C:Addr} {cd:Value} {A:Around} {outer:List Env} {s:Shared} {H:Hp} {E:XK}
end
end L2
namespace L2
open PySem PySem.Spec PyProof.Rows
section
variable {M:Model} {A:Around} {E:Value→Shared→Prop}
variable {nm q nm2 q2:Str} {C N S N2:Addr} {bs bm bs2 bm2:List Value} {hdct hd2:Bool} {sn sn2:List Str} {sub sub2:List Value} {ab ab2:Bool} {col col2:Option Bool} {dd dd2:Option Addr} {k0 k1 k2 k3 k5 l0 l1 l2 l3 l5:Option Value} {newId newId2:String}
end
end L2
namespace L2
open PySem PySem.Spec PyProof.Rows
section
variable {X:Cx} {pins:List (Addr×Obj)} {σ :St} {H:Hp} {s:Shared}
end
section
variable {X:Cx} {pins:List (Addr×Obj)} {σ :St} {H1:Hp} {s1 s':Shared} {C S:Addr} {nid nid2:String} {bB bB2:List Value} {sx n:Str} {np hpos:Pos} {b₀ :Stmt} {suite:List Stmt} {j:Nat} {ts:TS} {D:Ends} {E':XK} {e:Value}
noncomputable def D1 (D:Ends) (j:Nat):Ends:={nx:=fun σ' H'=>D.nx (σ'.set j none) H',rt:=fun _ _=>False}
end
section
variable {X:Cx} {C S f:Addr} {k:Nat} {fd:FuncData} {ps:List Str} {sp:Sp} {dvs:List V} {ds:List Value} {nid nid2:String} {bB bB2:List Value} {fx sx n:Str} {p np hpos cpos epos pos:Pos} {b₀ :Stmt} {suite:List Stmt} {j:Nat} {t:TA} {ts:TS} {e:Expr} {es:List Expr}
end
end L2
namespace L2
open PySem PySem.Spec PyProof.Rows
section
variable {prog:Program} {w:World} {A:Around} {E:Value→Shared→Prop} {h:Heap} {g:Array GenState} {d:Drawn} {t:Nat} {os:OsState} {a:Addr} {o:Obj} {K:PySem.W.Frag}
 {nm q:Str} {C N:Addr} {bs bm bmB:List Value} {hdct:Bool} {sn:List Str} {sub:List Value} {ab:Bool} {col:Option Bool} {dd:Option Addr} {k0 k1 k2 k3 k5:Option Value} {B newId:String}
end
section
variable {X:Cx} {C:Addr} {B nid:String} {bB:List Value}
end
end L2
namespace L2
open PySem PySem.Spec PyProof.Rows
section
variable {X:Cx}
end
end L2
namespace My
open PySem L2
open PySem.W (Dat kqdP kqdPs kqdOk)
theorem zkV {fs:List Flt}{f:Flt}(h:zcu fs)(n:look fs f.place=none):zcu (fs++ [f]):=by
 unfold zcu at *
 rw [List.map_append]
 refine zkU h fun z=>?_
 obtain ⟨g,hg,e⟩:=List.mem_map.mp z
 unfold look at n
 have n1:=Option.map_eq_none_iff.mp n
 have n2:=List.find?_eq_none.mp n1 g hg
 exact n2 (decide_eq_true e)
theorem zlF (xs:List V){k:Nat}(h:k≤xs.length):cutV xs none (some (k:Int))=xs.take k:=by
 have e1:HT.sIx xs.length 0 none=0:=rfl
 have e2:HT.sIx xs.length xs.length (some (k:Int))=k:=by
  simp only [HT.sIx]
  rw [if_neg (by omega)]
  omega
 unfold cutV
 rw [e1,e2,List.drop_zero,Nat.sub_zero]
end My
namespace My
open PySem L2
open PySem.W (Dat kqdP kqdPs kqdOk)
noncomputable def zaG (w:zat) (fs gs:List Flt):Option (List Int):=(zaI w.ins.toNat).find? fun r=>decide (zaQ w (zan fs w.gates r w.gates.length)≠zaQ w (zan gs w.gates r w.gates.length))
theorem zd0 {w:zat}{fs gs:List Flt}{row:List Int}(h:zaG w fs gs=some row):row.length=w.ins.toNat∧Bits row:=zar _ row (List.mem_of_find?_eq_some h)
theorem zjV {α :Type}{p: α→Bool}{xs:List α}{i:Nat}{x: α}(h:xs[i]? =some x)(hp:p x=true)(no:∀ y∈xs.take i,p y=false):xs.find? p=some x:=by
 have e:xs=xs.take i++x::xs.drop (i+1):=by
  have h2:=List.getElem?_eq_some_iff.mp h
  rw [← h2.2]
  simp
 rw [e,List.find?_append,List.find?_eq_none.mpr (fun y hy=>by rw [no y hy];decide),List.find?_cons_of_pos hp]
 rfl
theorem zgy {w:zat}{A B:List Flt}(h:∀ row:List Int,row.length=w.ins.toNat→Bits row→zaQ w (zan A w.gates row w.gates.length)=zaQ w (zan B w.gates row w.gates.length)):zaG w A B=none:=
 List.find?_eq_none.mpr fun r hr=>by
  obtain ⟨l,b⟩:=zar _ r hr
  rw [decide_eq_false fun z=>z (h r l b)]
  decide
theorem zi8 (w:zat)(fs gs:List Flt):zaG w fs gs=zaG w gs fs:=by
 unfold zaG
 congr 1
 funext r
 exact decide_eq_decide.mpr ⟨Ne.symm,Ne.symm⟩
end My
namespace L2
open PySem PySem.Spec PyProof.Rows
noncomputable def zaT:List Int→List Int→Bool
 | x::xs,y::ys=>if x=y then zaT xs ys else decide (x≤y)
 | _,_=>true
section
open PySem.SeqAt
open PySem.AutoSeq1 (wpAny_loadPart')
open PySem.MeetsSeq PySem.MeetsSeq2 PySem.MeetsSeq3
theorem ziD {vs:List Value}{ns:List Int}(h:IntsAre vs ns):∀ {i:Nat} {v:Value},vs[i]? =some v→∃ (a:Int) (t:Tok),v= .int a t∧ns[i]? =some a:=by
 induction h with
 | nil=>intro i v e;cases e
 | cons a t _ ih=>
  intro i v e
  cases i with
  | zero=>cases e;exact ⟨a,t,rfl,rfl⟩
  | succ i=>exact ih e
end
section
variable {X:Cx}
end
end L2
namespace My
open PySem L2
open PySem.W (Dat kqdP kqdPs kqdOk)
theorem zlA:∀ xs:List Int,zaT xs xs=true
 | []=>rfl
 | x::xs=>by rw [zaT,if_pos rfl];exact zlA xs
theorem zem:∀ n,(zaI n).Pairwise (fun a b=>zaT a b=true)
 | 0=>List.pairwise_cons.mpr ⟨(fun _ z=>nomatch z),List.Pairwise.nil⟩
 | n+1=>by
  have ih:=zem n
  rw [zaI]
  refine List.pairwise_append.mpr ⟨?_,?_,fun a ha b hb=>?_⟩
  ·refine List.pairwise_map.mpr (ih.imp fun {a b} h=>?_)
   rw [zaT,if_pos rfl]
   exact h
  ·refine List.pairwise_map.mpr (ih.imp fun {a b} h=>?_)
   rw [zaT,if_pos rfl]
   exact h
  ·obtain ⟨a',_,rfl⟩:=List.mem_map.mp ha
   obtain ⟨b',_,rfl⟩:=List.mem_map.mp hb
   rw [zaT,if_neg (by decide)]
   decide
theorem zfk {p p':List Int→Bool}:∀ {rows:List (List Int)},rows.Pairwise (fun a b=>zaT a b=true)→(∀ r∈rows,p r=true→p' r=true)→∀ {r},rows.find? p=some r→∃ r',rows.find? p'=some r'∧zaT r' r=true
 | [],_,_,_,e=>by cases e
 | x::xs,srt,h,r,e=>by
  obtain ⟨s1,s2⟩:=List.pairwise_cons.mp srt
  by_cases hx':p' x=true
  ·refine ⟨x,List.find?_cons_of_pos hx',?_⟩
   by_cases hx:p x=true
   ·rw [List.find?_cons_of_pos hx] at e
    cases e
    exact zlA x
   ·rw [List.find?_cons_of_neg hx] at e
    exact s1 r (List.mem_of_find?_eq_some e)
  ·have hx:¬p x=true:=fun z=>hx' (h x (.head _) z)
   rw [List.find?_cons_of_neg hx] at e
   rw [List.find?_cons_of_neg hx']
   exact zfk s2 (fun r hr=>h r (.tail _ hr)) e
end My
namespace L2
open PySem PySem.Spec PyProof.Rows
section
open PySem.Sem (wp)
end
section
variable {X:Cx}
end
end L2
namespace L2
open PySem PySem.Spec PyProof.Rows
theorem dflt1 {tk:Tok}:Vals [V.int 1] [Value.int 1 tk]:=.cons ⟨tk,rfl⟩ .nil
structure FunD (K:PySem.W.Frag) (x qual:Str) (st:Stmt) (f:Addr) (fd:FuncData) (T:Addr):Prop where
 ex:∃ (oc:Value) (od:Option Addr) (kV doc pm:Value) (an:Option Addr) (cdv ct:Value) (osl:Array (Option Value)),
  fd=PySem.W.fnOf x qual (zaw st) (zau st) (zah st) (.ref T) kV doc pm an cdv ct∧K.lookup f=some ⟨oc,od,.func fd,osl⟩∧PySem.W.codeIn K cdv qual=true
 kp:PySem.W.keepIn K (.ref f)=true
section
variable {P:Program} {w:World} {K:PySem.W.Frag} {mg:Str→Option Value} {base:Heap}
theorem FunD.okB {x qual:Str}{st:Stmt}{f T:Addr}{fd:FuncData}{N ps:List Str}{k:Nat}{sp:Sp}(F:FunD K x qual st f fd T)(S:zay N ps (zah st))(len:∀ vs H Q E,sp vs H Q E→vs.length=ps.length)
  (hbody:∀ (cdv:Value) (A:Around) (outer:List Env) (s:Shared) (H:Hp) (vs:List V) (Q:VK) (E:XK),Room k (A.deeper (envOfC qual (zah st) s.heap.objs.size f cdv))→sp vs H Q E→
   ∃ t,Bx (PSs (cxOf CX0 P w K mg base N qual (zah st) f cdv A outer s H E).nox (zau st) t)∧t {nx:=fun _ H2=>Q .non H2,rt:=Q} (start N vs) H):FnOk P w K mg base CX0 (k+1) f fd ps sp:=by
 obtain ⟨oc,od,kV,doc,pm,an,cdv,ct,osl,rfl,lk,hcd⟩:=F.ex
 refine fn_of lk hcd S len fun A outer s H vs Q E hr hsp=>?_
 obtain ⟨t,h,q⟩:=hbody cdv A outer s H vs Q E hr hsp
 exact ⟨t,h.1.nox,q⟩
theorem FunD.binds {x qual:Str}{st:Stmt}{f T:Addr}{fd:FuncData}{ps:List Str}{ds:List Value}(F:FunD K x qual st f fd T)
  (h:∀ (kV doc pm:Value) (an:Option Addr) (cdv ct:Value) (s:Shared) (us:List Value),K.In s.heap→(us++ds).length=ps.length→
   BindsTo s (PySem.W.fnOf x qual (zaw st) (zau st) (zah st) (.ref T) kV doc pm an cdv ct) ⟨us,[]⟩ (ps.zip (us++ds))):zgY K fd ps ds:=by
 obtain ⟨oc,od,kV,doc,pm,an,cdv,ct,osl,rfl,lk,hcd⟩:=F.ex
 exact h kV doc pm an cdv ct
theorem zi6 {x qual:Str}{st:Stmt}{f T:Addr}{oc:Value}{od an:Option Addr}{osl:Array (Option Value)}{kV doc pm cdv ct:Value}(l:K.lookup f=some ⟨oc,od,.func (PySem.W.fnOf x qual (zaw st) (zau st) (zah st) (.ref T) kV doc pm an cdv ct),osl⟩)
  (c:PySem.W.codeIn K cdv qual=true) (k:PySem.W.keepIn K (.ref f)=true):FunD K x qual st f (PySem.W.fnOf x qual (zaw st) (zau st) (zah st) (.ref T) kV doc pm an cdv ct) T:=⟨⟨oc,od,kV,doc,pm,an,cdv,ct,osl,rfl,l,c⟩,k⟩
end
end L2
namespace My
open PySem L2
noncomputable def zex (o:Int) (x:Str) (ns:List Int):Int:=
 if x="not" then Builtin.bitXor o (ns.getD 0 0)
 else if x="choose" then Builtin.bitOr (Builtin.bitAnd (ns.getD 0 0) (ns.getD 1 0)) (Builtin.bitAnd (Builtin.bitXor o (ns.getD 0 0)) (ns.getD 2 0))
 else ns.foldl (fun a b=>if x="and" then Builtin.bitAnd a b else if x="or" then Builtin.bitOr a b else Builtin.bitXor a b) (if x="and"∨x="one" then o else 0)
theorem zmC {a b:Int}(ha:a=0∨a=1)(hb:b=0∨b=1):Builtin.bitAnd a b=if a=1∧b=1 then 1 else 0:=by
 rcases ha with rfl | rfl <;> rcases hb with rfl | rfl <;> decide
theorem znM {a b:Int}(ha:a=0∨a=1)(hb:b=0∨b=1):Builtin.bitOr a b=if a=1∨b=1 then 1 else 0:=by
 rcases ha with rfl | rfl <;> rcases hb with rfl | rfl <;> decide
theorem zmD {a b:Int}(ha:a=0∨a=1)(hb:b=0∨b=1):Builtin.bitXor a b=(a+b) % 2:=by
 rcases ha with rfl | rfl <;> rcases hb with rfl | rfl <;> decide
theorem zjJ:∀ (ns:List Int) {a:Int},(a=0∨a=1)→Bits ns→ns.foldl Builtin.bitAnd a=if a=1∧ns.all (· ==1)=true then 1 else 0
 | [],a,ha,_=>by rcases ha with rfl | rfl <;> decide
 | n::ns,a,ha,b=>by
  have hn:=b n (.head _)
  have e:=zmC ha hn
  rw [List.foldl_cons,zjJ ns (by rw [e];split <;> simp) fun z hz=>b z (.tail _ hz),e]
  rcases ha with rfl | rfl <;> rcases hn with rfl | rfl <;> simp
theorem zmp:∀ (ns:List Int) {a:Int},(a=0∨a=1)→Bits ns→ns.foldl Builtin.bitOr a=if a=1∨ns.any (· ==1)=true then 1 else 0
 | [],a,ha,_=>by rcases ha with rfl | rfl <;> decide
 | n::ns,a,ha,b=>by
  have hn:=b n (.head _)
  have e:=znM ha hn
  rw [List.foldl_cons,zmp ns (by rw [e];split <;> simp) fun z hz=>b z (.tail _ hz),e]
  rcases ha with rfl | rfl <;> rcases hn with rfl | rfl <;> simp
theorem zjT:∀ (ns:List Int) {a:Int},(a=0∨a=1)→Bits ns→ns.foldl Builtin.bitXor a=(a+ns.sum) % 2
 | [],a,ha,_=>by rcases ha with rfl | rfl <;> decide
 | n::ns,a,ha,b=>by
  have hn:=b n (.head _)
  have e:=zmD ha hn
  rw [List.foldl_cons,zjT ns (by rw [e];omega) fun z hz=>b z (.tail _ hz),e,List.sum_cons]
  omega
theorem n_an:("and" :Str)≠"not" :=by decide+kernel
theorem n_ac:("and" :Str)≠"choose" :=by decide+kernel
theorem n_on:("or" :Str)≠"not" :=by decide+kernel
theorem n_oc:("or" :Str)≠"choose" :=by decide+kernel
theorem n_o1:("or" :Str)≠"one" :=by decide+kernel
theorem n_dn:("odd" :Str)≠"not" :=by decide+kernel
theorem n_dc:("odd" :Str)≠"choose" :=by decide+kernel
theorem n_d1:("odd" :Str)≠"one" :=by decide+kernel
theorem ziG {x:Str}{ns:List Int}(b:Bits ns)(h:zbJ x ns.length):zex 1 x ns=zb0 x ns:=by
 rcases h with ⟨h | h | h,l1,l2⟩ | ⟨h,l1⟩ | ⟨h,l1⟩ | ⟨h | h,l1⟩ <;> subst h <;> unfold zex
 ·rw [zgu,if_neg n_an,if_neg n_ac,if_pos (.inl rfl)]
  simp only [if_pos]
  rw [zjJ ns (.inr rfl) b]
  simp
 ·rw [zjy,if_neg n_on,if_neg n_oc,if_neg (fun z=>z.elim n_oa n_o1)]
  simp only [if_neg n_oa,if_pos]
  rw [zmp ns (.inl rfl) b]
  simp
 ·rw [zgI,if_neg n_dn,if_neg n_dc,if_neg (fun z=>z.elim n_da n_d1)]
  simp only [if_neg n_da,if_neg n_do]
  rw [zjT ns (.inl rfl) b,Int.zero_add]
 ·rw [zk2,if_pos rfl]
  rcases zbD b (i:=0) (by omega) with e | e <;> rw [e] <;> decide
 ·rw [zgx,if_neg n_cn,if_pos rfl]
  rcases zbD b (i:=0) (by omega) with e | e <;> rcases zbD b (i:=1) (by omega) with f | f <;> rcases zbD b (i:=2) (by omega) with g | g <;> rw [e,f,g] <;> decide
 ·obtain rfl:ns= []:=List.length_eq_zero_iff.mp l1
  rw [zjg,if_neg n_zn,if_neg n_zc,if_neg (fun z=>z.elim n_za n_z1)]
  rfl
 ·obtain rfl:ns= []:=List.length_eq_zero_iff.mp l1
  rw [zlu,if_neg n_1n,if_neg n_1c,if_pos (.inr rfl)]
  rfl
theorem gi_not (o:Int)(ns:List Int):zex o "not" ns=Builtin.bitXor o (ns.getD 0 0):=by unfold zex;rw [if_pos rfl]
theorem zlG (o:Int)(ns:List Int):zex o "choose" ns=Builtin.bitOr (Builtin.bitAnd (ns.getD 0 0) (ns.getD 1 0)) (Builtin.bitAnd (Builtin.bitXor o (ns.getD 0 0)) (ns.getD 2 0)):=by unfold zex;rw [if_neg n_cn,if_pos rfl]
theorem znD {x:Str}(hn:x≠"not")(hc:x≠"choose")(o:Int)(ns:List Int):zex o x ns=ns.foldl (fun a b=>if x="and" then Builtin.bitAnd a b else if x="or" then Builtin.bitOr a b else Builtin.bitXor a b) (if x="and"∨x="one" then o else 0):=by unfold zex;rw [if_neg hn,if_neg hc]
theorem zmy {n:Nat}(h:zbJ "not" n):n=1:=by
 rcases h with ⟨h | h | h,l1,l2⟩ | ⟨h,l1⟩ | ⟨h,l1⟩ | ⟨h | h,l1⟩ <;> first | exact l1 | exact absurd h (by decide+kernel)
theorem zju {n:Nat}(h:zbJ "choose" n):n=3:=by
 rcases h with ⟨h | h | h,l1,l2⟩ | ⟨h,l1⟩ | ⟨h,l1⟩ | ⟨h | h,l1⟩ <;> first | exact l1 | exact absurd h (by decide+kernel)
theorem in_two (x a b:Str):inV (.str x) [.str a,.str b]=decide (x=a∨x=b):=by
 show ((eqV (.str a) (.str x)) || ((eqV (.str b) (.str x)) || false))=_
 have e:∀ y z:Str,eqV (.str y) (.str z)=decide (z=y):=fun y z=>by
  show (y==z)=_
  rw [Bool.eq_iff_iff,beq_iff_eq,decide_eq_true_eq]
  exact eq_comm
 rw [e,e,Bool.or_false]
 by_cases q:x=a <;> by_cases q2:x=b <;> simp [q,q2]
noncomputable def zcN (o:Int) (fs:List Flt) (gs:List (Str×List Int)) (row:List Int):Nat→List Int
 | 0=>rowS fs row
 | n+1=>zcN o fs gs row n++ [pick fs (zbn ((row.length+n:Nat):Int)) (match gs[n]? with
   | some g=>zex o g.1 (zcS fs n (g.2.map fun l=>(zcN o fs gs row n).getD l.toNat 0))
   | none=>0)]
theorem ze9 (o:Int)(fs:List Flt)(gs:List (Str×List Int))(row:List Int):∀ n,(zcN o fs gs row n).length=row.length+n
 | 0=>zfX fs row
 | n+1=>by rw [zcN,List.length_append,ze9 o fs gs row n];simp;omega
end My
namespace L2
open PySem PySem.Spec PyProof.Rows
noncomputable def zdA:List Str→List Value→Bool
 | [],[]=>true
 | x::xs,.str y _::vs=>x==y && zdA xs vs
 | _,_=>false
noncomputable def TupK (K:PySem.W.Frag) (a:Addr) (xs:List Str):Prop:=(match K.lookup a with
 | some o=>(o.cls== .type "tuple" && o.dict.isNone) && (match o.data with
  | .seq vs _=>zdA xs vs.toList
  | _=>false)
 | none=>false)=true
theorem zix:∀ {xs:List Str} {vs:List Value},zdA xs vs=true→Vals (xs.map V.str) vs
 | [],[],_=>.nil
 | x::xs,v::vs,h=>by
  cases v with
  | str y t=>
   have h':(x==y && zdA xs vs)=true:=h
   rw [Bool.and_eq_true] at h'
   have e:x=y:=eq_of_beq h'.1
   subst e
   exact .cons ⟨t,rfl⟩ (zix h'.2)
  | _=>simp [zdA] at h
 | [],_::_,h=>by simp [zdA] at h
 | _::_,[],h=>by simp [zdA] at h
theorem TupK.sq {K:PySem.W.Frag}{H:Hp}{a:Addr}{xs:List Str}(h:TupK K a xs)(hz:xs.length≤1000):SqT K H a (xs.map V.str):=by
 unfold TupK at h
 cases e:K.lookup a with
 | none=>rw [e] at h;cases h
 | some o=>
  rw [e] at h
  simp only [Bool.and_eq_true] at h
  obtain ⟨⟨h1,_⟩,h2⟩:=h
  cases ed:o.data with
  | seq vs n=>
   rw [ed] at h2
   have rv:=zix h2
   have lv:=rv.length
   rw [List.length_map] at lv
   have lz:vs.size=xs.length:=by rw [lv,Array.length_toList]
   have line:(1000:Nat)≤sizeLine:=by decide
   exact .inr ⟨o,vs,n,e,beq_iff_eq.mp h1,ed,by omega,rv⟩
  | _=>rw [ed] at h2;cases h2
end L2
namespace L2
open PySem PySem.Spec PyProof.Rows
section
variable {X:Cx} {o e:Expr} {apos cpos:Pos} {td ty:TE}
end
section
variable {X:Cx} {e:Expr} {te:TE} {p p' pos pos':Pos}
end
end L2
namespace L2
open PySem PySem.Spec PyProof.Rows
open PySem.W (Dat kqdP kqdPs kqdOk)
section
variable {X:Cx}
open Classical in
end
section
variable {X:Cx} {K:PySem.W.Frag}
end
end L2
namespace My
open PySem L2
theorem zi4 (a b:Nat):Builtin.bitAnd (a:Int) (b:Int)=((a &&& b:Nat):Int):=by
 unfold Builtin.bitAnd
 rw [decide_eq_true (Int.natCast_nonneg a),decide_eq_true (Int.natCast_nonneg b)]
 rfl
theorem zni (a b:Nat):Builtin.bitOr (a:Int) (b:Int)=((a ||| b:Nat):Int):=by
 have h:∀ n:Nat,decide (0≤Builtin.bitNot (n:Int))=false:=fun n=>decide_eq_false (by unfold Builtin.bitNot;omega)
 have t:∀ n:Nat,(Builtin.bitNot (Builtin.bitNot (n:Int))).toNat=n:=fun n=>by unfold Builtin.bitNot;omega
 have e:Builtin.bitAnd (Builtin.bitNot (a:Int)) (Builtin.bitNot (b:Int))=Builtin.bitNot ((a ||| b:Nat):Int):=by
  unfold Builtin.bitAnd
  rw [h a,h b]
  show Builtin.bitNot (((Builtin.bitNot (Builtin.bitNot (a:Int))).toNat ||| (Builtin.bitNot (Builtin.bitNot (b:Int))).toNat:Nat):Int)=_
  rw [t a,t b]
 unfold Builtin.bitOr
 rw [e]
 unfold Builtin.bitNot
 omega
theorem zks:∀ a b:Nat,a ||| b=(a ^^^ b)+(a &&& b):=by
 intro a
 induction a using Nat.strongRecOn with
 | ind a ih=>
  intro b
  by_cases ha:a=0
  ·subst ha
   simp
  ·have h:=ih (a / 2) (by omega) (b / 2)
   have e1:=Nat.or_div_two (a:=a) (b:=b)
   have e2:=Nat.xor_div_two (a:=a) (b:=b)
   have e3:=Nat.and_div_two (a:=a) (b:=b)
   have m1:(a ||| b) % 2=(a ^^^ b) % 2+(a &&& b) % 2:=by
    have t:∀ n:Nat,n % 2=if n.testBit 0 then 1 else 0:=fun n=>by
     rw [Nat.testBit_zero]
     by_cases hn:n % 2=1
     ·simp [hn]
     ·have:n % 2=0:=by omega
      simp [this]
    rw [t (a ||| b),t (a ^^^ b),t (a &&& b),Nat.testBit_or,Nat.testBit_xor,Nat.testBit_and]
    cases a.testBit 0 <;> cases b.testBit 0 <;> rfl
   omega
theorem zob (a b:Nat):Builtin.bitXor (a:Int) (b:Int)=((a ^^^ b:Nat):Int):=by
 unfold Builtin.bitXor
 rw [zni,zi4]
 have:=zks a b
 omega
noncomputable def bitI (j:Nat) (x:Int):Int:=if x.toNat.testBit j then 1 else 0
noncomputable def zbf (R:Nat) (x:Int):Prop:=0≤x∧x.toNat < 2 ^ R
theorem zf0 (j:Nat)(x:Int):bitI j x=0∨bitI j x=1:=by unfold bitI;split <;> simp
theorem zbX {R:Nat}{x:Int}(h:zbf R x):∃ n:Nat,x=(n:Int)∧n < 2 ^ R:=⟨x.toNat,by have:=h.1;omega,h.2⟩
theorem zdG {R n:Nat}(h:n < 2 ^ R):zbf R (n:Int):=⟨by omega,by rw [Int.toNat_natCast];exact h⟩
theorem zbr (j n:Nat):bitI j (n:Int)=if n.testBit j then 1 else 0:=by unfold bitI;rw [Int.toNat_natCast]
theorem zgq {R:Nat}{x y:Int}(hx:zbf R x)(hy:zbf R y):zbf R (Builtin.bitAnd x y)∧∀ j,bitI j (Builtin.bitAnd x y)=Builtin.bitAnd (bitI j x) (bitI j y):=by
 obtain ⟨a,rfl,ha⟩:=zbX hx
 obtain ⟨b,rfl,hb⟩:=zbX hy
 rw [zi4]
 refine ⟨zdG (Nat.and_lt_two_pow _ hb),fun j=>?_⟩
 rw [zbr,zbr,zbr,Nat.testBit_and]
 cases a.testBit j <;> cases b.testBit j <;> decide
theorem zhP {R:Nat}{x y:Int}(hx:zbf R x)(hy:zbf R y):zbf R (Builtin.bitOr x y)∧∀ j,bitI j (Builtin.bitOr x y)=Builtin.bitOr (bitI j x) (bitI j y):=by
 obtain ⟨a,rfl,ha⟩:=zbX hx
 obtain ⟨b,rfl,hb⟩:=zbX hy
 rw [zni]
 refine ⟨zdG (Nat.or_lt_two_pow ha hb),fun j=>?_⟩
 rw [zbr,zbr,zbr,Nat.testBit_or]
 cases a.testBit j <;> cases b.testBit j <;> decide
theorem zeH {R:Nat}{x y:Int}(hx:zbf R x)(hy:zbf R y):zbf R (Builtin.bitXor x y)∧∀ j,bitI j (Builtin.bitXor x y)=Builtin.bitXor (bitI j x) (bitI j y):=by
 obtain ⟨a,rfl,ha⟩:=zbX hx
 obtain ⟨b,rfl,hb⟩:=zbX hy
 rw [zob]
 refine ⟨zdG (Nat.xor_lt_two_pow ha hb),fun j=>?_⟩
 rw [zbr,zbr,zbr,Nat.testBit_xor]
 cases a.testBit j <;> cases b.testBit j <;> decide
noncomputable def za5 (R:Nat):Int:=((2 ^ R - 1:Nat):Int)
theorem zcV (R:Nat):zbf R (za5 R):=zdG (by have:=Nat.two_pow_pos R;omega)
theorem zfU {R j:Nat}(h:j < R):bitI j (za5 R)=1:=by
 unfold za5
 rw [zbr,Nat.testBit_two_pow_sub_one]
 simp [h]
theorem zf6 (j:Nat):bitI j 0=0:=by
 show bitI j ((0:Nat):Int)=0
 rw [zbr,Nat.zero_testBit]
 rfl
theorem zdo (R:Nat):zbf R 0:=zdG (n:=0) (Nat.two_pow_pos R)
theorem zfu {R:Nat}{ns:List Int}(h:∀ n∈ns,zbf R n)(i:Nat):zbf R (ns.getD i 0):=by
 rw [List.getD_eq_getElem?_getD]
 cases e:ns[i]? with
 | none=>exact zdo R
 | some n=>exact h n (List.mem_of_getElem? e)
theorem zdp (j:Nat)(ns:List Int)(i:Nat):bitI j (ns.getD i 0)=(ns.map (bitI j)).getD i 0:=by
 rw [List.getD_eq_getElem?_getD,List.getD_eq_getElem?_getD,List.getElem?_map]
 cases ns[i]? with
 | none=>exact zf6 j
 | some n=>rfl
theorem zha {R:Nat}{f:Int→Int→Int}(hf:∀ x y,zbf R x→zbf R y→zbf R (f x y)∧∀ j,bitI j (f x y)=f (bitI j x) (bitI j y)):∀ (ns:List Int) {a:Int},zbf R a→(∀ n∈ns,zbf R n)→zbf R (ns.foldl f a)∧∀ j,bitI j (ns.foldl f a)=(ns.map (bitI j)).foldl f (bitI j a)
 | [],a,ha,_=>⟨ha,fun _=>rfl⟩
 | n::ns,a,ha,h=>by
  obtain ⟨h1,h2⟩:=hf a n ha (h n (.head _))
  obtain ⟨h3,h4⟩:=zha hf ns h1 fun z hz=>h z (.tail _ hz)
  refine ⟨h3,fun j=>?_⟩
  rw [List.foldl_cons,h4 j,List.map_cons,List.foldl_cons,h2 j]
theorem zkO {R:Nat}(x:Str){ns:List Int}(h:∀ n∈ns,zbf R n):zbf R (zex (za5 R) x ns)∧∀ j,j < R→bitI j (zex (za5 R) x ns)=zex 1 x (ns.map (bitI j)):=by
 have hg:=zfu h
 unfold zex
 by_cases hn:x="not"
 ·rw [if_pos hn]
  obtain ⟨h1,h2⟩:=zeH (zcV R) (hg 0)
  refine ⟨h1,fun j hj=>?_⟩
  rw [if_pos hn,h2 j,zfU hj,zdp]
 rw [if_neg hn]
 by_cases hc:x="choose"
 ·rw [if_pos hc]
  obtain ⟨a1,a2⟩:=zgq (hg 0) (hg 1)
  obtain ⟨b1,b2⟩:=zeH (zcV R) (hg 0)
  obtain ⟨c1,c2⟩:=zgq b1 (hg 2)
  obtain ⟨d1,d2⟩:=zhP a1 c1
  refine ⟨d1,fun j hj=>?_⟩
  rw [if_neg hn,if_pos hc,d2 j,a2 j,c2 j,b2 j,zfU hj,zdp,zdp,zdp]
 rw [if_neg hc]
 have ha:zbf R (if x="and"∨x="one" then za5 R else 0):=by
  split
  ·exact zcV R
  ·exact zdo R
 have hf:∀ a b,zbf R a→zbf R b→zbf R ((fun a b=>if x="and" then Builtin.bitAnd a b else if x="or" then Builtin.bitOr a b else Builtin.bitXor a b) a b)∧∀ j,bitI j ((fun a b=>if x="and" then Builtin.bitAnd a b else if x="or" then Builtin.bitOr a b else Builtin.bitXor a b) a b)=(fun a b=>if x="and" then Builtin.bitAnd a b else if x="or" then Builtin.bitOr a b else Builtin.bitXor a b) (bitI j a) (bitI j b):=by
  intro a b h1 h2
  by_cases e1:x="and"
  ·simp only [if_pos e1]
   exact zgq h1 h2
  ·by_cases e2:x="or"
   ·simp only [if_neg e1,if_pos e2]
    exact zhP h1 h2
   ·simp only [if_neg e1,if_neg e2]
    exact zeH h1 h2
 obtain ⟨h1,h2⟩:=zha hf ns ha h
 refine ⟨h1,fun j hj=>?_⟩
 rw [if_neg hn,if_neg hc,h2 j]
 congr 1
 split
 ·exact zfU hj
 ·exact zf6 j
noncomputable def zcQ (R:Nat) (fs:List Flt):List Flt:=fs.map fun f=>⟨f.place,f.worth * za5 R⟩
theorem zlS (R:Nat)(fs:List Flt)(p:List Key):look (zcQ R fs) p=(look fs p).map (· * za5 R):=by
 unfold look zcQ
 induction fs with
 | nil=>rfl
 | cons f fs ih=>
  rw [List.map_cons,List.find?_cons,List.find?_cons]
  by_cases h:f.place=p
  ·simp [h]
  ·simpa [h] using ih
theorem zmH {R:Nat}{v:Int}(h:v=0∨v=1):zbf R (v * za5 R)∧∀ j,j < R→bitI j (v * za5 R)=v:=by
 rcases h with rfl | rfl
 ·rw [Int.zero_mul]
  exact ⟨zdo R,fun j _=>zf6 j⟩
 ·rw [Int.one_mul]
  exact ⟨zcV R,fun j hj=>zfU hj⟩
theorem zgf {R:Nat}{fs:List Flt}(fb:∀ f∈fs,f.worth=0∨f.worth=1)(p:List Key){v:Int}(h:zbf R v):zbf R (pick (zcQ R fs) p v)∧∀ j,j < R→bitI j (pick (zcQ R fs) p v)=pick fs p (bitI j v):=by
 unfold pick
 rw [zlS]
 cases e:look fs p with
 | none=>exact ⟨h,fun _ _=>rfl⟩
 | some b=>
  have hb:b=0∨b=1:=by
   unfold look at e
   obtain ⟨f,hf,rfl⟩:=Option.map_eq_some_iff.mp e
   exact fb f (List.mem_of_find?_eq_some hf)
  exact zmH hb
theorem zjQ {R:Nat}{fs:List Flt}(fb:∀ f∈fs,f.worth=0∨f.worth=1)(key:Nat→List Key){ns:List Int}(h:∀ n∈ns,zbf R n):(∀ n∈ns.mapIdx (fun i v=>pick (zcQ R fs) (key i) v),zbf R n)∧∀ j,j < R→(ns.mapIdx (fun i v=>pick (zcQ R fs) (key i) v)).map (bitI j)=(ns.map (bitI j)).mapIdx (fun i v=>pick fs (key i) v):=by
 constructor
 ·intro n hn
  obtain ⟨i,hi,e⟩:=List.mem_mapIdx.mp hn
  rw [← e]
  exact (zgf fb _ (h _ (List.getElem_mem hi))).1
 ·intro j hj
  refine List.ext_getElem? fun i=>?_
  rw [List.getElem?_map,List.getElem?_mapIdx,List.getElem?_mapIdx,List.getElem?_map]
  cases e:ns[i]? with
  | none=>rfl
  | some v=>exact congrArg some ((zgf fb _ (h v (List.mem_of_getElem? e))).2 j hj)
theorem zhq {R:Nat}{fs:List Flt}(fb:∀ f∈fs,f.worth=0∨f.worth=1){m:Nat}{w:zat}{cols:List Int}(wf:WF m w)(hl:(cols.length:Int)=w.ins)(h:∀ n∈cols,zbf R n):
  ∀ n,n≤w.gates.length→(∀ v∈zcN (za5 R) (zcQ R fs) w.gates cols n,zbf R v)∧∀ j,j < R→(zcN (za5 R) (zcQ R fs) w.gates cols n).map (bitI j)=zan fs w.gates (cols.map (bitI j)) n
 | 0,_=>zjQ fb (fun i=>zbn i) h
 | n+1,hn=>by
  obtain ⟨h1,h2⟩:=zhq fb wf hl h n (by omega)
  obtain ⟨g,hg⟩:∃ g,w.gates[n]? =some g:=⟨_,List.getElem?_eq_getElem (by omega)⟩
  obtain ⟨lk,lb⟩:=wf.legs n g hg
  have hr:∀ v∈g.2.map (fun l=>(zcN (za5 R) (zcQ R fs) w.gates cols n).getD l.toNat 0),zbf R v:=fun v hv=>by
   obtain ⟨l,_,rfl⟩:=List.mem_map.mp hv
   exact zfu h1 _
  obtain ⟨l1,l2⟩:=zjQ fb (fun i=>legK (n:Int) (i:Int)) hr
  obtain ⟨g1,g2⟩:=zkO g.1 l1
  obtain ⟨p1,p2⟩:=zgf fb (zbn ((cols.length+n:Nat):Int)) g1
  rw [zcN,hg]
  refine ⟨fun v hv=>?_,fun j hj=>?_⟩
  ·rcases List.mem_append.mp hv with hv | hv
   ·exact h1 v hv
   ·rw [List.mem_singleton.mp hv]
    exact p1
  ·have bw:Bits (cols.map (bitI j)):=fun z hz=>by obtain ⟨v,_,rfl⟩:=List.mem_map.mp hz;exact zf0 j v
   have hl':((cols.map (bitI j)).length:Int)=w.ins:=by rw [List.length_map];exact hl
   have bS:=zcX fb wf hl' bw n (by omega)
   rw [List.map_append,h2 j hj,zan,hg]
   congr 1
   refine congrArg (fun z=>[z]) ((p2 j hj).trans ?_)
   rw [g2 j hj,l2 j hj,List.length_map]
   have e1:(g.2.map (fun l=>(zcN (za5 R) (zcQ R fs) w.gates cols n).getD l.toNat 0)).map (bitI j)=g.2.map fun l=>(zan fs w.gates (cols.map (bitI j)) n).getD l.toNat 0:=by
    rw [List.map_map]
    refine List.map_congr_left fun l _=>?_
    show bitI j (List.getD _ _ 0)=_
    rw [zdp,h2 j hj]
   rw [e1]
   refine congrArg (pick fs _) (ziG ?_ ?_)
   ·exact zfl (k:=(n:Int)) fb fun z hz=>by
     obtain ⟨l,hl2,rfl⟩:=List.mem_map.mp hz
     exact zbD bS (by rw [zbZ,List.length_map];have:=lb l hl2;omega)
   ·show zbJ g.1 (zcS fs n _).length
    rw [zdu,List.length_map]
    exact lk
end My
namespace My
open PySem L2
noncomputable def zdB:Nat→List Int
 | 0=>[]
 | n+1=>za5 (2 ^ n) * (za5 (2 ^ n)+1)::(zdB n).map fun v=>v+v * (za5 (2 ^ n)+1)
theorem zeO (R:Nat):za5 R+1=((2 ^ R:Nat):Int):=by
 unfold za5
 have:=Nat.two_pow_pos R
 omega
theorem zlt (n:Nat):za5 (2 ^ n)+za5 (2 ^ n) * (za5 (2 ^ n)+1)=za5 (2 ^ (n+1)):=by
 have h:=Nat.two_pow_pos (2 ^ n)
 have e: 2 ^ (2 ^ (n+1))=2 ^ 2 ^ n * 2 ^ 2 ^ n:=by rw [← Nat.pow_add];congr 1;rw [Nat.pow_succ];omega
 rw [zeO]
 unfold za5
 rw [e]
 generalize 2 ^ 2 ^ n=q at h
 obtain ⟨p,rfl⟩:∃ p,q=p+1:=⟨q - 1,by omega⟩
 have e2:(p+1) * (p+1) - 1=p+p * (p+1):=by
  rw [Nat.add_mul,Nat.one_mul]
  omega
 rw [e2,Nat.add_sub_cancel]
 push_cast
 rfl
theorem zgp {R a b:Nat}(hb:b < 2 ^ R)(j:Nat):(2 ^ R * a+b).testBit j=if j < R then b.testBit j else a.testBit (j - R):=Nat.testBit_two_pow_mul_add a hb j
theorem ziH {R a b:Nat}(ha:a < 2 ^ R)(hb:b < 2 ^ R): 2 ^ R * a+b < 2 ^ (R+R):=by
 rw [Nat.pow_add]
 have: 2 ^ R * a+2 ^ R≤2 ^ R * 2 ^ R:=by
  rw [← Nat.mul_succ]
  exact Nat.mul_le_mul_left _ ha
 omega
theorem zeT:∀ n,(∀ v∈zdB n,zbf (2 ^ n) v)∧(zdB n).length=n∧∀ j,j < 2 ^ n→(zaI n)[j]? =some ((zdB n).map (bitI j))
 | 0=>⟨(fun _ z=>nomatch z),rfl,fun j hj=>by
  have:j=0:=by simpa using hj
  subst this
  rfl⟩
 | n+1=>by
  obtain ⟨h1,h2,h3⟩:=zeT n
  have hR: 2 ^ (n+1)=2 ^ n+2 ^ n:=by rw [Nat.pow_succ];omega
  have pos:=Nat.two_pow_pos (2 ^ n)
  have eh:za5 (2 ^ n) * (za5 (2 ^ n)+1)=((2 ^ 2 ^ n * (2 ^ 2 ^ n - 1)+0:Nat):Int):=by
   rw [zeO]
   unfold za5
   rw [Nat.add_zero,Nat.mul_comm]
   push_cast
   rfl
  have ev:∀ v:Nat,(v:Int)+(v:Int) * (za5 (2 ^ n)+1)=((2 ^ 2 ^ n * v+v:Nat):Int):=fun v=>by
   rw [zeO,Nat.mul_comm]
   push_cast
   omega
  refine ⟨fun v hv=>?_,by show ((zdB n).map _).length+1=n+1;rw [List.length_map,h2],fun j hj=>?_⟩
  ·rw [hR]
   rcases List.mem_cons.mp (show v∈_::_ from hv) with rfl | hv
   ·rw [eh]
    exact zdG (ziH (by omega) pos)
   ·obtain ⟨u,hu,rfl⟩:=List.mem_map.mp hv
    obtain ⟨k,rfl,hk⟩:=zbX (h1 u hu)
    rw [ev k]
    exact zdG (ziH hk hk)
  ·rw [hR] at hj
   have bits:∀ i,bitI j (za5 (2 ^ n) * (za5 (2 ^ n)+1))=(if j < 2 ^ n then 0 else 1)∧∀ u∈zdB n,(i=if j < 2 ^ n then j else j - 2 ^ n)→bitI j (u+u * (za5 (2 ^ n)+1))=bitI i u:=fun i=>by
    constructor
    ·rw [eh,zbr,zgp pos]
     by_cases h:j < 2 ^ n
     ·rw [if_pos h,if_pos h,Nat.zero_testBit]
      rfl
     ·rw [if_neg h,if_neg h,Nat.testBit_two_pow_sub_one,decide_eq_true (by omega)]
      rfl
    ·intro u hu hi
     obtain ⟨k,rfl,hk⟩:=zbX (h1 u hu)
     rw [ev k,zbr,zgp hk,zbr,hi]
     by_cases h:j < 2 ^ n
     ·rw [if_pos h,if_pos h]
     ·rw [if_neg h,if_neg h]
   show ((zaI n).map (0:: ·)++(zaI n).map (1:: ·))[j]? =some ((_::(zdB n).map _).map (bitI j))
   have ln:=zdk n
   rw [List.map_cons,List.map_map]
   by_cases h:j < 2 ^ n
   ·rw [List.getElem?_append_left (by rw [List.length_map,ln];exact h),List.getElem?_map,h3 j h,(bits j).1,if_pos h]
    refine congrArg some (congrArg (List.cons 0) (List.map_congr_left fun u hu=>?_))
    exact ((bits j).2 u hu (by rw [if_pos h])).symm
   ·rw [List.getElem?_append_right (by rw [List.length_map,ln];omega),List.length_map,ln,List.getElem?_map,h3 (j - 2 ^ n) (by omega),(bits j).1,if_neg h]
    refine congrArg some (congrArg (List.cons 1) (List.map_congr_left fun u hu=>?_))
    exact ((bits (j - 2 ^ n)).2 u hu (by rw [if_neg h])).symm
noncomputable def zdx (xs ys:List Int):Int:=(xs.zip ys).foldl (fun u p=>Builtin.bitOr u (Builtin.bitXor p.1 p.2)) 0
theorem zet {R:Nat}:∀ (xs ys:List Int) {a:Int},xs.length=ys.length→(∀ v∈xs,zbf R v)→(∀ v∈ys,zbf R v)→zbf R a→
  zbf R ((xs.zip ys).foldl (fun u p=>Builtin.bitOr u (Builtin.bitXor p.1 p.2)) a)∧∀ j,bitI j ((xs.zip ys).foldl (fun u p=>Builtin.bitOr u (Builtin.bitXor p.1 p.2)) a)=1↔bitI j a=1∨xs.map (bitI j)≠ys.map (bitI j)
 | [],[],a,_,_,_,ha=>⟨ha,fun j=>by show bitI j a=1↔_;simp⟩
 | x::xs,y::ys,a,hl,hx,hy,ha=>by
  obtain ⟨x1,x2⟩:=zeH (hx x (.head _)) (hy y (.head _))
  obtain ⟨o1,o2⟩:=zhP ha x1
  obtain ⟨h1,h2⟩:=zet xs ys (a:=Builtin.bitOr a (Builtin.bitXor x y)) (Nat.succ.inj hl) (fun v hv=>hx v (.tail _ hv)) (fun v hv=>hy v (.tail _ hv)) o1
  refine ⟨h1,fun j=>?_⟩
  rw [List.zip_cons_cons,List.foldl_cons]
  refine (h2 j).trans ?_
  rw [o2 j,x2 j,List.map_cons,List.map_cons]
  have ba:=zf0 j a
  have bx:=zf0 j x
  have by':=zf0 j y
  generalize bitI j a=p at *
  generalize bitI j x=q at *
  generalize bitI j y=r at *
  have hc:((q::xs.map (bitI j))≠(r::ys.map (bitI j)))↔(q≠r∨xs.map (bitI j)≠ys.map (bitI j)):=by
   constructor
   ·intro z
    by_cases e:q=r
    ·exact .inr fun z2=>z (by rw [e,z2])
    ·exact .inl e
   ·rintro (z | z) e
    ·injection e with e1 _
     exact z e1
    ·injection e with _ e2
     exact z e2
  rw [hc]
  have key:(Builtin.bitOr p (Builtin.bitXor q r)=1)↔(p=1∨q≠r):=by
   rcases ba with rfl | rfl <;> rcases bx with rfl | rfl <;> rcases by' with rfl | rfl <;> decide
  rw [key,or_assoc]
end My
namespace L2
open PySem PySem.Spec PyProof.Rows
noncomputable def Itz (a b:Addr):It:=
 ⟨fun i H => ∃ xs ys x y, H a = some (.lst xs) ∧ H b = some (.lst ys) ∧ xs[i]? = some x ∧ ys[i]? = some y,
  fun i H v H'=>∃ T x y,H T=none∧v= .ref T∧H'=upd H T (.tup [x,y])∧∀ xs ys,H a=some (.lst xs)→H b=some (.lst ys)→xs[i]? =some x∧ys[i]? =some y,
  fun i H=>∃ xs ys,H a=some (.lst xs)∧H b=some (.lst ys)∧(xs.length≤i∨ys.length≤i)⟩
theorem far {n:Nat}(i j:Nat)(h:i≠j):(n+i:Nat)≠n+j:=by omega
theorem Inv.turnedC {X:Cx}{pins:List (Addr×Obj)}{σ :St}{H:Hp}{s:Shared}{h':Heap}{t':Nat}{ch:List Addr}(I:Inv X pins σ H s)
  (hch:∀ b∈ch,FpOk X pins H b) (k:∀ b u,b∉ch→s.heap.get? b=some u→h'.get? b=some u):Inv X pins σ H {s with heap:=h',toks:=t'}:=by
 have nch:∀ c u,H c=some u→c∉ch:=fun c u e z=>by rw [(hch c z).1] at e;cases e
 refine I.step (g':=s.gens) (d':=s.drawn) (ch:=ch) (fun b hb=>⟨(hch b hb).2.2.2.1,(hch b hb).2.1,(hch b hb).2.2.2.2.1,(hch b hb).2.2.2.2.2⟩)
  (fun b u _ _ hc e _=>k b u hc e) (fun b u _ _ hc e _=>⟨u.slots,k b u hc e⟩) (fun _ _ _ _ q=>q) (fun b u hc e=>⟨u,k b u hc e⟩)
  (fun _ _ q=>q) (fun _ _ _ q=>q) (fun b ps q=>⟨#[],by rw [q];simp⟩) (fun m hm=>?_) (fun b u e=>?_) I.bare
 ·exact hm.at' fun ob e=>k _ ob (fun z=>(hch _ z).2.1 rfl) e
 ·refine (I.hok b u e).stay (fun c v hc q=>k c v ?_ q) (fun c q=>q) fun c xs q=>q
  rcases hc with rfl | hc
  ·exact nch _ _ e
  ·exact nch _ _ hc
theorem zjF {n:Nat}{l1 l2:Addr}(a1:l1≠n+4)(a2:l1≠n+3)(a3:l1≠n)(a4:l1≠n+1)(b1:l2≠n+4)(b2:l2≠n+3)(b3:l2≠n)(b4:l2≠n+1):ZipApart (n+4) (n+2) (n+3) n (n+1) l1 l2:=
 ⟨far 2 4 (by decide),far 3 4 (by decide),far 0 4 (by decide),far 1 4 (by decide),far 2 3 (by decide),far 2 0 (by decide),far 2 1 (by decide),far 3 0 (by decide),far 3 1 (by decide),far 0 1 (by decide),a1,a2,a3,a4,b1,b2,b3,b4⟩
theorem znb {P:Program}{w:World}{K:PySem.W.Frag}{elts:List Expr}{k:Nat}{tp:Pos}(a b:Addr)(n:Nat):
  Turn P w K (.Tuple elts k tp) (Itz a b) [n+4,n+2,n+3,n,n+1] (n+4)
   (fun i h=>IsZip h (n+4) (n+2) (n+3) .none∧IsPair h (n+2) (.ref n) (.ref (n+1))∧(∃ u v,IsPair h (n+3) u v)∧h.IsListIter n a i∧h.IsListIter (n+1) b i) where
 mem:=by simp
 obj:=fun i h st c hc=>by
  obtain ⟨hz,hI,⟨u,v,hO⟩,⟨o1,e1,_,d1⟩,⟨o2,e2,_,d2⟩⟩:=st
  simp only [List.mem_cons,List.not_mem_nil,or_false] at hc
  rcases hc with rfl | rfl | rfl | rfl | rfl
  ·exact ⟨_,hz,fun v z=>nomatch z⟩
  ·exact ⟨_,hI,fun v z=>nomatch z⟩
  ·exact ⟨_,hO,fun v z=>nomatch z⟩
  ·exact ⟨o1,e1,fun v z=>by rw [d1] at z;cases z⟩
  ·exact ⟨o2,e2,fun v z=>by rw [d2] at z;cases z⟩
 keep:=fun i h h' st kp=>by
  obtain ⟨hz,hI,⟨u,v,hO⟩,h1,h2⟩:=st
  exact ⟨kp _ (by simp) _ hz,kp _ (by simp) _ hI,⟨u,v,kp _ (by simp) _ hO⟩,h1.at fun o q=>kp _ (by simp) o q,h2.at fun o q=>kp _ (by simp) o q⟩
 item:=by
  intro X hP hw hK hc i pins s σ H E I hf st hg
  subst hP hw hK
  obtain ⟨hz,hI,⟨u,v,hO⟩,h1,h2⟩:=st
  obtain ⟨xs,ys,x,y,ha,hb,hx,hy⟩:=hg
  obtain ⟨its,rv,p1,_⟩:=I.list (.of ha)
  obtain ⟨its2,rv2,p2,_⟩:=I.list (.of hb)
  obtain ⟨u1,hu1,ru1⟩:=rv.get hx
  obtain ⟨u2,hu2,ru2⟩:=rv2.get hy
  have no:∀ {l:Addr} {o:HO},H l=some o→∀ c∈[n+4,n+2,n+3,n,n+1],l≠c:=fun e c hc z=>by
   rw [z,(hf c hc).1] at e
   cases e
  have D:ZipApart (n+4) (n+2) (n+3) n (n+1) a b:=zjF (no ha (n+4) (by simp)) (no ha (n+3) (by simp)) (no ha n (by simp)) (no ha (n+1) (by simp)) (no hb (n+4) (by simp)) (no hb (n+3) (by simp)) (no hb n (by simp)) (no hb (n+1) (by simp))
  refine wpAny_pyNext_zip_item D hz hI hO h1 h2 p1.isList p2.isList (x:=u1) (y:=u2) (by simpa using hu1) (by simpa using hu2) fun h' z1 z2 z3 z4 z5 z6 hk=>?_
  have new:∀ {c:Addr} {o:Obj},s.heap.get? c=some o→c≠s.heap.objs.size:=fun e=>Nat.ne_of_lt (Heap.lt_size e)
  have I1:Inv X pins σ (upd H s.heap.objs.size (.tup [x,y])) {s with heap:=h'}:=
   I.laidC (t':=s.toks) (ch:=[n+4,n+2,n+3,n,n+1]) hf (fun c o hc q=>hk c o (fun z=>hc (by simp [z])) (fun z=>hc (by simp [z])) (fun z=>hc (by simp [z])) (fun z=>hc (by simp [z])) q) (Nat.le_refl _)
    ⟨(by show 2≤sizeLine;decide),[u1,u2],.cons ru1 (.cons ru2 .nil),_,z5,rfl,_,rfl⟩
  refine ⟨_,rfl,wpAny_letOwnedTupleGo_zip z1 fun h2' w1 sb=>?_⟩
  have fz:=hf (n+4) (by simp)
  have I2:Inv X pins σ (upd H s.heap.objs.size (.tup [x,y])) {s with heap:=h2'}:=
   I1.turned (t':=s.toks) (fun c o hc q=>(sb.2 c hc).trans q) (by rw [zam (new hz)];exact fz.1) fz.2.1 fz.2.2.2.1 fz.2.2.2.2.1 fz.2.2.2.2.2
  refine ⟨.ref s.heap.objs.size,_,I2,rfl,⟨_,x,y,I.hok.fresh (Nat.le_refl _),rfl,rfl,fun xs' ys' hxs hys=>?_⟩,⟨w1,?_,⟨u1,u2,?_⟩,?_,?_⟩,fun c hc=>?_⟩
  ·rw [ha] at hxs
   rw [hb] at hys
   cases hxs
   cases hys
   exact ⟨hx,hy⟩
  ·exact sb.extBut _ _ (far 2 4 (by decide)) (hk _ _ (far 2 4 (by decide)) (far 2 3 (by decide)) (far 2 0 (by decide)) (far 2 1 (by decide)) hI)
  ·exact sb.extBut _ _ (far 3 4 (by decide)) z2
  ·exact z3.extBut sb.extBut (far 0 4 (by decide))
  ·exact z4.extBut sb.extBut (far 1 4 (by decide))
  ·have hn:c≠s.heap.objs.size:=by
    simp only [List.mem_cons,List.not_mem_nil,or_false] at hc
    rcases hc with rfl | rfl | rfl | rfl | rfl
    ·exact new hz
    ·exact new hI
    ·exact new hO
    ·obtain ⟨o,e,_⟩:=h1;exact new e
    ·obtain ⟨o,e,_⟩:=h2;exact new e
   rw [zam hn]
   exact (hf c hc).1
 done:=by
  intro X hP hw hK hc i pins s σ H E I hf st hg
  subst hP hw hK
  obtain ⟨hz,hI,⟨u,v,hO⟩,h1,h2⟩:=st
  obtain ⟨xs,ys,ha,hb,hx⟩:=hg
  obtain ⟨its,rv,p1,_⟩:=I.list (.of ha)
  obtain ⟨its2,rv2,p2,_⟩:=I.list (.of hb)
  have no:∀ {l:Addr} {o:HO},H l=some o→∀ c∈[n+4,n+2,n+3,n,n+1],l≠c:=fun e c hc z=>by
   rw [z,(hf c hc).1] at e
   cases e
  have D:ZipApart (n+4) (n+2) (n+3) n (n+1) a b:=zjF (no ha (n+4) (by simp)) (no ha (n+3) (by simp)) (no ha n (by simp)) (no ha (n+1) (by simp)) (no hb (n+4) (by simp)) (no hb (n+3) (by simp)) (no hb n (by simp)) (no hb (n+1) (by simp))
  have l1:=rv.length
  have l2:=rv2.length
  refine wpAny_pyNext_zip_end (I.ok.hd hc) D hz hI hO h1 h2 p1.isList p2.isList (hx.elim (fun q=>.inl (by simp;omega)) fun q=>.inr (by simp;omega)) fun h' hk=>⟨rfl,?_⟩
  exact I.turnedC (t':=s.toks) (ch:=[n+4,n+2,n+3,n,n+1]) hf fun c o hc q=>hk c o (fun z=>hc (by simp [z])) (fun z=>hc (by simp [z])) (fun z=>hc (by simp [z])) (fun z=>hc (by simp [z])) q
 self:=fun _ _ _ _ _ st h=>wpAny_pyIter_zip st.1 h
noncomputable def iZip (ta:TA):TI:=fun σ H R=>ta σ H fun vs H1=>∃ a b xs ys,vs= [.ref a,.ref b]∧H1 a=some (.lst xs)∧H1 b=some (.lst ys)∧R (Itz a b) H1
theorem pi_zip {X:Cx}{e1 e2:Expr}{ta:TA}{p pos tp:Pos}{elts:List Expr}{k:Nat}(hg:Gl X "zip")(hm:X.mg "zip" =none)(ha:PA X [e1,e2] ta)
  (hs:starEach [e1,e2] X.env= [(false,eval e1 X.env),(false,eval e2 X.env)]:=by rfl) (hs2:starEach [e2] X.env= [(false,eval e2 X.env)]:=by rfl):PI X (.Tuple elts k tp) (.Call (.Name "zip" p) [e1,e2] [] pos) (iZip ta):=by
 intro pins s σ H R I h
 refine Call_ (zgD I hg hm boot_zip (PyProof.Rows.callWith_type1 (thn (ha pos pins s σ H _ I h) fun us s1 ⟨vs,H1,I1,r1,q1⟩=>?_) (by rw [hs,hs2]) (by rw [hs2];rfl)))
 obtain ⟨a,b,xs,ys,e,ha',hb',q⟩:=q1
 subst e
 cases r1 with
 | cons r rr=>
  cases rr with
  | cons r' rr=>
   cases rr
   cases r
   cases r'
   obtain ⟨its,rv,p1,_⟩:=I1.list (.of ha')
   obtain ⟨its2,rv2,p2,_⟩:=I1.list (.of hb')
   refine call_zip_2 p1.isList p2.isList fun h' z1 z2 z3 z4 z5 z6 hk=>wpAny_pyIter_zip z1 ?_
   refine ⟨s1.heap.objs.size+4,[s1.heap.objs.size+4,s1.heap.objs.size+2,s1.heap.objs.size+3,s1.heap.objs.size,s1.heap.objs.size+1],_,_,H1,rfl,I1.kept (t':=s1.toks) hk,znb a b s1.heap.objs.size,⟨z1,z2,⟨_,_,z3⟩,z4,z5⟩,fun c hc=>?_,q⟩
   have le:s1.heap.objs.size≤c:=by
    simp only [List.mem_cons,List.not_mem_nil,or_false] at hc
    rcases hc with rfl | rfl | rfl | rfl | rfl
    ·exact Nat.le_add_right _ _
    ·exact Nat.le_add_right _ _
    ·exact Nat.le_add_right _ _
    ·exact Nat.le_refl _
    ·exact Nat.le_add_right _ _
   exact I1.fpOk le (I1.hok.fresh le)
theorem zoE {a b:Addr}{xs ys:List V}{g:TG}{tb:TS}{D:Ends}{σ :St}{H:Hp}(hlen:xs.length=ys.length)(Pv:Nat→St→Hp→Prop)(h0:Pv 0 σ H)
  (hl:∀ i σ H,i≤xs.length→Pv i σ H→H a=some (.lst xs)∧H b=some (.lst ys))
  (hs:∀ i x y σ H T,xs[i]? =some x→ys[i]? =some y→Pv i σ H→H T=none→g (.ref T) σ (upd H T (.tup [x,y])) fun σ2 H2=>tb {D with nx:=Pv (i+1),ct:=Pv (i+1),bk:=D.nx} σ2 H2)
  (hd:∀ σ H,Pv xs.length σ H→D.nx σ H):
  ∃ W:Nat→Nat→St→Hp→Prop,(∃ m,W 0 m σ H)∧∀ i m σ H,W i m σ H→
   ((Itz a b).stop i H ∧ D.nx σ H) ∨ ((Itz a b).go i H ∧ ∃ N : St → Hp → Prop, (∀ σ' H', N σ' H' → ∃ m', m' < m ∧ W (i + 1) m' σ' H') ∧
     ∀ x H',(Itz a b).yld i H x H'→g x σ H' fun σ2 H2=>tb {D with nx:=N,ct:=N,bk:=D.nx} σ2 H2):=by
 refine ⟨fun i m σ H=>m=xs.length - i∧i≤xs.length∧Pv i σ H,⟨xs.length,by simp,Nat.zero_le _,h0⟩,?_⟩
 rintro i m σ H ⟨rfl,hi,p⟩
 obtain ⟨qa,qb⟩:=hl i σ H hi p
 by_cases hlt:i < xs.length
 ·refine .inr ⟨⟨xs,ys,xs[i],ys[i],qa,qb,by simp [hlt],List.getElem?_eq_getElem _⟩,Pv (i+1),fun σ' H' p'=>⟨xs.length - (i+1),by omega,rfl,hlt,p'⟩,fun x H' y=>?_⟩
  obtain ⟨T,u,v,hT,e1,e2,y⟩:=y
  subst e1 e2
  obtain ⟨y1,y2⟩:=y xs ys qa qb
  exact hs i u v σ H T y1 y2 p hT
 ·have e:i=xs.length:=by omega
  subst e
  exact .inl ⟨⟨xs,ys,qa,qb,.inl (Nat.le_refl _)⟩,hd σ H p⟩
theorem zot {X:Cx}{e1 e2:Expr}{ta:TA}{p pos tp:Pos}{elts:List Expr}{k:Nat}(hg:Gl X "zip")(hm:X.mg "zip" =none)(ha:Bx (PA X [e1,e2] ta))
  (hs:starEach [e1,e2] X.env= [(false,eval e1 X.env),(false,eval e2 X.env)]:=by rfl) (hs2:starEach [e2] X.env= [(false,eval e2 X.env)]:=by rfl):Bx (PI X (.Tuple elts k tp) (.Call (.Name "zip" p) [e1,e2] [] pos) (iZip ta)):=⟨pi_zip hg hm ha.1 hs hs2⟩
theorem zl1 {X:Cx}:MtR X "int.bit_length" (fun x xs H Q=>∃ i:Int,x= .int i∧xs= []∧Q (.int ((Builtin.Int.intBits i:Nat):Int)) H):=by
 intro pins s σ H x xs v us Q I rx rs h
 obtain ⟨i,rfl,rfl,q⟩:=h
 obtain ⟨t,rfl⟩:=rx
 cases rs
 exact call_int_bit_length ⟨.int _,H,I.kept (t':=s.toks+1) fun _ _ e=>e,⟨_,rfl⟩,q⟩
theorem zoC (n:Nat):n < 2 ^ Builtin.Int.intBits (n:Int):=by
 unfold Builtin.Int.intBits
 by_cases h:n=0
 ·subst h
  decide
 ·have:((n:Int)==0)=false:=by simpa using h
  rw [this]
  show n < 2 ^ ((n:Int).natAbs.log2+1)
  rw [Int.natAbs_natCast]
  exact Nat.lt_log2_self
end L2
namespace L2
open PySem PySem.Spec PyProof.Rows
noncomputable def EntD (h:Heap) (d:Addr) (es:Array DictEntry) (ep:Nat):Prop:=∃ ob,h.get? d=some ob∧ob.ExactDict∧ob.data= .dict es ep
section
variable {prog:Program} {w:World} {A:Around} {E:Value→Shared→Prop} {s:Shared}
theorem zkD {d:Addr}{es:Array DictEntry}{ep:Nat}{Q:Value→Shared→Prop}(nd:(d==sysModules)=false)(hE:EntD s.heap d es ep)
  (q:Q (.ref s.heap.objs.size) {s with heap:=s.heap.push {cls:=.type "dict_items",data:=.fields #[.ref d]}}):wpAny (model prog w) A (call (.builtin "dict.items") [.ref d]) Q E s:=by
 obtain ⟨ob,e1,⟨e2,_,_⟩,e3⟩:=hE
 have ty:s.TypeIs (.ref d) "dict" :=⟨ob,e1,e2⟩
 refine wpAny_call_entry PySem.F.slot_dict_items ty PySem.F.entry_dict_items ?_ (PySem.F.args_dict_items_1 _)
 unfold Builtin.«dict.items» Builtin.Dict.noArgs
 refine wpAny_bind (wpAny_bind (wpAny_notOrdered_dict ty ?_))
 show wpAny _ _ (pure d) _ _ s
 refine wpAny_pure (?_:wpAny _ _ (Builtin.Dict.showsAll d >>=_) _ _ s)
 unfold Builtin.Dict.showsAll
 rw [nd]
 exact wpAny_bind (wpAny_pure (wpAny_bind (wpAny_newObj_type (wpAny_pure ⟨_,rfl,q⟩))))
theorem zkn {v d:Addr}{es:Array DictEntry}{ep:Nat}{Q:Value→Shared→Prop}(hv:s.heap.IsItemsView v d)(hE:EntD s.heap d es ep)
  (q:Q (.ref s.heap.objs.size) {s with heap:=s.heap.push {cls:=.type "dict_itemiterator",data:=.fields #[.none,.bool false,.ref d,.int 0 0,.int es.size 0,.int ep 0,.none,.none]}}):
  wpAny (model prog w) A (pyIter (.ref v)) Q E s:=by
 obtain ⟨vo,v1,v2,v3⟩:=id hv
 obtain ⟨ob,e1,_,e3⟩:=hE
 refine wpAny_pyIter_slot hv.typeIs PySem.F.slot_dict_items_iter (wpAny_call_entry PySem.F.slot_dict_items_iter hv.typeIs PySem.F.entry_dict_items_iter ?_ (PySem.F.args_dict_items_iter_1 _))
 unfold Builtin.«dict_items.__iter__»
 refine wpAny_bind (wpAny_pure (wpAny_bind ?_))
 unfold Builtin.Dict_items.dictOf
 refine wpAny_bind (wpAny_field v1 v3 (x:=.ref d) rfl (wpAny_pure (wpAny_bind ?_)))
 unfold Builtin.Dict_items.newIterator
 refine wpAny_bind (wpAny_dictEntries e1 e3 (wpAny_bind (wpAny_dictEpoch e1 e3 ?_)))
 simp only [show Builtin.Dict_items.ownsTuple "dict_itemiterator" =true by decide,if_true]
 refine wpAny_newObj_type (wpAny_pure ⟨_,rfl,"dict_itemiterator",_,⟨_,Heap.get?_push_size _ rfl,rfl⟩,PySem.F.slot_dict_itemiterator_next.lookup,?_⟩)
  (by simp only [sizeOk,Builtin.Dict_items.ownedTupleFields,List.size_toArray,List.length_append,List.length_cons,List.length_nil,sizeLine_eq];omega)
 simpa [rawInt,Builtin.Dict_items.ownedTupleFields] using q
theorem zkM {it d:Addr}{i ep:Nat}{es:Array DictEntry}{en:DictEntry}{a b:Value}{Q:Option Value→Shared→Prop}(hJ:IsItemIter s.heap it d i es.size ep a b)(hE:EntD s.heap d es ep)(hx:es[i]? =some en)
  (q:∀ h',IsItemIterOut h' it d (i+1) es.size ep en.key en.val s.heap.objs.size→h'.get? s.heap.objs.size=some {cls:=.type "tuple",data:=.seq #[en.key,en.val]}→
   (∀ c o,c≠it→s.heap.get? c=some o→h'.get? c=some o)→Q (some (.ref s.heap.objs.size)) {s with heap:=h'}):wpAny (model prog w) A (pyNext (.ref it)) Q E s:=by
 obtain ⟨hp,gg,dr,tk,os⟩:=s
 obtain ⟨ob,e1,_,e3⟩:=hE
 have ty:Shared.TypeIs ⟨hp,gg,dr,tk,os⟩ (.ref it) "dict_itemiterator" :=⟨_,hJ,rfl⟩
 have li:i < es.size:=(Array.getElem?_eq_some_iff.mp hx).1
 have ei:es[i]=en:=(Array.getElem?_eq_some_iff.mp hx).2
 unfold pyNext
 refine wpAny_bind (wpAny_attempt (wpAny_callSpecial?_slot (name:=Str.ofString "__next__") ty PySem.F.slot_dict_itemiterator_next
  (wpAny_call_entry PySem.F.slot_dict_itemiterator_next ty PySem.F.entry_dict_itemiterator_next ?_ (PySem.F.args_dict_itemiterator_next_1 _))))
 refine wpAny_bind (wpAny_pure (wpAny_bind (wpAny_bind ?_)))
 first | refine wpAny_bind (wpAny_typeNameOfWhole_itemiter ty (wpAny_pure ?_)) | refine wpAny_bind (wpAny_typeNameOf_itemiter ty (wpAny_pure ?_))
 refine wpAny_bind (wpAny_fieldsOf hJ rfl ?_)
 simp only [show Builtin.Dict_items.ownsTuple "dict_itemiterator" =true by decide,if_true]
 show wpAny _ _ (if (Value.ref d==Value.none)=true then _ else _) _ _ _
 rw [show (Value.ref d==Value.none)=false from rfl,if_neg Bool.false_ne_true]
 refine wpAny_bind (wpAny_pure (wpAny_bind (wpAny_dictEntries e1 e3 ?_)))
 rw [if_neg (by simp)]
 refine wpAny_bind (wpAny_pure (wpAny_bind (wpAny_dictEpoch e1 e3 ?_)))
 rw [if_neg (by simp)]
 refine wpAny_pure ?_
 simp only [show ¬(i:Int) < 0 from by omega,if_false,Int.toNat_natCast,hx]
 refine wpAny_bind ?_
 first | refine wpAny_bind (wpAny_typeNameOfWhole_itemiter ty (wpAny_pure ?_)) | refine wpAny_bind (wpAny_typeNameOf_itemiter ty (wpAny_pure ?_))
 refine wpAny_bind (wpAny_isOneOf_itemiter ty ?_)
 show wpAny _ _ (setField (.ref it) 3 (rawInt ((i:Int)+1)) >>=_) _ _ ⟨hp,gg,dr,tk,os⟩
 refine wpAny_bind (wpAny_setField_rec hJ (by simp) fun k1 j1 t1=>?_)
 have t1':Heap.SameBut it hp k1:=t1
 have j1':IsItemIter k1 it d (i+1) es.size ep a b:=by
  unfold IsItemIter
  rw [show ((i+1:Nat):Int)=(i:Int)+1 by omega]
  simpa [rawInt] using j1
 have ty1:Shared.TypeIs ⟨k1,gg,dr,tk,os⟩ (.ref it) "dict_itemiterator" :=⟨_,j1',rfl⟩
 refine wpAny_bind (wpAny_holding (wpAny_bind (wpAny_isOneOf_itemiter ty1 (wpAny_bind (wpAny_isOneOf_itemiter ty1 ?_)))))
 show wpAny _ _ (Builtin.Dict_items.pairFromOwner (.ref it) 6 en.key en.val) _ _ ⟨k1,gg,dr,tk,os⟩
 unfold Builtin.Dict_items.pairFromOwner
 refine wpAny_bind (wpAny_newTuple ?_)
 have size1:k1.objs.size=hp.objs.size:=t1'.1
 have lit:it < hp.objs.size:=Heap.lt_size hJ
 obtain ⟨k2,ek2⟩:∃ k2,k1.push {cls:=.type "tuple",data:=.seq #[en.key,en.val]}=k2:=⟨_,rfl⟩
 have j2:IsItemIter k2 it d (i+1) es.size ep a b:=by rw [← ek2];exact Heap.get?_push_of_some _ j1'
 have p2:k2.get? hp.objs.size=some {cls:=.type "tuple",data:=.seq #[en.key,en.val]}:=by rw [← ek2,← size1];exact Heap.get?_push_size _ rfl
 have m2:∀ c o,c≠it→hp.get? c=some o→k2.get? c=some o:=fun c o hc e=>by rw [← ek2];exact Heap.get?_push_of_some _ (t1'.extBut c o hc e)
 show wpAny _ _ (Builtin.Dict_items.ownedTupleIsFree (.ref it) >>=_) _ _ ⟨k1.push {cls:=.type "tuple",data:=.seq #[en.key,en.val]},gg,dr,tk,os⟩
 rw [ek2,size1]
 refine wpAny_bind ?_
 unfold Builtin.Dict_items.ownedTupleIsFree
 refine wpAny_bind (wpAny_field j2 rfl (x:=.none) rfl (wpAny_pure ?_))
 simp only [if_true]
 refine wpAny_bind (wpAny_field j2 rfl (x:=a) rfl (wpAny_bind (wpAny_field j2 rfl (x:=b) rfl ?_)))
 refine wpAny_bind (wpAny_setField_rec j2 (by simp) fun k3 j3 t3=>?_)
 have j3':IsItemIter k3 it d (i+1) es.size ep en.key b:=j3
 refine wpAny_bind (wpAny_setField_rec j3' (by simp) fun k4 j4 t4=>?_)
 have j4':IsItemIter k4 it d (i+1) es.size ep en.key en.val:=j4
 refine wpAny_bind (wpAny_setField_rec j4' (by simp) fun k5 j5 t5=>?_)
 have j5':IsItemIterOut k5 it d (i+1) es.size ep en.key en.val hp.objs.size:=j5
 refine wpAny_bind (wpAny_setField_rec j5' (by simp) fun k6 j6 t6=>?_)
 have j6':IsItemIterOut k6 it d (i+1) es.size ep en.key en.val hp.objs.size:=j6
 have all:∀ c o,c≠it→k2.get? c=some o→k6.get? c=some o:=fun c o hc e=>
  Heap.SameBut.extBut (show Heap.SameBut it k5 k6 from t6) c o hc (Heap.SameBut.extBut (show Heap.SameBut it k4 k5 from t5) c o hc (Heap.SameBut.extBut (show Heap.SameBut it k3 k4 from t4) c o hc (Heap.SameBut.extBut (show Heap.SameBut it k2 k3 from t3) c o hc e)))
 exact wpAny_bind (wpAny_letGo (wpAny_pure (wpAny_pure ⟨_,rfl,wpAny_pure (q k6 j6' (all _ _ (Nat.ne_of_gt lit) p2) fun c o hc e=>all c o hc (m2 c o hc e))⟩)))
theorem zlo {it d:Addr}{i ep:Nat}{es:Array DictEntry}{a b:Value}{Q:Option Value→Shared→Prop}(hh:A.handled=none)(hJ:IsItemIter s.heap it d i es.size ep a b)(hE:EntD s.heap d es ep)(hx:es.size≤i)
  (q:∀ h',Heap.ExtBut it s.heap h'→Q none {s with heap:=h'}):wpAny (model prog w) A (pyNext (.ref it)) Q E s:=by
 obtain ⟨ob,e1,_,e3⟩:=hE
 have ty:s.TypeIs (.ref it) "dict_itemiterator" :=⟨_,hJ,rfl⟩
 unfold pyNext
 refine wpAny_bind (wpAny_attempt (wpAny_callSpecial?_slot (name:=Str.ofString "__next__") ty PySem.F.slot_dict_itemiterator_next
  (wpAny_call_entry PySem.F.slot_dict_itemiterator_next ty PySem.F.entry_dict_itemiterator_next ?_ (PySem.F.args_dict_itemiterator_next_1 _))))
 refine wpAny_bind (wpAny_pure (wpAny_bind (wpAny_bind ?_)))
 first | refine wpAny_bind (wpAny_typeNameOfWhole_itemiter ty (wpAny_pure ?_)) | refine wpAny_bind (wpAny_typeNameOf_itemiter ty (wpAny_pure ?_))
 refine wpAny_bind (wpAny_fieldsOf hJ rfl ?_)
 simp only [show Builtin.Dict_items.ownsTuple "dict_itemiterator" =true by decide,if_true]
 show wpAny _ _ (if (Value.ref d==Value.none)=true then _ else _) _ _ s
 rw [show (Value.ref d==Value.none)=false from rfl,if_neg Bool.false_ne_true]
 refine wpAny_bind (wpAny_pure (wpAny_bind (wpAny_dictEntries e1 e3 ?_)))
 rw [if_neg (by simp)]
 refine wpAny_bind (wpAny_pure (wpAny_bind (wpAny_dictEpoch e1 e3 ?_)))
 rw [if_neg (by simp)]
 refine wpAny_pure ?_
 simp only [show ¬(i:Int) < 0 from by omega,if_false,Int.toNat_natCast,Array.getElem?_eq_none hx]
 refine wpAny_bind ?_
 first | refine wpAny_bind (wpAny_typeNameOfWhole_itemiter ty (wpAny_pure ?_)) | refine wpAny_bind (wpAny_typeNameOf_itemiter ty (wpAny_pure ?_))
 show wpAny _ _ (setField (.ref it) 2 .none >>=_) _ _ s
 refine wpAny_bind (wpAny_setField hJ rfl (by simp) ?_)
 show wpAny _ _ (newExc (.type "StopIteration") [] >>=_) _ _ _
 refine wpAny_bind ?_
 simp only [newExc,newTuple]
 refine wpAny_bind (wpAny_newObj_type ?_ (by size_fits))
 refine wpAny_bind (m:=firstArgMember _ _) (wpAny_of_eq (a:=Value.none) (by first | rfl | (simp only [firstArgMember];rfl)) (wpAny_newObj_type ?_ (by size_fits)))
 simp only [raiseNew]
 refine wpAny_bind (wpAny_handled ?_)
 rw [show A.in1.handled=none from hh]
 refine wpAny_bind (wpAny_pure (wpAny_throw (?_:wpAny _ _ _ _ _ _)))
 refine wpAny_bind (wpAny_isInstance (b:=true) (T:="StopIteration") ⟨_,Heap.get?_push_size _ rfl,rfl⟩ isSubtype_stop ?_)
 exact wpAny_pure (q _ (((Heap.SameBut.update ..).extBut.push _).push _))
end
theorem Inv.freeze {X:Cx}{pins:List (Addr×Obj)}{σ :St}{H:Hp}{s:Shared}{d:Addr}{kvs:List (List Key×V)}{ob:Obj}(I:Inv X pins σ H s)(hd:H d=some (.dT kvs))(ho:s.heap.get? d=some ob):
  Inv X pins σ (upd H d (.frz ob (.dT kvs))) s:=by
 have nT:∀ {b:Addr} {u:HO},H b=some u→u≠.dT kvs→b≠d:=fun e n z=>by
  rw [z,hd] at e
  exact n (Option.some.inj e).symm
 refine I.step (h':=s.heap) (g':=s.gens) (d':=s.drawn) (t':=s.toks) (ch:=[]) (fun b hb=>(List.not_mem_nil hb).elim) (fun b u _ _ _ e _=>e) (fun b u _ _ _ e _=>⟨u.slots,e⟩)
  (fun b u _ _ n=>by rw [zam (fun z=>by rw [z,hd] at n;cases n)];exact n) (fun b u _ e=>⟨u,e⟩)
  (fun b xs q=>by rw [zam (nT q (fun z=>by cases z))];exact q) (fun b u xs q=>by rw [zam (nT q (fun z=>by cases z))];exact q)
  (fun b ps q=>⟨#[],by rw [zam (nT q (fun z=>by cases z)),q];simp⟩) (fun m hm=>hm) (fun b u e=>?_) I.bare
 have go:∀ u',zcB X.prog X.w H s.heap b u'→zcB X.prog X.w (upd H d (.frz ob (.dT kvs))) s.heap b u':=fun u' h=>
  h.stay (fun c v _ q=>q) (fun c q=>by rw [zam (nT q (fun z=>by cases z))];exact q) fun c xs q=>q.keep fun u eu hu=>by rw [zam (nT eu (fun z=>by obtain ⟨ys,hu | ⟨_,hu⟩⟩:=hu <;> (rw [hu] at z;cases z)))];exact eu
 by_cases hb:b=d
 ·subst hb
  rw [zab] at e
  cases e
  exact ⟨ho,go _ (I.hok b _ hd)⟩
 ·rw [zam hb] at e
  exact go u (I.hok b u e)
noncomputable def Iti (d:Addr) (ob:Obj):It:=
 ⟨fun i H => ∃ kvs p, H d = some (.frz ob (.dT kvs)) ∧ kvs[i]? = some p,
  fun i H v H'=>∃ T b k x,H T=none∧v= .ref T∧H'=upd H T (.tup [.ref b,x])∧RdT H b (k.map kV)∧∀ kvs,H d=some (.frz ob (.dT kvs))→kvs[i]? =some (k,x),
  fun i H=>∃ kvs,H d=some (.frz ob (.dT kvs))∧kvs.length≤i⟩
theorem zhj {α β :Type}{r: α→β→Prop}:∀ {xs:List α} {ys:List β} {i:Nat} {x: α},Paired r xs ys→xs[i]? =some x→∃ y,ys[i]? =some y∧r x y
 | _,_,0,_,.cons h _,e=>by cases e;exact ⟨_,rfl,h⟩
 | _,_,i+1,_,.cons _ t,e=>zhj (i:=i) t e
theorem zlR {X:Cx}{pins:List (Addr×Obj)}{σ :St}{H:Hp}{s:Shared}{d:Addr}{ob:Obj}{kvs:List (List Key×V)}{es:Array DictEntry}{ep:Nat}(I:Inv X pins σ H s)(hd:H d=some (.frz ob (.dT kvs)))(hx:ob.ExactDict)(he:ob.data= .dict es ep):
  EntD s.heap d es ep∧es.size=kvs.length∧∀ (i:Nat) p,kvs[i]? =some p→∃ (en:DictEntry) (b:Addr),es[i]? =some en∧en.key= .ref b∧RdT H b (p.1.map kV)∧RelV p.2 en.val:=by
 obtain ⟨h1,_,_,xs,pr,o,es',ep',e1,_,e3,e4,_⟩:=(show zcB X.prog X.w H s.heap d (.frz ob (.dT kvs)) from I.hok d _ hd)
 rw [h1] at e1
 cases e1
 rw [he] at e3
 cases e3
 have ls:es.size=xs.length:=by
  have:=congrArg List.length e4
  simpa using this
 refine ⟨⟨ob,h1,hx,he⟩,by rw [ls];exact (Paired.length pr).symm,fun i p hp=>?_⟩
 obtain ⟨y,hy,r1,r2,r3⟩:=zhj pr hp
 have hz:es.toList[i]? =some (entryOfKey (tupleKind (zaX X.prog X.w)) y):=by rw [e4,List.getElem?_map,hy];rfl
 exact ⟨_,y.2.1,by simpa using hz,rfl,r2,r3⟩
theorem zkw {P:Program}{w:World}{K:PySem.W.Frag}{elts:List Expr}{k:Nat}{tp:Pos}{ob:Obj}{es:Array DictEntry}{ep:Nat}(d it:Addr)(hx:ob.ExactDict)(he:ob.data= .dict es ep):
  Turn P w K (.Tuple elts k tp) (Iti d ob) [it] it (fun i h=>∃ u v,IsItemIter h it d i es.size ep u v) where
 mem:=by simp
 obj:=fun i h st c hc=>by
  obtain ⟨u,v,hJ⟩:=st
  rw [List.mem_singleton.mp hc]
  exact ⟨_,hJ,fun v z=>nomatch z⟩
 keep:=fun i h h' st kp=>by
  obtain ⟨u,v,hJ⟩:=st
  exact ⟨u,v,kp it (by simp) _ hJ⟩
 item:=by
  intro X hP hw hK hc i pins s σ H E I hf st hg
  subst hP hw hK
  obtain ⟨u,v,hJ⟩:=st
  obtain ⟨kvs,p,hd,hp⟩:=hg
  obtain ⟨hE,hz,each⟩:=zlR I hd hx he
  obtain ⟨en,b,h1,h2,h3,h4⟩:=each i p hp
  have fi:=hf it (by simp)
  have iT:it≠s.heap.objs.size:=Nat.ne_of_lt (Heap.lt_size hJ)
  refine zkM hJ hE h1 fun h' z1 z2 hk=>?_
  have I1:Inv X pins σ (upd H s.heap.objs.size (.tup [.ref b,p.2])) {s with heap:=h'}:=
   I.laidC (t':=s.toks) (ch:=[it]) hf (fun c o hc q=>hk c o (fun z=>hc (by simp [z])) q) (Nat.le_refl _)
    ⟨(by show 2≤sizeLine;decide),[en.key,en.val],.cons h2 (.cons h4 .nil),_,z2,rfl,_,rfl⟩
  refine ⟨_,rfl,wpAny_letOwnedTupleGo_items z1 fun h2' w1 sb=>?_⟩
  have I2:Inv X pins σ (upd H s.heap.objs.size (.tup [.ref b,p.2])) {s with heap:=h2'}:=
   I1.turned (t':=s.toks) (fun c o hc q=>(sb.2 c hc).trans q) (by rw [zam iT];exact fi.1) fi.2.1 fi.2.2.2.1 fi.2.2.2.2.1 fi.2.2.2.2.2
  refine ⟨.ref s.heap.objs.size,_,I2,rfl,⟨_,b,p.1,p.2,I.hok.fresh (Nat.le_refl _),rfl,rfl,h3,fun kvs' hd'=>?_⟩,⟨_,_,w1⟩,fun c hc=>?_⟩
  ·rw [hd] at hd'
   cases hd'
   exact hp
  ·rw [List.mem_singleton.mp hc,zam iT]
   exact fi.1
 done:=by
  intro X hP hw hK hc i pins s σ H E I hf st hg
  subst hP hw hK
  obtain ⟨u,v,hJ⟩:=st
  obtain ⟨kvs,hd,hp⟩:=hg
  obtain ⟨hE,hz,_⟩:=zlR I hd hx he
  have fi:=hf it (by simp)
  exact zlo (I.ok.hd hc) hJ hE (by omega) fun h' eb=>⟨rfl,I.turned (t':=s.toks) (fun c o hc q=>eb c o hc q) fi.1 fi.2.1 fi.2.2.2.1 fi.2.2.2.2.1 fi.2.2.2.2.2⟩
 self:=fun A i s Q E st h=>by
  obtain ⟨u,v,hJ⟩:=st
  exact PySem.W.kcp_self hJ h
noncomputable def znx (td:TE):TI:=fun σ H R=>td σ H fun x H1=>∃ d kvs,x= .ref d∧H1 d=some (.dT kvs)∧∀ ob,R (Iti d ob) (upd H1 d (.frz ob (.dT kvs)))
theorem znf {X:Cx}{o:Expr}{td:TE}{apos cpos tp:Pos}{elts:List Expr}{k:Nat}(ho:PE X o td)
  (hbase:attributeBase o "items" X.env (eval o X.env)=eval o X.env:=by rfl) (hline:(apos.endLine==cpos.line)=true:=by rfl):PI X (.Tuple elts k tp) (.Call (.Attribute o "items" apos) [] [] cpos) (znx td):=by
 intro pins s σ H R I h
 refine wpAny_Call_method0_late hbase hline (thn (ho pins s σ H _ I h) fun v s1 ⟨x,H1,I1,r1,d,kvs,ex,hd,q⟩=>?_)
 subst ex
 cases r1
 obtain ⟨_,nsys,xs,pr,ob,es,ep,e1,e2,e3,e4,e5⟩:=(show zcB X.prog X.w H1 s1.heap d (.dT kvs) from I1.hok d _ hd)
 have I2:=I1.freeze hd e1
 refine ⟨"dict","dict.items",PySem.F.plainAttrs_dict,PySem.F.slot_dict_items,PySem.F.type_dict_items,⟨ob,e1,e2.1⟩,fun a z=>by cases z;exact ⟨ob,e1,e2.2.1⟩,Calls.callWith_builtin rfl (PySem.evalArgs_none ?_)⟩
 refine zkD (es:=es) (ep:=ep) nsys ⟨ob,e1,e2,e3⟩ ?_
 have hE:EntD (s1.heap.push {cls:=.type "dict_items",data:=.fields #[.ref d]}) d es ep:=⟨ob,Heap.get?_push_of_some _ e1,e2,e3⟩
 refine zkn (es:=es) (ep:=ep) ⟨_,Heap.get?_push_size _ rfl,rfl,rfl⟩ hE ?_
 have I3:Inv X pins σ (upd H1 d (.frz ob (.dT kvs))) {s1 with heap:=(s1.heap.push {cls:=.type "dict_items",data:=.fields #[.ref d]})}:=I2.kept (t':=s1.toks) fun b u e=>Heap.get?_push_of_some _ e
 refine ⟨(s1.heap.push {cls:=.type "dict_items",data:=.fields #[.ref d]}).objs.size,[(s1.heap.push {cls:=.type "dict_items",data:=.fields #[.ref d]}).objs.size],_,_,_,rfl,I3.kept (t':=s1.toks) fun b u e=>Heap.get?_push_of_some _ e,
  zkw d _ e2 e3,⟨_,_,Heap.get?_push_size _ rfl⟩,fun b hb=>?_,q ob⟩
 rw [List.mem_singleton.mp hb]
 exact I3.fpOk (Nat.le_refl _) (I3.hok.fresh (Nat.le_refl _))
theorem zly {X:Cx}{o:Expr}{td:TE}{apos cpos tp:Pos}{elts:List Expr}{k:Nat}(ho:Bx (PE X o td))
  (hbase:attributeBase o "items" X.env (eval o X.env)=eval o X.env:=by rfl) (hline:(apos.endLine==cpos.line)=true:=by rfl):Bx (PI X (.Tuple elts k tp) (.Call (.Attribute o "items" apos) [] [] cpos) (znx td)):=⟨znf ho.1 hbase hline⟩
section
variable {g:TG} {tt:TT} {te:TE} {n0:Nat} {cap:List Nat} {σ :St} {Q:VK} {D:Addr} {H1:Hp}
theorem zkA {d:Addr}{ob:Obj}{kvs:List (List Key×V)}(Pv:Nat→Hp→Prop)(h0:Pv 0 (upd H1 D (.lst [])))(hl:∀ i H,i≤kvs.length→Pv i H→H d=some (.frz ob (.dT kvs)))
  (hs:∀ i b p H T,kvs[i]? =some p→Pv i H→H T=none→RdT H b (p.1.map kV)→g (.ref T) (zcf n0 cap σ) (upd H T (.tup [.ref b,p.2])) fun σ2 H2=>tt σ2 H2 fun c H3=>if c=true then te σ2 H3 fun y H4=>∃ xs,H4 D=some (.lst xs)∧xs.length < sizeLine∧Pv (i+1) (upd H4 D (.lst (xs++ [y]))) else Pv (i+1) H3)
  (hd:∀ H,Pv kvs.length H→Q (.ref D) H):zdR (Iti d ob) D n0 cap σ g tt te Q H1:=by
 refine ⟨fun i m H=>m=kvs.length - i∧i≤kvs.length∧Pv i H,⟨kvs.length,by simp,Nat.zero_le _,h0⟩,?_⟩
 rintro i m H ⟨rfl,hi,p⟩
 have q:=hl i H hi p
 by_cases hlt:i < kvs.length
 ·refine .inr ⟨⟨kvs,kvs[i],q,by simp [hlt]⟩,Pv (i+1),fun H' p'=>⟨kvs.length - (i+1),by omega,rfl,hlt,p'⟩,fun x H' y=>?_⟩
  obtain ⟨T,b,k,z,hT,e1,e2,hb,y⟩:=y
  subst e1 e2
  exact hs i b (k,z) H T (y kvs q) p hT hb
 ·have e:i=kvs.length:=by omega
  subst e
  exact .inl ⟨⟨kvs,q,Nat.le_refl _⟩,hd H p⟩
end
end L2
namespace L2
open PySem PySem.Spec PyProof.Rows
theorem HOk.thaw {P:Program}{w:World}{H:Hp}{h:Heap}{d:Addr}{ob:Obj}{kvs:List (List Key×V)}(k:HOk P w H h)(hd:H d=some (.frz ob (.dT kvs))):HOk P w (upd H d (.dT kvs)) h:=by
 have nT:∀ {b:Addr} {u:HO},H b=some u→u≠.frz ob (.dT kvs)→b≠d:=fun e n z=>by
  rw [z,hd] at e
  exact n (Option.some.inj e).symm
 have go:∀ (b:Addr) u',zcB P w H h b u'→zcB P w (upd H d (.dT kvs)) h b u':=fun b u' x=>
  x.stay (fun c v _ q=>q) (fun c q=>by rw [zam (nT q (fun z=>by cases z))];exact q) fun c xs q=>q.keep fun u eu hu=>by rw [zam (nT eu (fun z=>by obtain ⟨ys,hu | ⟨_,hu⟩⟩:=hu <;> (rw [hu] at z;cases z)))];exact eu
 intro b u e
 by_cases hb:b=d
 ·subst hb
  rw [zab] at e
  cases e
  exact go b _ (k b _ hd).2
 ·rw [zam hb] at e
  exact go b u (k b u e)
theorem Un.thaw {fs ex:List Addr}{H H':Hp}{h h':Heap}{d:Addr}{o u:HO}(x:Un fs ex H H' h h')(hd:H d=some o)(n1:∀ xs,o≠.tup xs)(n2:∀ a b,o≠.frz a b)(n3:∀ ps,o≠.tbl ps):Un fs ex H (upd H' d u) h h' where
 keep:=x.keep
 slot:=x.slot
 free:=fun b ob q n hx=>by
  rw [zam (fun z=>by rw [z,hd] at n;cases n)]
  exact x.free b ob q n hx
 there:=x.there
 tups:=fun b xs q=>by
  rw [zam (fun z=>by rw [z,hd] at q;exact n1 _ (Option.some.inj q))]
  exact x.tups b xs q
 frzs:=fun b a c q=>by
  rw [zam (fun z=>by rw [z,hd] at q;exact n2 _ _ (Option.some.inj q))]
  exact x.frzs b a c q
 tbls:=fun b ps q=>by
  rw [zam (fun z=>by rw [z,hd] at q;exact n3 _ (Option.some.inj q))]
  exact x.tbls b ps q
theorem FnOk.thaw {P:Program}{w:World}{K:PySem.W.Frag}{mg:Str→Option Value}{base:Heap}{CX:CXT}{k:Nat}{f:Addr}{fd:FuncData}{ps:List Str}{sp:Sp}(F:FnOk P w K mg base CX k f fd ps sp):
  FnOk P w K mg base CX k f fd ps (fun vs H Q E=>sp vs H (fun v H'=>∃ d ob k0 kvs,H d=some (.dT k0)∧H' d=some (.frz ob (.dT kvs))∧Q v (upd H' d (.dT kvs))) E):=by
 refine ⟨fun vs H Q E h=>F.len vs H _ E h,fun A outer s H args us vs Q E hr he hb hv hs=>?_⟩
 refine codeAny_mono (F.run A outer s H args us vs _ E hr he hb hv hs) fun r s' hq=>?_
 unfold CR at hq ⊢
 cases r with
 | error e=>exact hq
 | ok r=>
  cases r with
  | ret u=>
   obtain ⟨v,H',h1,h2,h3,h4,h5,d,ob,k0,kvs,hd,hd',q⟩:=hq
   exact ⟨v,_,h1,h2,h3.thaw hd (fun _ z=>by cases z) (fun _ _ z=>by cases z) (fun _ z=>by cases z),h4.thaw hd',h5,q⟩
  | _=>exact hq
end L2
namespace L2
open PySem PySem.Spec PyProof.Rows
section
variable {prog:Program} {w:World} {A:Around} {E:Value→Shared→Prop} {s:Shared} {Ky:Type} [DecidableEq Ky] {knd:HeapKind prog w Ky}
end
end L2
namespace L2
open PySem PySem.Spec PyProof.Rows
section
variable {prog:Program} {w:World} {A:Around} {E:Value→Shared→Prop} {s:Shared}
end
end L2
namespace L2
open PySem PySem.Spec PyProof.Rows
section
variable {prog:Program} {w:World} {A:Around} {E:Value→Shared→Prop} {s:Shared}
end
section
variable {X:Cx} {o:Expr} {td:TE} {p ap cp pos:Pos}
end
section
variable {g:TG} {tt:TT} {te:TE} {n0:Nat} {cap:List Nat} {σ :St} {Q:VK} {D:Addr} {H1:Hp}
end
end L2
namespace L2
open PySem PySem.Spec PyProof.Rows
open PySem.W (Dat kqdP kqdPs kqdOk)
section
variable {X:Cx}
open Classical in
end
end L2
namespace L2
open PySem PySem.Spec PyProof.Rows
section
variable {prog:Program} {w:World} {A:Around} {E:Value→Shared→Prop} {s:Shared}
end
section
variable {X:Cx}
end
end L2
namespace L2
open PySem
end L2
namespace L2
open PySem PySem.Spec PyProof.Rows
section
variable {X:Cx}
end
end L2
namespace L2
open PySem PySem.Spec PyProof.Rows
section
variable {prog:Program} {w:World} {A:Around} {E:Value→Shared→Prop} {s:Shared}
end
end L2
namespace L2
open PySem PySem.Spec PyProof.Rows
section
variable {prog:Program} {w:World} {A:Around} {E:Value→Shared→Prop} {s:Shared}
end
end L2
namespace L2
open PySem PySem.Spec PyProof.Rows
section
variable {prog:Program} {w:World} {A:Around} {E:Value→Shared→Prop} {s:Shared}
end
section
variable {prog:Program} {w:World} {A:Around} {E:Value→Shared→Prop} {s:Shared}
end
end L2
namespace L2
open PySem
end L2
namespace L2
open PySem PySem.Spec PyProof.Rows
section
variable {X:Cx}
end
end L2
namespace L2
open PySem PySem.Spec PyProof.Rows
section
variable {X:Cx} {tg:Expr}
end
section
end
section
variable {prog:Program} {w:World} {A:Around} {E:Value→Shared→Prop} {s:Shared}
end
end L2
namespace L2
open PySem PySem.Spec PyProof.Rows
section
variable {X:Cx} {pins:List (Addr×Obj)} {σ :St} {H1:Hp} {s1 s':Shared} {C S:Addr} {nid nid2:String} {bB bB2:List Value} {sx n:Str} {np hpos:Pos} {b₀ :Stmt} {suite:List Stmt} {j:Nat} {ts:TS} {D:Ends} {E':XK} {e:Value}
end
section
variable {X:Cx} {C S f:Addr} {k:Nat} {fd:FuncData} {ps:List Str} {sp:Sp} {dvs:List V} {ds:List Value} {nid nid2:String} {bB bB2:List Value} {fx sx n:Str} {p np hpos cpos epos pos:Pos} {b₀ :Stmt} {suite:List Stmt} {j:Nat} {t:TA} {ts:TS} {e:Expr} {es:List Expr}
end
end L2
namespace L2
open PySem PySem.Spec PyProof.Rows
theorem zic:∀ {ns:List Int} {vs:List Value},Vals (ns.map V.int) vs→IntsAre vs ns
 | [],_,h=>by cases h;exact .nil
 | n::ns,_,h=>by
  cases h with
  | cons a r=>
   obtain ⟨t,rfl⟩:=a
   exact .cons n t (zic r)
section
variable {X:Cx}
end
end L2
namespace L2
open PySem PySem.Spec PyProof.Rows
section
variable {K:PySem.W.Frag} {c:Addr} {xs:List Str}
end
end L2
namespace L2
open PySem PySem.Spec PyProof.Rows
end L2
namespace L2
open PySem PySem.Spec PyProof.Rows
end L2
namespace My
open PySem L2
open PySem.Builtin.Str (occurrences partsBetween strSub subAt)
end My
namespace L2
open PySem PySem.Spec PyProof.Rows
section
variable {X:Cx} {elt tg iter:Expr} {ifs:List Expr} {scope:Scope} {pos:Pos} {N:List Str} {n:Nat} {cap:List Nat} {wi:TI} {g:TG} {tt:TT} {te:TE}
end
section
variable {P:Program} {w:World} {K:PySem.W.Frag} {mg:Str→Option Value} {base:Heap} {N:List Str} {qual:Str} {scope:Scope} {f C:Addr} {cd:Value} {A:Around} {outer:List Env} {s:Shared} {H:Hp} {E:XK}
end
end L2
namespace L2
open PySem PySem.Spec PyProof.Rows
section
variable {X:Cx}
end
section
variable {X:Cx}
variable {D:Addr} {n0:Nat} {cap:List Nat} {σ :St} {g:TG} {tt:TT} {te:TE} {Q:VK} {H1:Hp}
end
end L2
namespace L2
open PySem PySem.Spec PyProof.Rows
section
variable {X:Cx} {pins:List (Addr×Obj)} {σ :St} {H:Hp} {s:Shared}
open PySem.Builtin PySem.Builtin.Str in
open PySem.Builtin PySem.Builtin.Str in
end
section
variable {X:Cx}
end
section
variable {X:Cx} {C S f:Addr} {k:Nat} {fd:FuncData} {ps:List Str} {sp:Sp} {dvs:List V} {ds:List Value} {nid nid2:String} {bB bB2:List Value} {fx sx n y:Str} {p np hpos cpos epos pos pos':Pos} {b₀ :Stmt} {suite:List Stmt} {i j:Nat} {t:TA} {ts:TS} {e:Expr} {es:List Expr}
end
end L2
namespace L2
open PySem PySem.Spec PyProof.Rows
end L2
namespace L2
open PySem PySem.Spec PyProof.Rows
end L2
namespace L2
open PySem PySem.Spec PyProof.Rows
noncomputable def zdc (c:Nat):List Int:=[((c / 2:Nat):Int),((c % 2:Nat):Int)]
noncomputable def zdI (c:Nat):Int:=reduceHash (Builtin.Tuple.tupleHashOf [hashInt ((c / 2:Nat):Int),hashInt ((c % 2:Nat):Int)])
noncomputable def zhh (te:SetTable×List Nat) (c:Nat):Option SetTable.Met:=te.1.probe (fun i=>((te.2[i]?).map zdI).getD 0) (zdI c) (te.1.probeStart (zdI c))
noncomputable def zjL (te:SetTable×List Nat) (c j:Nat):SetTable×List Nat:=((te.1.put j).1,te.2.take (te.1.put j).2++c::te.2.drop (te.1.put j).2)
noncomputable def znO (te:SetTable×List Nat) (c:Nat):SetTable×List Nat:=
 match zhh te c with
 | some (.empty j none)=>zjL te c j
 | _=>te
noncomputable def zdT (led:Bool):List (SetTable×List Nat):=
 let s0:=[((SetTable.fresh 0 0 led,[]):SetTable×List Nat)]
 let nx:=fun (l:List (SetTable×List Nat))=>l.flatMap fun te=>([0,1,2,3].filter fun c=>!te.2.contains c).map fun c=>znO te c
 s0++nx s0++nx (nx s0)++nx (nx (nx s0))++nx (nx (nx (nx s0)))
noncomputable def zdd (led:Bool) (te:SetTable×List Nat) (c:Nat):Bool:=
 te.1.fits te.2.length && !te.1.gaveWay && te.1.plain && (te.1.led==led) && decide (te.2.length≤4) &&
 (if te.2.contains c then
   (match zhh te c with
    | some (.candidate _ i _)=>te.2[i]? ==some c
    | _=>false)
  else
   (match zhh te c with
    | some (.empty j none)=>(zdT led).contains (zjL te c j) && !(te.1.put j).1.tooFull && (te.1.put j).1.plain
    | _=>false))
theorem zm8:([true,false].all fun led=>(zdT led).all fun te=>[0,1,2,3].all fun c=>zdd led te c)=true:=by decide+kernel
theorem zfI {led:Bool}{te:SetTable×List Nat}{c:Nat}(h:te∈zdT led)(hc:c < 4):zdd led te c=true:=by
 have h1:=List.all_eq_true.mp zm8 led (by cases led <;> simp)
 have h2:=List.all_eq_true.mp h1 te h
 refine List.all_eq_true.mp h2 c ?_
 have:c=0∨c=1∨c=2∨c=3:=by omega
 rcases this with rfl | rfl | rfl | rfl <;> simp
noncomputable def entP (p:Nat×Addr):Int×Value:=(zdI p.1,.ref p.2)
noncomputable def esP (L:List (Nat×Addr)):Array (Int×Value):=(L.map entP).toArray
noncomputable def zeu (prog:Program) (w:World) (h:Heap) (S:Addr) (led:Bool) (t:SetTable) (L:List (Nat×Addr)):Prop:=
 ∃ o ep,h.get? S=some o∧o.ExactSet∧o.data= .set (esP L) ep t∧(t,L.map Prod.fst)∈zdT led∧∀ p∈L,p.1 < 4∧IsTupleKey (intKind prog w) h (zdc p.1) p.2
theorem zna (L:List (Nat×Addr))(i:Nat):((esP L)[i]?.map (·.1)).getD 0=(((L.map Prod.fst)[i]?).map zdI).getD 0:=by
 simp only [esP,List.getElem?_toArray,List.getElem?_map]
 cases L[i]? <;> rfl
theorem zcL (L:List (Nat×Addr)):(esP L).size=L.length:=by simp [esP]
theorem zky (L:List (Nat×Addr))(p:Nat)(x:Nat×Addr):SetTable.insertAt (esP L) p (entP x)=esP (L.take p++x::L.drop p):=by
 refine Array.toList_inj.mp ?_
 rw [SetTable.toList_insertAt]
 simp [esP,List.map_take,List.map_drop]
section
variable {prog:Program} {w:World} {A:Around} {E:Value→Shared→Prop} {s:Shared}
theorem zfG {ks:List Int}{a:Addr}{Q:Bool→Shared→Prop}(hk:IsTupleKey (intKind prog w) s.heap ks a)(h:Q false s):wpAny (model prog w) A (ofAClassStatement 8 (.ref a)) Q E s:=by
 have hT:=hk.typeIs
 obtain ⟨o,items,n,ho,_,hd,hi⟩:=hk
 unfold ofAClassStatement
 refine wpAny_bind (wpAny_typeOf hT ?_)
 show wpAny _ _ (do
   let underTuple ← if ("tuple" :String)=="tuple" then pure true else isSubtype (.type "tuple") (.type "tuple")
   _) _ _ _
 refine wpAny_bind ?_
 refine wpAny_pure ?_
 simp only [Bool.not_true,Bool.false_eq_true,if_false]
 refine wpAny_bind (wpAny_seqItems ho hd ?_)
 refine wpAny_bind ?_
 show wpAny _ _ (forIn items _ _) _ _ s
 rw [← Array.forIn_toList]
 refine wpAny_forIn_list _ (fun rest r s'=>r.1=none∧s'=s∧∀ v∈rest,carriedByValue v=true) _ ?_ ?_ _ _ ⟨rfl,rfl,hi.byValue⟩
 ·rintro v rest r s' ⟨hr,rfl,hall⟩
  have hv:=hall v List.mem_cons_self
  have e:ofAClassStatement 7 v=pure false:=by
   cases v with
   | ref a=>simp [carriedByValue] at hv
   | _=>first | rfl | (unfold ofAClassStatement;rfl)
  rw [e]
  refine wpAny_bind (wpAny_pure ?_)
  simp only [Bool.false_eq_true,if_false]
  exact wpAny_pure ⟨rfl,rfl,fun u hu'=>hall u (List.mem_cons_of_mem _ hu')⟩
 ·rintro ⟨r1,r2⟩ s' ⟨hr,rfl,_⟩
  simp only at hr
  subst hr
  exact wpAny_pure h
theorem zkP {c:Nat}{a:Addr}{Q:Bool→Shared→Prop}(hu:A.units < cLine)(hk:IsTupleKey (intKind prog w) s.heap (zdc c) a)(ys:List Value)
  (hy:∀ y∈ys,∃ b d,y=Value.ref b∧IsTupleKey (intKind prog w) s.heap (zdc d) b) (h:Q false s):wpAny (model prog w) A (searchCouldBeSeen (.ref a) ys) Q E s:=by
 unfold searchCouldBeSeen
 refine wpAny_bind ?_
 refine wpAny_forIn_list _ (fun rest r s'=>r.1=none∧s'=s∧∀ y∈rest,∃ b d,y=Value.ref b∧IsTupleKey (intKind prog w) s.heap (zdc d) b) _ ?_ ?_ _ _ ⟨rfl,rfl,hy⟩
 ·rintro v rest r s' ⟨hr,rfl,hall⟩
  obtain ⟨b,d,rfl,hb⟩:=hall v List.mem_cons_self
  have hrest:∀ y∈rest,∃ b d,y=Value.ref b∧IsTupleKey (intKind prog w) s'.heap (zdc d) b:=fun u hu'=>hall u (List.mem_cons_of_mem _ hu')
  dsimp only
  split
  ·exact wpAny_pure ⟨rfl,rfl,hrest⟩
  ·refine wpAny_bind ((tupleKind (intKind prog w)).quiet hk ?_)
   simp only [Bool.not_true,Bool.false_eq_true,if_false]
   refine wpAny_bind ((tupleKind (intKind prog w)).quiet hb ?_)
   simp only [Bool.not_true,Bool.false_eq_true,if_false]
   refine wpAny_bind (zfG hk ?_)
   simp only [Bool.false_eq_true,if_false]
   refine wpAny_bind (zfG hb ?_)
   simp only [Bool.false_eq_true,if_false]
   exact wpAny_pure ⟨rfl,rfl,hrest⟩
 ·rintro ⟨r1,r2⟩ s' ⟨hr,rfl,_⟩
  simp only at hr
  subst hr
  exact wpAny_pure h
theorem ziM {ks:List Int}{a:Addr}{Q:Bool→Shared→Prop}(hk:IsTupleKey (intKind prog w) s.heap ks a)(h:Q true s):wpAny (model prog w) A (hashByValue 8 (.ref a)) Q E s:=by
 have hT:=hk.typeIs
 obtain ⟨o,items,n,ho,_,hd,hi⟩:=hk
 unfold hashByValue
 refine wpAny_bind (wpAny_specialOf hT PySem.F.slot_tuple_hash.lookup ?_)
 dsimp only
 refine wpAny_bind (wpAny_seqItems ho hd ?_)
 refine wpAny_bind ?_
 show wpAny _ _ (forIn items _ _) _ _ s
 rw [← Array.forIn_toList]
 refine wpAny_forIn_list _ (fun rest r s'=>r.1=none∧s'=s∧∃ kl,PySem.ItemsAre (intKind prog w) kl rest) _ ?_ ?_ _ _ ⟨rfl,rfl,ks,hi⟩
 ·rintro v rest r s' ⟨hr,rfl,kl,hall⟩
  cases hall with
  | @cons k _ kl' _ h1 h2=>
   obtain ⟨t,rfl⟩:=Value.isInt_shape h1
   have e:hashByValue 7 (Value.int k t)=pure true:=by unfold hashByValue;rfl
   rw [e]
   refine wpAny_bind (wpAny_pure ?_)
   simp only [Bool.not_true,Bool.false_eq_true,if_false]
   exact wpAny_pure ⟨rfl,rfl,kl',h2⟩
 ·rintro ⟨r1,r2⟩ s' ⟨hr,rfl,_⟩
  simp only at hr
  subst hr
  exact wpAny_pure h
theorem zgc {S a:Addr}{led:Bool}{t:SetTable}{L:List (Nat×Addr)}{c n:Nat}{Q:SetFound→Shared→Prop}(hu:A.units < cLine)(hS:zeu prog w s.heap S led t L)(hc:c < 4)
  (hk:IsTupleKey (intKind prog w) s.heap (zdc c) a) (h1:c∈L.map Prod.fst→Q (.there none) s)
  (h2:∀ j,c∉L.map Prod.fst→zhh (t,L.map Prod.fst) c=some (.empty j none)→Q (.free j false) s):wpAny (model prog w) A (setSearchFrom S (.ref a) (zdI c) true (n+1) none) Q E s:=by
 obtain ⟨o,ep,ho,hex,hd,htab,hall⟩:=hS
 have good:=zfI htab hc
 simp only [zdd,Bool.and_eq_true,Bool.not_eq_true',beq_iff_eq,List.length_map,decide_eq_true_eq] at good
 obtain ⟨⟨⟨⟨⟨hfit,hgw⟩,hpl⟩,hled⟩,hlen⟩,hask⟩:=good
 have hf:t.fits (esP L).size=true:=by rw [zcL];exact hfit
 unfold setSearchFrom
 refine wpAny_bind (wpAny_setState_of ho hd hf ?_)
 dsimp only
 rw [hgw]
 simp only [Bool.false_eq_true,if_false]
 have hfun:(fun i=>((esP L)[i]?.map (fun x:Int×Value=>x.1)).getD 0)=fun i:Nat=>(((L.map Prod.fst)[i]?).map zdI).getD 0:=funext (zna L)
 split
 rotate_left
 ·rename_i hno
  exfalso
  have e:zhh (t,L.map Prod.fst) c=none:=by
   show t.probe (fun i=>(((L.map Prod.fst)[i]?).map zdI).getD 0) (zdI c) (t.probeStart (zdI c))=none
   rw [← hfun]
   generalize hz:t.probe (fun i=>((esP L)[i]?.map (fun x:Int×Value=>x.1)).getD 0) (zdI c) (t.probeStart (zdI c))=z
   cases z with
   | none=>rfl
   | some m=>exact absurd hz (hno m)
  rw [e] at hask
  split at hask <;> exact Bool.noConfusion hask
 rename_i met heq
 have e:zhh (t,L.map Prod.fst) c=some met:=by
  show t.probe (fun i=>(((L.map Prod.fst)[i]?).map zdI).getD 0) (zdI c) (t.probeStart (zdI c))=some met
  rw [← hfun]
  exact heq
 rw [e] at hask
 by_cases hm:c∈L.map Prod.fst
 ·rw [if_pos (List.contains_iff_mem.mpr hm)] at hask
  cases met with
  | empty j d=>exact Bool.noConfusion hask
  | candidate j i nx=>
   simp only [beq_iff_eq] at hask
   rw [List.getElem?_map] at hask
   obtain ⟨p,hp,hpc⟩:=Option.map_eq_some_iff.mp hask
   have hes:(esP L)[i]? =some (zdI p.1,Value.ref p.2):=by
    show ((L.map entP).toArray)[i]? =_
    rw [List.getElem?_toArray,List.getElem?_map,hp]
    rfl
   have hpm:p∈L:=List.mem_of_getElem? hp
   have hpk:=(hall p hpm).2
   have rest:wpAny (model prog w) A (holding [Value.ref p.2] (eqBool (.ref p.2) (.ref a))) (fun equal s'=>equal=true∧s'=s) E s:=by
    refine wpAny_holding ((tupleKind (intKind prog w)).eqBool hu hpk hk ?_)
    exact ⟨by rw [hpc];exact decide_eq_true rfl,rfl⟩
   dsimp only
   rw [hes]
   dsimp only
   split
   ·refine wpAny_bind (zkP hu hk _ (fun y hy=>?_) ?_)
    ·obtain ⟨q,hq,rfl⟩:=List.mem_map.mp hy
     rw [Array.toList_filter] at hq
     have hq2:=(List.mem_filter.mp hq).1
     obtain ⟨p',hp',rfl⟩:=List.mem_map.mp (show q∈L.map entP from hq2)
     exact ⟨p'.2,p'.1,rfl,(hall p' hp').2⟩
    ·simp only [Bool.false_eq_true,if_false]
     refine wpAny_bind (wpAny_mono rest ?_ fun _ _ z=>z)
     rintro eq s' ⟨rfl,rfl⟩
     refine wpAny_bind (wpAny_setState_of ho hd hf ?_)
     exact wpAny_pure (h1 hm)
   ·refine wpAny_bind (wpAny_mono rest ?_ fun _ _ z=>z)
    rintro eq s' ⟨rfl,rfl⟩
    refine wpAny_bind (wpAny_setState_of ho hd hf ?_)
    exact wpAny_pure (h1 hm)
 ·rw [if_neg (fun z=>hm (List.contains_iff_mem.mp z))] at hask
  cases met with
  | candidate j i nx=>exact Bool.noConfusion hask
  | empty j d=>
   cases d with
   | some d=>exact Bool.noConfusion hask
   | none=>
    exact wpAny_pure (h2 j hm e)
theorem zis {h h':Heap}{ks:List Int}{a d:Addr}{o:Obj}(x:IsTupleKey (intKind prog w) h ks a)(ho:h.get? d=some o)(hd:o.ExactSet)(hs:Heap.SameBut d h h'):IsTupleKey (intKind prog w) h' ks a:=by
 obtain ⟨o',items,n,ho',hc,hd',hi⟩:=x
 have hne:a≠d:=by
  rintro rfl
  obtain rfl:o'=o:=Option.some.inj (ho'.symm.trans ho)
  rw [hd.1] at hc
  exact absurd (Value.type.inj hc) (by decide)
 exact ⟨o',items,n,(hs.2 a hne).trans ho',hc,hd',hi⟩
theorem zhZ {S a:Addr}{led:Bool}{t:SetTable}{L:List (Nat×Addr)}{c:Nat}{Q:Bool→Shared→Prop}(hu:A.units < cLine)(hS:zeu prog w s.heap S led t L)(hc:c < 4)
  (hk:IsTupleKey (intKind prog w) s.heap (zdc c) a)
  (h1:∀ tk,c∈L.map Prod.fst→Q false {s with toks:=tk})
  (h2:∀ h' tk t' L',c∉L.map Prod.fst→Heap.SameBut S s.heap h'→zeu prog w h' S led t' L'→List.Perm L' ((c,a)::L)→Q true {s with heap:=h',toks:=tk}):
  wpAny (model prog w) A (setAdd S (.ref a)) Q E s:=by
 unfold setAdd
 refine wpAny_holding ?_
 refine wpAny_bind ((tupleKind (intKind prog w)).pyHash (k:=zdc c) hu hk ?_)
 generalize htk:s.toks+(tupleKind (intKind prog w)).draws (zdc c)=tk
 show wpAny _ _ (setAddHashed S (.ref a) (zdI c)) _ _ _
 have hS0:=hS
 obtain ⟨o,ep,ho,hex,hd,htab,hall⟩:=hS0
 have good:=zfI htab hc
 simp only [zdd,Bool.and_eq_true,Bool.not_eq_true',beq_iff_eq,List.length_map,decide_eq_true_eq] at good
 obtain ⟨⟨⟨⟨⟨hfit,hgw⟩,hpl⟩,hled⟩,hlen⟩,hask⟩:=good
 have hf:t.fits (esP L).size=true:=by rw [zcL];exact hfit
 unfold setAddHashed setAddHashedIn
 refine wpAny_holding (wpAny_bind (wpAny_setState_of (s:={s with toks:=tk}) ho hd hf ?_))
 dsimp only
 rw [show byScan (Value.ref a) (esP L)=false from rfl]
 simp only [Bool.false_eq_true,if_false]
 unfold setSearch
 refine wpAny_bind (zgc (s:={s with toks:=tk}) hu hS hc hk (fun hm=>?_) fun j hm e=>?_)
 ·exact wpAny_pure (h1 tk hm)
 ·rw [if_neg (fun z=>hm (List.contains_iff_mem.mp z)),e] at hask
  simp only [Bool.and_eq_true,Bool.not_eq_true'] at hask
  obtain ⟨⟨hin,hnf⟩,hpl2⟩:=hask
  dsimp only
  refine wpAny_bind (wpAny_setState_of (s:={s with toks:=tk}) ho hd hf ?_)
  dsimp only
  rw [hpl2]
  simp only [if_true]
  refine wpAny_bind (ziM (s:={s with toks:=tk}) hk ?_)
  simp only [if_true]
  have hins:=zky L (t.put j).2 (c,a)
  have hL5:(esP (L.take (t.put j).2++(c,a)::L.drop (t.put j).2)).size≤5:=by
   rw [zcL,List.length_append,List.length_cons,List.length_take,List.length_drop]
   omega
  show wpAny _ _ (storeSet S (SetTable.insertAt (esP L) (t.put j).2 (entP (c,a))) _ >>=_) _ _ _
  rw [hins]
  refine wpAny_bind (wpAny_storeSet_of (s:={s with toks:=tk}) ho hd ?_ (Nat.le_trans hL5 (by rw [sizeLine_eq];omega)))
  rw [hnf]
  simp only [Bool.and_false,Bool.false_eq_true,if_false]
  refine wpAny_pure ?_
  have hsb:=Heap.SameBut.update s.heap S (Obj.putSet (esP (L.take (t.put j).2++(c,a)::L.drop (t.put j).2)) (t.put j).1)
  have hperm:List.Perm (L.take (t.put j).2++(c,a)::L.drop (t.put j).2) ((c,a)::L):=by
   refine List.perm_middle.trans (List.Perm.cons _ ?_)
   rw [List.take_append_drop]
  refine h2 _ tk (t.put j).1 (L.take (t.put j).2++(c,a)::L.drop (t.put j).2) hm hsb ⟨{o with data:=.set (esP (L.take (t.put j).2++(c,a)::L.drop (t.put j).2)) (ep+1) (t.put j).1},ep+1,?_,hex,rfl,?_,?_⟩ hperm
  ·have:=Heap.get?_update_self (Obj.putSet (esP (L.take (t.put j).2++(c,a)::L.drop (t.put j).2)) (t.put j).1) ho (by rw [putSet_of _ _ hd];rfl)
   rw [putSet_of _ _ hd] at this
   exact this
  ·have e2:zjL (t,L.map Prod.fst) c j=((t.put j).1,(L.take (t.put j).2++(c,a)::L.drop (t.put j).2).map Prod.fst):=by
    simp [zjL,List.map_take,List.map_drop]
   rw [← e2]
   exact List.contains_iff_mem.mp hin
  ·intro p hp
   rcases List.mem_cons.mp (hperm.mem_iff.mp hp) with rfl | hp'
   ·exact ⟨hc,zis hk ho hex hsb⟩
   ·exact ⟨(hall p hp').1,zis (hall p hp').2 ho hex hsb⟩
end
end L2
namespace L2
open PySem PySem.Spec PyProof.Rows
noncomputable def GotP (L xs:List (Nat×Addr)):Prop:=(∀ p∈L,p∈xs)∧(∀ x∈xs,x.1∈L.map Prod.fst)∧(L.map Prod.fst).Nodup
theorem GotP.nil:GotP [] []:=⟨fun _ h=>h,fun _ h=>(List.not_mem_nil h).elim,List.nodup_nil⟩
theorem GotP.old {L xs:List (Nat×Addr)}{x:Nat×Addr}(h:GotP L xs)(hm:x.1∈L.map Prod.fst):GotP L (xs++ [x]):=by
 refine ⟨fun p hp=>List.mem_append_left _ (h.1 p hp),fun y hy=>?_,h.2.2⟩
 rcases List.mem_append.mp hy with hy | hy
 ·exact h.2.1 y hy
 ·rw [List.mem_singleton.mp hy];exact hm
theorem GotP.new {L L' xs:List (Nat×Addr)}{x:Nat×Addr}(h:GotP L xs)(hm:x.1∉L.map Prod.fst)(p:List.Perm L' (x::L)):GotP L' (xs++ [x]):=by
 refine ⟨fun q hq=>?_,fun y hy=>?_,?_⟩
 ·rcases List.mem_cons.mp (p.mem_iff.mp hq) with rfl | hq
  ·exact List.mem_append_right _ (List.mem_singleton.mpr rfl)
  ·exact List.mem_append_left _ (h.1 q hq)
 ·refine (p.map Prod.fst).mem_iff.mpr ?_
  rcases List.mem_append.mp hy with hy | hy
  ·exact List.mem_cons_of_mem _ (h.2.1 y hy)
  ·rw [List.mem_singleton.mp hy];exact List.mem_cons_self
 ·exact (p.map Prod.fst).nodup_iff.mpr (List.nodup_cons.mpr ⟨hm,h.2.2⟩)
section
variable {prog:Program} {w:World}
theorem zeu.keep {h h':Heap}{I S:Addr}{led:Bool}{t:SetTable}{L:List (Nat×Addr)}(hm:zeu prog w h S led t L)(hS:S≠I)(hI:∃ oi,h.get? I=some oi∧oi.cls≠.type "tuple")
  (hk:∀ b o,b≠I→h.get? b=some o→h'.get? b=some o):zeu prog w h' S led t L:=by
 obtain ⟨o,ep,ho,hex,hd,htab,hall⟩:=hm
 obtain ⟨oi,e1,e2⟩:=hI
 refine ⟨o,ep,hk _ _ hS ho,hex,hd,htab,fun p hp=>⟨(hall p hp).1,?_⟩⟩
 obtain ⟨o',it,n,e,c,r⟩:=(hall p hp).2
 refine ⟨o',it,n,hk _ _ (fun z=>?_) e,c,r⟩
 rw [z,e1] at e
 cases e
 exact e2 c
end
section
variable {prog:Program} {w:World} {A:Around} {R:Result→Shared→Prop}
theorem zfM {S I l:Addr}{items:Array Value}{h0:Heap}{xs:List (Nat×Addr)}{led:Bool}(hA:A.in1.handled=none)(hu:A.in1.units < cLine)(hlI:l≠I)(hSI:S≠I)(hSl:S≠l)
  (hS0:h0.get? S=none) (hI0:h0.get? I=none)
  (good:∀ (i:Nat) (x:Nat×Addr),xs[i]? =some x→items[i]? =some (Value.ref x.2)∧x.1 < 4∧IsTupleKey (intKind prog w) h0 (zdc x.1) x.2) (hn:items.size=xs.length):
  ∀ (k i:Nat) (s:Shared) (t:SetTable) (L:List (Nat×Addr)),xs.length - i=k→i≤xs.length→s.heap.IsListIter I l i→s.heap.IsList l items→zeu prog w s.heap S led t L→GotP L (xs.take i)→
   (∀ b o,h0.get? b=some o→s.heap.get? b=some o)→
   (∀ h' tk t' L',zeu prog w h' S led t' L'→GotP L' xs→(∀ b o,h0.get? b=some o→h'.get? b=some o)→R (.ok (.ret .none)) {s with heap:=h',toks:=tk})→
   codeAny (model prog w) A (.builtin "set.update.loop" ⟨[.ref S,.ref I],[]⟩) R s:=by
 have W:=Walks.list (prog:=prog) (w:=w) hA I l hlI items
 intro k
 induction k with
 | zero=>
  intro i s t L hk hi hit hl hm hg hkeep hR
  have hin:i=items.size:=by omega
  refine codeAny_builtin PyProof.Rows.F.entry_set_update_loop ?_
  rw [Around.under_plainId PyProof.Rows.F.plain_set_update_loop _]
  show wpAny _ A.in1 (pyNext (.ref I) >>=_) _ _ s
  refine wpAny_bind (W.done s _ _ (by rw [← hin];exact ⟨hit,hl⟩) fun h' tk hk'=>?_)
  have hk2:∀ b o,b≠I→s.heap.get? b=some o→h'.get? b=some o:=fun b o hb e=>hk' b o (by simpa using hb) e
  have et:xs.take i=xs:=List.take_of_length_le (by omega)
  rw [et] at hg
  obtain ⟨oi,ei,ec⟩:=zf5 hit
  show wpAny _ A.in1 (ret Value.none) _ _ _
  exact wpAny_pure (hR h' tk t L (hm.keep hSI ⟨oi,ei,by rw [ec];intro z;exact absurd (Value.type.inj z) (by decide)⟩ hk2) hg fun b o e=>hk2 b o (fun z=>by rw [z,hI0] at e;cases e) (hkeep b o e))
 | succ k ih=>
  intro i s t L hk hi hit hl hm hg hkeep hR
  have hlt:i < xs.length:=by omega
  obtain ⟨hp,hc4,hkey⟩:=good i xs[i] (List.getElem?_eq_getElem hlt)
  have htk:xs.take (i+1)=xs.take i++ [xs[i]]:=by rw [List.take_add_one,List.getElem?_eq_getElem hlt];rfl
  refine codeAny_builtin PyProof.Rows.F.entry_set_update_loop ?_
  rw [Around.under_plainId PyProof.Rows.F.plain_set_update_loop _]
  show wpAny _ A.in1 (pyNext (.ref I) >>=_) _ _ s
  refine wpAny_bind (W.item i s _ _ (by omega) ⟨hit,hl⟩ fun v h' tk hP hst' hk'=>?_)
  rw [hp] at hP
  cases hP
  have hk2:∀ b o,b≠I→s.heap.get? b=some o→h'.get? b=some o:=fun b o hb e=>hk' b o (by simpa using hb) e
  have hkeep':∀ b o,h0.get? b=some o→h'.get? b=some o:=fun b o e=>hk2 b o (fun z=>by rw [z,hI0] at e;cases e) (hkeep b o e)
  obtain ⟨oi,ei,ec⟩:=zf5 hit
  have hm':=hm.keep hSI ⟨oi,ei,by rw [ec];intro z;exact absurd (Value.type.inj z) (by decide)⟩ hk2
  have hkey':IsTupleKey (intKind prog w) h' (zdc xs[i].1) xs[i].2:=by
   obtain ⟨o,it,n,e,r⟩:=hkey
   exact ⟨o,it,n,hkeep' _ _ e,r⟩
  show wpAny _ A.in1 (holding [Value.ref xs[i].2] (setAdd S (.ref xs[i].2)) >>=_) _ _ _
  refine wpAny_bind (wpAny_holding (zhZ (s:={s with heap:=h',toks:=tk}) hu hm' hc4 hkey' (fun tk' hmem=>?_) fun h2 tk' t' L' hmem hsb hm2 hperm=>?_))
  ·refine wpAny_pure ⟨plainId_quiet PyProof.Rows.F.plain_set_update_loop _,ih (i+1) _ t L (by omega) (by omega) hst'.1 hst'.2 hm' ?_ hkeep' fun h3 tk3 t3 L3 a b c=>hR h3 tk3 t3 L3 a b c⟩
   rw [htk]
   exact hg.old hmem
  ·have hk3:∀ b o,b≠S→h'.get? b=some o→h2.get? b=some o:=fun b o hb e=>(hsb.2 b hb).trans e
   refine wpAny_pure ⟨plainId_quiet PyProof.Rows.F.plain_set_update_loop _,ih (i+1) _ t' L' (by omega) (by omega) (hst'.1.at fun o e=>hk3 _ _ (Ne.symm hSI) e) (hst'.2.at fun o e=>hk3 _ _ (Ne.symm hSl) e) hm2 ?_ (fun b o e=>hk3 b o (fun z=>by rw [z,hS0] at e;cases e) (hkeep' b o e)) fun h3 tk3 t3 L3 a b c=>hR h3 tk3 t3 L3 a b c⟩
   rw [htk]
   exact hg.new hmem hperm
end
section
variable {prog:Program} {w:World} {A:Around} {E:Value→Shared→Prop} {s:Shared}
noncomputable def zfn (w:World):Bool:=!w.params.followText "set-order"
theorem zhI (a:Value){Q₁ :Value→Shared→Prop}
  (h:Q₁ (.ref s.heap.objs.size) {s with heap:=s.heap.push {cls:=.type "set",dict:=none,data:=.set #[] 0 (.fresh 0 0 (zfn w))}}):
  codeAny (model prog w) A (.call (.builtin "set.__new__") ⟨[.type "set",a],[]⟩) (wants Q₁ E) s:=by
 refine codeAny_of_tree ?_
 show wpAny _ A.in1 (do checkBuiltinCall "set.__new__" ⟨[.type "set",a],[]⟩;again (.builtin "set.__new__" ⟨[.type "set",a],[]⟩)) _ _ s
 refine wpAny_bind (wpAny_of_eq (PySem.F.newCall_set_1 a) (wpAny_pure ⟨plainId_quiet PySem.F.plain_set_new _,codeAny_builtin PySem.F.entry_set_new ?_⟩))
 rw [Around.under_plainId PySem.F.plain_set_new _]
 unfold Builtin.«set.__new__» Builtin.Frozenset.newClass
 have hsub:=sub_set_self
 obtain ⟨hp,g,d,tk,os⟩:=s
 dsimp only
 wp_walk
 refine wpAny_askSetting (wpAny_pure ?_)
 dsimp only
 simp only [newObj]
 refine wpAny_bind (wpAny_alloc (wpAny_pure ?_))
 exact wpAny_pure h
set_option maxRecDepth 100000 in
set_option maxHeartbeats 3200000 in
theorem zgV {l:Addr}{items:Array Value}{xs:List (Nat×Addr)}{Q:Value→Shared→Prop}
  (hh:A.handled=none) (hu:A.units+64 < cLine) (hl:s.heap.IsList l items)
  (good:∀ (i:Nat) (x:Nat×Addr),xs[i]? =some x→items[i]? =some (Value.ref x.2)∧x.1 < 4∧IsTupleKey (intKind prog w) s.heap (zdc x.1) x.2) (hn:items.size=xs.length)
  (h:∀ h' tk t' L',zeu prog w h' s.heap.objs.size (zfn w) t' L'→GotP L' xs→(∀ b o,s.heap.get? b=some o→h'.get? b=some o)→Q (.ref s.heap.objs.size) {s with heap:=h',toks:=tk}):
  wpAny (model prog w) A (call (.type "set") [.ref l]) Q E s:=by
 obtain ⟨c,tl,hmro⟩:=PySem.F.called_set.mro
 have hmade:=PySem.F.called_set.made
 have hsub:=PySem.F.called_set.sub
 refine wpAny_call (codeAny_of_tree ?_)
 show wpAny _ _ (callAny (.type "set") _) _ _ _
 refine wpAny_pure ⟨Code.quiet_builtin _ (by decide+kernel),codeAny_builtin PySem.F.entry_type_call ?_⟩
 rw [Around.under_plain (weight_type_call_type "set" [.ref l] []) rfl]
 have h1:=PySem.F.called_set.notType
 have h2:=PySem.F.called_set.canCreate
 have hct:=PySem.F.typeCall_set_1 (.ref l)
 repeat (any_goals (first | assumption | wp_step))
 refine codeAny_mono (zhI (.ref l) (E:=E) (Q₁ :=fun obj s₁ =>obj= .ref s.heap.objs.size∧s₁ = {s with heap:=s.heap.push {cls:=.type "set",dict:=none,data:=.set #[] 0 (.fresh 0 0 (zfn w))}}) ⟨rfl,rfl⟩) fun r s₁ hr=>?_
 cases r with
 | error e=>exact hr
 | ok fl=>
  cases fl with
  | ret obj=>
   obtain ⟨rfl,rfl⟩:=hr
   generalize hled:zfn w=led at h ⊢
   have hS:(s.heap.push {cls:=.type "set",dict:=none,data:=.set #[] 0 (.fresh 0 0 led)}).get? s.heap.objs.size=some {cls:=.type "set",dict:=none,data:=.set #[] 0 (.fresh 0 0 led)}:=Heap.get?_push_size _ rfl
   have hT:Shared.TypeIs {s with heap:=s.heap.push {cls:=.type "set",dict:=none,data:=.set #[] 0 (.fresh 0 0 led)}} (.ref s.heap.objs.size) "set" :=⟨_,hS,rfl⟩
   have hli:=PySem.F.called_set.init.lookup
   have hbi:=PySem.F.called_set.init.bind (.ref s.heap.objs.size)
   repeat (any_goals (first | assumption | wp_step))
   refine codeAny_mono (codeAny_call_builtin (R:=wants (fun r s₂ =>r= .none∧∃ h' tk t' L',s₂ = {s with heap:=h',toks:=tk}∧
     zeu prog w h' s.heap.objs.size led t' L'∧GotP L' xs∧
     (∀ b o,s.heap.get? b=some o→h'.get? b=some o)) E) PySem.F.called_set.init.plain PySem.F.entry_set_init (check_set_init_1 hT ?_)) fun r₂ s₂ hr₂ =>?_
   ·obtain ⟨ol,hol,hcl,nl,hdl⟩:=hl
    obtain ⟨ocls,odict,odata,oslots⟩:=ol
    simp only at hcl hdl
    subst hcl;subst hdl
    have hol':(s.heap.push {cls:=.type "set",dict:=none,data:=.set #[] 0 (.fresh 0 0 led)}).get? l=some {cls:=.type "list",dict:=odict,data:=.seq items nl,slots:=oslots}:=Heap.get?_push_of_some _ hol
    have hsls:=PySem.F.sub_list_set
    have hslf:=PySem.F.sub_list_frozenset
    have hne:(Value.type "list" ==Value.type "dict")=false:=by decide
    have hl1:(s.heap.push {cls:=.type "set",dict:=none,data:=.set #[] 0 (.fresh 0 0 led)}).IsList l items:=⟨_,hol',rfl,nl,rfl⟩
    unfold Builtin.«set.__init__» noKeywords Builtin.Frozenset.updateFrom
    generalize hPI:pyIter=PI
    wp_walk
    subst hPI
    refine wpAny_pyIter_list hl1 ?_
    refine wpAny_bind (wpAny_runValue ?_)
    have hlS:l < s.heap.objs.size:=Heap.lt_size hol
    have hh3:A.in1.in1.in1.handled=none:=by simp [hh]
    have hneI:l≠(s.heap.push {cls:=.type "set",dict:=none,data:=.set #[] 0 (.fresh 0 0 led)}).objs.size:=by
     rw [Heap.size_push];exact Nat.ne_of_lt (Nat.lt_succ_of_lt hlS)
    refine zfM (h0:=s.heap) (xs:=xs) (led:=led) hh3 ?hu3 hneI ?hSI (Nat.ne_of_gt hlS) ?hS0 ?hI0 good hn (xs.length - 0) 0 _ (.fresh 0 0 led) [] (by omega) (Nat.zero_le _)
     ⟨_,Heap.get?_push_size _ rfl,rfl,rfl⟩ (hl1.push _) ?hP ?hG ?hK ?hR
    case hu3=>exact (show A.units+1+1+1 < cLine by omega)
    case hSI=>rw [Heap.size_push];exact Nat.ne_of_lt (Nat.lt_succ_self _)
    case hS0=>
     cases hq:s.heap.get? s.heap.objs.size with
     | none=>rfl
     | some o'=>exact absurd (Heap.lt_size hq) (Nat.lt_irrefl _)
    case hI0=>
     cases hq:s.heap.get? (s.heap.push {cls:=.type "set",dict:=none,data:=.set #[] 0 (.fresh 0 0 led)}).objs.size with
     | none=>rfl
     | some o'=>
      have:=Heap.lt_size hq
      rw [Heap.size_push] at this
      exact absurd (Nat.lt_of_succ_lt this) (Nat.lt_irrefl _)
    case hP=>
     refine ⟨_,0,Heap.get?_push_of_some _ hS,⟨rfl,rfl,rfl⟩,rfl,?_,fun p hp=>(List.not_mem_nil hp).elim⟩
     show _∈zdT led
     exact List.mem_append_left _ (List.mem_append_left _ (List.mem_append_left _ (List.mem_append_left _ (List.mem_singleton.mpr rfl))))
    case hG=>exact GotP.nil
    case hK=>exact fun b o e=>Heap.get?_push_of_some _ (Heap.get?_push_of_some _ e)
    case hR=>
     intro h' tk' t' L' hP hG hK
     show wpAny _ _ _ _ _ _
     refine wpAny_pure ?_
     show wpAny _ _ (ret Value.none) _ _ _
     exact wpAny_pure ⟨rfl,h',tk',t',L',rfl,hP,hG,hK⟩
   ·cases r₂ with
    | error e=>exact hr₂
    | ok fl₂ =>
     cases fl₂ with
     | ret r=>
      obtain ⟨rfl,h',tk,t',L',rfl,hP,hG,hK⟩:=hr₂
      repeat (any_goals (first | assumption | wp_step))
      exact h _ _ _ _ hP hG hK
     | _=>exact hr₂.elim
  | _=>exact hr.elim
end
end L2
namespace L2
open PySem PySem.Spec PyProof.Rows
theorem zbe:Slot "set_iterator" "__next__" "set_iterator.__next__" :=
 .of (owner:="set_iterator") (n:="__next__") (by rw [typeLookup_type,builtinLookup_eq_fast];kernel_rfl) (by decide+kernel) (by decide+kernel) (by decide+kernel)
  (by first | exact .inl (by decide+kernel) | exact .inr (by decide+kernel)) (by rw [isSubtype_type];kernel_rfl)
theorem zdn:Slot "set_iterator" "__iter__" "set_iterator.__iter__" :=
 .of (owner:="set_iterator") (n:="__iter__") (by rw [typeLookup_type,builtinLookup_eq_fast];kernel_rfl) (by decide+kernel) (by decide+kernel) (by decide+kernel)
  (by first | exact .inl (by decide+kernel) | exact .inr (by decide+kernel)) (by rw [isSubtype_type];kernel_rfl)
theorem zc9:entryFor table "set_iterator.__next__" =some Builtin.«set_iterator.__next__» :=entryFor_of_fast (by kernel_rfl)
theorem zeW:entryFor table "set_iterator.__iter__" =some Builtin.«dict_keyiterator.__iter__» :=
 entryFor_alias (id':="dict_keyiterator.__iter__") (by kernel_rfl) rfl (by decide+kernel) (by kernel_rfl)
theorem zdl (a:Value):argsOk "set_iterator.__next__" ⟨[a],[]⟩:=by unfold argsOk;kernel_rfl
theorem zff (a:Value):argsOk "set_iterator.__iter__" ⟨[a],[]⟩:=by unfold argsOk;kernel_rfl
theorem zgS:entryFor table "set.__iter__" =some Builtin.«frozenset.__iter__» :=
 entryFor_alias (id':="frozenset.__iter__") (by kernel_rfl) rfl (by decide+kernel) (by kernel_rfl)
noncomputable def zhQ (te:SetTable×List Nat):Bool:=
 (SetTable.below te.1.place 0==0) && (List.range te.2.length).all fun i=>match te.1.place[i]? with
  | some j=>SetTable.below te.1.place (j+1)==i+1
  | none=>false
theorem zmb:([true,false].all fun led=>(zdT led).all zhQ)=true:=by decide+kernel
theorem zjS {led:Bool}{te:SetTable×List Nat}(h:te∈zdT led):zhQ te=true:=
 List.all_eq_true.mp (List.all_eq_true.mp zmb led (by cases led <;> simp)) te h
theorem zlq {α :Type}(next:Nat→Nat):∀ (n k:Nat) (left:List α) (out:Array α),left.length=n→List.Perm (pickOrder.go next n k left out).toList (out.toList++left)
 | 0,k,left,out,h=>by
  have:left= []:=List.length_eq_zero_iff.mp h
  subst this
  show List.Perm out.toList _
  rw [List.append_nil]
 | n+1,k,left,out,h=>by
  have hlt:next k % left.length < left.length:=Nat.mod_lt _ (by omega)
  show List.Perm (match left[next k % left.length]? with
   | some x=>pickOrder.go next n (k+1) (left.eraseIdx (next k % left.length)) (out.push x)
   | none=>out).toList _
  rw [List.getElem?_eq_getElem hlt]
  refine (zlq next n (k+1) _ _ (by rw [List.length_eraseIdx_of_lt hlt];omega)).trans ?_
  rw [Array.toList_push,List.append_assoc]
  refine List.Perm.append_left _ ?_
  rw [List.eraseIdx_eq_take_drop_succ]
  have e:left=left.take (next k % left.length)++left[next k % left.length]::left.drop (next k % left.length+1):=by
   rw [← List.drop_eq_getElem_cons hlt,List.take_append_drop]
  exact (List.perm_middle (l₁ :=left.take (next k % left.length))).symm.trans (List.Perm.of_eq e.symm)
theorem zln {α :Type}(next:Nat→Nat)(xs:Array α):List.Perm (pickOrder next xs).toList xs.toList:=by
 have:=zlq next xs.size 0 xs.toList #[] (by simp)
 simpa [pickOrder] using this
noncomputable def zdJ (w:World) (S:Addr) (ep:Nat) (L:List (Nat×Addr)):List Value:=
 if w.params.followText "set-order" =true then (pickOrder (w.params.setOrder S ep) (esP L)).toList.map (·.2) else L.map fun p=>Value.ref p.2
theorem zhn (w:World)(S:Addr)(ep:Nat)(L:List (Nat×Addr)):List.Perm (zdJ w S ep L) (L.map fun p=>Value.ref p.2):=by
 unfold zdJ
 split
 ·refine ((zln _ (esP L)).map _).trans ?_
  simp [esP,entP,Function.comp_def]
 ·exact .rfl
noncomputable def zgC (w:World) (h:Heap) (I S:Addr) (ep:Nat) (t:SetTable) (L:List (Nat×Addr)) (i:Nat):Prop:=
 ∃ (o oS:Obj) (slot:Nat),h.get? I=some o∧o.cls= .type "set_iterator"∧o.data= .fields #[.int slot 0,.int i 0,.ref S,.int (L.length:Nat) 0,.int ep 0]∧(w.params.followText "set-order" =false→SetTable.below t.place slot=i)∧
  h.get? S=some oS∧oS.data= .set (esP L) ep t
section
variable {prog:Program} {w:World} {A:Around} {E:Value→Shared→Prop} {s:Shared}
theorem zhF {Q:Bool→Shared→Prop}(h:Q (w.params.followText "set-order") s):wpAny (model prog w) A setsByText Q E s:=by
 unfold setsByText
 exact wpAny_bind (wpAny_askSetting (wpAny_pure h))
theorem znq {S:Addr}{ep slot i:Nat}{t:SetTable}{L:List (Nat×Addr)}{led:Bool}{o:Obj}{Q:Option (Value×Nat)→Shared→Prop}(ho:s.heap.get? S=some o)(hd:o.data= .set (esP L) ep t)(htab:(t,L.map Prod.fst)∈zdT led)
  (hled:led=zfn w) (hb:w.params.followText "set-order" =false→SetTable.below t.place slot=i)
  (h1:∀ v nx,(zdJ w S ep L)[i]? =some v→SetTable.below t.place nx=i+1→w.params.followText "set-order" =false→Q (some (v,nx)) s)
  (h2:∀ v,(zdJ w S ep L)[i]? =some v→w.params.followText "set-order" =true→Q (some (v,slot)) s)
  (h3:(zdJ w S ep L)[i]? =none→Q none s):
  wpAny (model prog w) A (setNext S slot i ep) Q E s:=by
 have good:=zfI htab (c:=0) (by omega)
 simp only [zdd,Bool.and_eq_true,Bool.not_eq_true',beq_iff_eq,List.length_map,decide_eq_true_eq] at good
 obtain ⟨⟨⟨⟨⟨hfit,hgw⟩,hpl⟩,hl⟩,hlen⟩,_⟩:=good
 have hf:t.fits (esP L).size=true:=by rw [zcL];exact hfit
 have hwk:=zjS htab
 simp only [zhQ,Bool.and_eq_true,List.length_map] at hwk
 unfold setNext
 refine wpAny_bind (wpAny_setState_of ho hd hf ?_)
 dsimp only
 refine wpAny_bind (zhF ?_)
 by_cases hx:w.params.followText "set-order" =true
 ·rw [hx]
  simp only [if_true]
  rw [if_neg (by simp)]
  refine wpAny_bind ?_
  unfold setWalk
  refine wpAny_bind (wpAny_setState_of ho hd hf ?_)
  dsimp only
  refine wpAny_bind (zhF ?_)
  rw [hx]
  simp only [if_true]
  refine wpAny_bind (wpAny_askSetting (wpAny_pure ?_))
  have hv:(zdJ w S ep L)[i]? =((pickOrder (w.params.setOrder S ep) (esP L))[i]?).map (·.2):=by
   unfold zdJ
   rw [if_pos hx,List.getElem?_map,Array.getElem?_toList]
  show wpAny _ _ (pure (((pickOrder (w.params.setOrder S ep) (esP L))[i]?).map fun e=>(e.2,slot))) _ _ _
  cases hq:(pickOrder (w.params.setOrder S ep) (esP L))[i]? with
  | none=>
   rw [hq] at hv
   exact wpAny_pure (h3 hv)
  | some e=>
   rw [hq] at hv
   exact wpAny_pure (h2 e.2 hv hx)
 ·have hx':w.params.followText "set-order" =false:=by simpa using hx
  rw [hx']
  simp only [Bool.false_eq_true,if_false]
  have hled':t.led=true:=by rw [hl,hled];unfold zfn;rw [hx'];rfl
  have hv:(zdJ w S ep L)[i]? =(L[i]?).map fun p=>Value.ref p.2:=by
   unfold zdJ
   rw [if_neg hx,List.getElem?_map]
  split
  ·rename_i hdr
   have hdr':(!t.plain && decide ((esP L).size > 1))=true:=hdr
   rw [hpl] at hdr'
   exact Bool.noConfusion hdr'
  ·refine wpAny_bind ?_
   show wpAny _ _ (if (!t.led && !(esP L).isEmpty)=true then unsupported "set:maker-not-led" else pure ()) _ _ _
   rw [hled']
   refine wpAny_pure ?_
   rw [hb hx']
   cases hq:L[i]? with
   | none=>
    have e1:(esP L)[i]? =none:=by
     show ((L.map entP).toArray)[i]? =_
     rw [List.getElem?_toArray,List.getElem?_map,hq]
     rfl
    rw [hq] at hv
    rw [e1]
    exact wpAny_pure (h3 hv)
   | some p=>
    have e1:(esP L)[i]? =some (zdI p.1,Value.ref p.2):=by
     show ((L.map entP).toArray)[i]? =_
     rw [List.getElem?_toArray,List.getElem?_map,hq]
     rfl
    have hi:i < L.length:=(List.getElem?_eq_some_iff.mp hq).1
    have hw2:=List.all_eq_true.mp hwk.2 i (List.mem_range.mpr hi)
    rw [hq] at hv
    rw [e1]
    cases hj:t.place[i]? with
    | none=>rw [hj] at hw2;exact Bool.noConfusion hw2
    | some j=>
     rw [hj] at hw2
     exact wpAny_pure (h1 _ (j+1) hv (eq_of_beq hw2) hx')
theorem zdm {I S:Addr}{ep:Nat}{t:SetTable}{L:List (Nat×Addr)}{i:Nat}(h:zgC w s.heap I S ep t L i):s.TypeIs (.ref I) "set_iterator" :=by
 obtain ⟨o,oS,slot,ho,hc,_⟩:=h
 exact ⟨o,ho,hc⟩
theorem zlz (w:World)(S:Addr)(ep:Nat)(L:List (Nat×Addr)):(zdJ w S ep L).length=L.length:=by
 rw [(zhn w S ep L).length_eq,List.length_map]
theorem zhH {I S:Addr}{ep:Nat}{t:SetTable}{L:List (Nat×Addr)}{i:Nat}{v:Value}{Q:Option Value→Shared→Prop}(htab:(t,L.map Prod.fst)∈zdT (zfn w))(hIS:S≠I)(hit:zgC w s.heap I S ep t L i)
  (hv:(zdJ w S ep L)[i]? =some v) (hQ:∀ h',zgC w h' I S ep t L (i+1)→Heap.SameBut I s.heap h'→Q (some v) {s with heap:=h'}):wpAny (model prog w) A (pyNext (.ref I)) Q E s:=by
 have hT:=zdm hit
 obtain ⟨o,oS,slot,ho,hc,hd,hb,hoS,hdS⟩:=hit
 have good:=zfI htab (c:=0) (by omega)
 simp only [zdd,Bool.and_eq_true,Bool.not_eq_true',beq_iff_eq,List.length_map,decide_eq_true_eq] at good
 have hf:t.fits (esP L).size=true:=by rw [zcL];exact good.1.1.1.1.1
 unfold pyNext
 refine wpAny_bind (wpAny_attempt (wpAny_callSpecial?_slot (name:=Str.ofString "__next__") hT zbe
  (wpAny_call_entry zbe hT zc9 ?_ (zdl _))))
 unfold Builtin.«set_iterator.__next__»
 refine wpAny_bind (wpAny_pure ?_)
 refine wpAny_bind (wpAny_fieldsOf ho hd ?_)
 dsimp only
 refine wpAny_bind (wpAny_setEntries_of hoS hdS hf ?_)
 rw [if_neg (by rw [zcL];simp)]
 simp only [Int.toNat_natCast]
 have fin:∀ nx:Nat,(w.params.followText "set-order" =false→SetTable.below t.place nx=i+1)→wpAny (model prog w) A.in1 (do
    setField (Value.ref I) 0 (rawInt ↑nx)
    setField (Value.ref I) 1 (rawInt (↑i+1))
    ret v) (fun fin s'=>∃ v,fin=Fin.done (Flow.ret v)∧wpAny (model prog w) A (pure (some v)) Q E s') (fun e s'=>wpAny (model prog w) A (do
     let __do_lift ← isInstance e (Value.type "StopIteration")
     if __do_lift=true then pure none else throw e) Q E s') s:=by
  intro nx hnx
  refine wpAny_bind (wpAny_setField ho hd (by simp) ?_)
  have ho2:=Heap.get?_update_self (Obj.mapFields (·.setIfInBounds 0 (rawInt (nx:Int)))) ho (Obj.isFreed_of_fields (Obj.data_mapFields hd _))
  have hd2:=Obj.data_mapFields hd (·.setIfInBounds 0 (rawInt (nx:Int)))
  refine wpAny_bind (wpAny_setField ho2 hd2 (by simp) ?_)
  have ho3:=Heap.get?_update_self (Obj.mapFields (·.setIfInBounds 1 (rawInt ((i:Int)+1)))) ho2 (Obj.isFreed_of_fields (Obj.data_mapFields hd2 _))
  have hd3:=Obj.data_mapFields hd2 (·.setIfInBounds 1 (rawInt ((i:Int)+1)))
  have hsb:=(Heap.SameBut.update s.heap I (Obj.mapFields (·.setIfInBounds 0 (rawInt (nx:Int))))).trans (Heap.SameBut.update _ I (Obj.mapFields (·.setIfInBounds 1 (rawInt ((i:Int)+1)))))
  refine wpAny_pure ⟨v,rfl,wpAny_pure (hQ _ ⟨_,oS,nx,ho3,?_,?_,hnx,(hsb.2 S hIS).trans hoS,hdS⟩ hsb)⟩
  ·exact ((Obj.cls_mapFields ..).trans (Obj.cls_mapFields ..)).trans hc
  ·rw [hd3];simp [rawInt]
 refine wpAny_bind (znq hoS hdS htab rfl hb (fun v' nx hv' hnx _=>?_) (fun v' hv' hx=>?_) fun hv'=>?_)
 ·rw [hv] at hv'
  cases hv'
  exact fin nx fun _=>hnx
 ·rw [hv] at hv'
  cases hv'
  exact fin slot fun z=>by rw [hx] at z;cases z
 ·rw [hv] at hv'
  cases hv'
theorem ziA {I S:Addr}{ep:Nat}{t:SetTable}{L:List (Nat×Addr)}{i:Nat}{Q:Option Value→Shared→Prop}(hh:A.handled=none)(htab:(t,L.map Prod.fst)∈zdT (zfn w))(hit:zgC w s.heap I S ep t L i)
  (hv:(zdJ w S ep L)[i]? =none) (hQ:∀ h',Heap.ExtBut I s.heap h'→Q none {s with heap:=h'}):wpAny (model prog w) A (pyNext (.ref I)) Q E s:=by
 have hT:=zdm hit
 obtain ⟨o,oS,slot,ho,hc,hd,hb,hoS,hdS⟩:=hit
 have good:=zfI htab (c:=0) (by omega)
 simp only [zdd,Bool.and_eq_true,Bool.not_eq_true',beq_iff_eq,List.length_map,decide_eq_true_eq] at good
 have hf:t.fits (esP L).size=true:=by rw [zcL];exact good.1.1.1.1.1
 unfold pyNext
 refine wpAny_bind (wpAny_attempt (wpAny_callSpecial?_slot (name:=Str.ofString "__next__") hT zbe
  (wpAny_call_entry zbe hT zc9 ?_ (zdl _))))
 unfold Builtin.«set_iterator.__next__»
 refine wpAny_bind (wpAny_pure ?_)
 refine wpAny_bind (wpAny_fieldsOf ho hd ?_)
 dsimp only
 refine wpAny_bind (wpAny_setEntries_of hoS hdS hf ?_)
 rw [if_neg (by rw [zcL];simp)]
 simp only [Int.toNat_natCast]
 refine wpAny_bind (znq hoS hdS htab rfl hb (fun v' nx hv' hnx _=>?_) (fun v' hv' hx=>?_) fun hv'=>?_)
 ·rw [hv] at hv'
  cases hv'
 ·rw [hv] at hv'
  cases hv'
 ·refine wpAny_bind (wpAny_setField ho hd (by simp) ?_)
  show wpAny _ _ (newExc (.type "StopIteration") [] >>=_) _ _ _
  refine wpAny_bind ?_
  simp only [newExc,newTuple]
  refine wpAny_bind (wpAny_newObj_type ?_ (by size_fits))
  refine wpAny_bind (m:=firstArgMember _ _) (wpAny_of_eq (a:=Value.none) (by first | rfl | (simp only [firstArgMember];rfl)) ?_)
  refine wpAny_newObj_type ?_ (by size_fits)
  simp only [raiseNew]
  refine wpAny_bind (wpAny_handled ?_)
  rw [show A.in1.handled=none from hh]
  refine wpAny_bind (wpAny_pure (wpAny_throw ?_))
  refine wpAny_bind (wpAny_isInstance (T:="StopIteration") (b:=true) ⟨_,Heap.get?_push_size _ rfl,rfl⟩ isSubtype_stop ?_)
  exact wpAny_pure (hQ _ (((Heap.SameBut.update ..).extBut.push _).push _))
theorem ziW {I S:Addr}{ep:Nat}{t:SetTable}{L:List (Nat×Addr)}{i:Nat}{Q:Value→Shared→Prop}(hit:zgC w s.heap I S ep t L i)(h:Q (.ref I) s):
  wpAny (model prog w) A (pyIter (.ref I)) Q E s:=by
 refine wpAny_pyIter_slot (zdm hit) zdn (wpAny_call_entry zdn (zdm hit) zeW ?_ (zff _))
 show wpAny _ _ (ret (.ref I)) _ _ s
 exact wpAny_pure ⟨_,rfl,"set_iterator",_,zdm hit,zbe.lookup,h⟩
theorem zgC.at {h h':Heap}{I S:Addr}{ep:Nat}{t:SetTable}{L:List (Nat×Addr)}{i:Nat}(x:zgC w h I S ep t L i)(hI:∀ o,h.get? I=some o→h'.get? I=some o)(hS:∀ o,h.get? S=some o→h'.get? S=some o):zgC w h' I S ep t L i:=by
 obtain ⟨o,oS,slot,ho,hc,hd,hb,hoS,hdS⟩:=x
 exact ⟨o,oS,slot,hI _ ho,hc,hd,hb,hS _ hoS,hdS⟩
theorem zmr (hh:A.handled=none)(I S:Addr)(hne:S≠I)(ep:Nat)(t:SetTable)(L:List (Nat×Addr))(htab:(t,L.map Prod.fst)∈zdT (zfn w)):
  Walks prog w A I [I,S] [I] (zdJ w S ep L).length (fun i v=>(zdJ w S ep L)[i]? =some v) (fun i h=>zgC w h I S ep t L i) where
 sub:=fun b hb=>by simp at hb;simp [hb]
 frame:=fun _ _ _ st hk=>st.at (fun o e=>hk I (by simp) o e) (fun o e=>hk S (by simp) o e)
 item:=fun i s Q E hi st hQ=>by
  refine zhH htab hne st (List.getElem?_eq_getElem hi) fun h' hit' hs'=>?_
  exact hQ _ h' s.toks (List.getElem?_eq_getElem hi) hit' fun b o hb e=>hs'.extBut b o (fun h=>hb (by simp [h])) e
 done:=fun s Q E st hQ=>ziA hh htab st (List.getElem?_eq_none (Nat.le_refl _)) fun h' he'=>hQ h' s.toks fun b o hb e=>he' b o (fun h=>hb (by simp [h])) e
 self:=fun _ _ _ _ st hQ=>ziW st hQ
end
end L2
namespace L2
open PySem PySem.Spec PyProof.Rows
theorem zkW:typeLookup (.type "set") "__len__" =pure (some (.builtin "set.__len__")):=by rw [typeLookup_type,builtinLookup_eq_fast];kernel_rfl
section
variable {prog:Program} {w:World} {A:Around} {E:Value→Shared→Prop} {s:Shared}
theorem zmv {S:Addr}{t:SetTable}{L:List (Nat×Addr)}{Q:Value→Shared→Prop}(hS:zeu prog w s.heap S (zfn w) t L)
  (h:∀ ep:Nat,zgC w (s.heap.push {cls:=.type "set_iterator",data:=.fields #[.int 0 0,.int 0 0,.ref S,.int (L.length:Nat) 0,.int ep 0]}) s.heap.objs.size S ep t L 0→
   Q (.ref s.heap.objs.size) {s with heap:=s.heap.push {cls:=.type "set_iterator",data:=.fields #[.int 0 0,.int 0 0,.ref S,.int (L.length:Nat) 0,.int ep 0]}}):
  wpAny (model prog w) A (pyIter (.ref S)) Q E s:=by
 obtain ⟨o,ep,ho,hex,hd,htab,hall⟩:=hS
 have good:=zfI htab (c:=0) (by omega)
 simp only [zdd,Bool.and_eq_true,Bool.not_eq_true',beq_iff_eq,List.length_map,decide_eq_true_eq] at good
 have hf:t.fits (esP L).size=true:=by rw [zcL];exact good.1.1.1.1.1
 have hpl:=good.1.1.1.2
 have hwk:=zjS htab
 simp only [zhQ,Bool.and_eq_true,beq_iff_eq] at hwk
 have hT:s.TypeIs (.ref S) "set" :=⟨o,ho,hex.1⟩
 refine wpAny_pyIter_slot hT PySem.F.slot_set_iter (wpAny_call_entry PySem.F.slot_set_iter hT zgS ?_ (PySem.F.args_set_iter_1 _))
 unfold Builtin.«frozenset.__iter__»
 refine wpAny_bind (m:=Builtin.Frozenset.slot0 _ _) (wpAny_pure ?_)
 refine wpAny_bind ?_
 unfold Builtin.Frozenset.sizeOf
 refine wpAny_bind (wpAny_setEntries_of ho hd hf (wpAny_pure ?_))
 refine wpAny_bind ?_
 unfold setDrawn
 refine wpAny_bind (wpAny_setState_of ho hd hf ?_)
 refine wpAny_bind (zhF (wpAny_pure ?_))
 dsimp only
 split
 ·rename_i hdr
  exfalso
  have hdr':(!w.params.followText "set-order" && (!t.plain && decide ((esP L).size > 1)))=true:=hdr
  rw [hpl] at hdr'
  simp at hdr'
 ·refine wpAny_bind (wpAny_pure ?_)
  refine wpAny_bind (wpAny_setEpoch_of ho hd hf ?_)
  rw [zcL]
  refine wpAny_bind (wpAny_newObj_type (wpAny_pure ⟨_,rfl,"set_iterator",_,⟨_,Heap.get?_push_size _ rfl,rfl⟩,zbe.lookup,?_⟩))
  exact h ep ⟨_,o,0,Heap.get?_push_size _ rfl,rfl,rfl,fun _=>hwk.1,Heap.get?_push_of_some _ ho,hd⟩
theorem zjx {S:Addr}{t:SetTable}{L:List (Nat×Addr)}{Q:List Value→Shared→Prop}(hh:A.handled=none)(hS:zeu prog w s.heap S (zfn w) t L)
  (hQ:∀ s' vs,List.Perm vs (L.map fun p=>Value.ref p.2)→Moved [] (fun a b=>b=a) s s'→Q vs s'):wpAny (model prog w) A (collect (.ref S)) Q E s:=by
 have hS0:=hS
 obtain ⟨o,ep0,ho,hex,hd,htab,hall⟩:=hS0
 have good:=zfI htab (c:=0) (by omega)
 simp only [zdd,Bool.and_eq_true,Bool.not_eq_true',beq_iff_eq,List.length_map,decide_eq_true_eq] at good
 have hlt:S < s.heap.objs.size:=Heap.lt_size ho
 have hSD:s.heap.objs.size≠S:=Nat.ne_of_gt hlt
 unfold collect
 refine wpAny_bind (wpAny_runValue (codeAny_builtin PySem.F.entry_proto_collect ?_))
 rw [Around.under_plainId PySem.F.plain_proto_collect _]
 show wpAny _ A.in1 (newList [] >>=fun l=>again (.builtin "list.__iadd__" ⟨[l,.ref S],[]⟩)) _ _ s
 refine wpAny_bind (wpAny_newObj_type ?_)
 refine wpAny_pure ⟨plainId_quiet PySem.F.plain_list_iadd _,codeAny_builtin PySem.F.entry_list_iadd ?_⟩
 rw [Around.under_plainId PySem.F.plain_list_iadd _]
 have hS1:zeu prog w (s.heap.push {cls:=.type "list",data:=.seq ([]:List Value).toArray}) S (zfn w) t L:=by
  refine ⟨o,ep0,Heap.get?_push_of_some _ ho,hex,hd,htab,fun p hp=>⟨(hall p hp).1,?_⟩⟩
  obtain ⟨o',it,n,e,r⟩:=(hall p hp).2
  exact ⟨o',it,n,Heap.get?_push_of_some _ e,r⟩
 have hT:∀ h',h'.get? S=some o→Shared.TypeIs {s with heap:=h'} (.ref S) "set" :=fun h' e=>⟨o,e,hex.1⟩
 show wpAny _ A.in1 (Builtin.List.listExtendWith (.ref s.heap.objs.size) (.ref S) (.ref s.heap.objs.size)) _ _ _
 unfold Builtin.List.listExtendWith
 have hoS1:(s.heap.push {cls:=.type "list",data:=.seq ([]:List Value).toArray}).get? S=some o:=Heap.get?_push_of_some _ ho
 refine wpAny_bind (wpAny_typeOf (hT _ hoS1) ?_)
 have h1:Builtin.List.listSameRef (.ref s.heap.objs.size) (.ref S)=false:=by simp [Builtin.List.listSameRef,hSD]
 have h2:(Value.type "set" ==Value.type "list")=false:=by decide
 have h3:(Value.type "set" ==Value.type "tuple")=false:=by decide
 simp only [h1,h2,h3,Bool.or_false,Bool.false_eq_true,if_false]
 refine wpAny_bind (zmv (s:={s with heap:=s.heap.push {cls:=.type "list",data:=.seq ([]:List Value).toArray}}) hS1 fun ep hit=>?_)
 refine wpAny_bind (wpAny_holding ?_)
 unfold Builtin.List.listLengthHint
 dsimp only at hit ⊢
 have hoS2:=Heap.get?_push_of_some {cls:=.type "set_iterator",data:=.fields #[.int 0 0,.int 0 0,.ref S,.int (L.length:Nat) 0,.int ep 0]} hoS1
 refine wpAny_bind (wpAny_specialOf (hT _ hoS2) zkW ?_)
 generalize hid:("set.__len__" :String)=id0
 wp_delta
 rw [show splitId id0=some ("set","__len__") from by subst hid;decide+kernel]
 subst hid
 refine wpAny_bind (wpAny_isInstance (b:=true) (hT _ hoS2) sub_set_self ?_)
 rw [if_neg (show ¬((!true)=true) from Bool.false_ne_true)]
 rw [if_pos (by decide+kernel)]
 refine wpAny_bind (wpAny_typeOf (hT _ hoS2) ?_)
 refine wpAny_pure ?_
 rw [if_pos (by decide+kernel)]
 refine wpAny_bind (wpAny_rule ?_)
 have hneI:S≠(s.heap.push {cls:=.type "list",data:=.seq ([]:List Value).toArray}).objs.size:=by
  rw [Heap.size_push];exact Nat.ne_of_lt (Nat.lt_succ_of_lt hlt)
 have hD1:(s.heap.push {cls:=.type "list",data:=.seq ([]:List Value).toArray}).get? s.heap.objs.size=some {cls:=.type "list",data:=.seq ([]:List Value).toArray}:=Heap.get?_push_size _ rfl
 have hDI:s.heap.objs.size≠(s.heap.push {cls:=.type "list",data:=.seq ([]:List Value).toArray}).objs.size:=by
  rw [Heap.size_push];exact Nat.ne_of_lt (Nat.lt_succ_self _)
 generalize hI:(s.heap.push {cls:=.type "list",data:=.seq ([]:List Value).toArray}).objs.size=I at hit hneI hDI ⊢
 have hD2:=Heap.get?_push_of_some {cls:=.type "set_iterator",data:=.fields #[.int 0 0,.int 0 0,.ref S,.int (L.length:Nat) 0,.int ep 0]} hD1
 generalize hH2:(s.heap.push {cls:=.type "list",data:=.seq ([]:List Value).toArray}).push {cls:=.type "set_iterator",data:=.fields #[.int 0 0,.int 0 0,.ref S,.int (L.length:Nat) 0,.int ep 0]}=H2 at hit hD2 hoS2 ⊢
 have keep2:∀ b ob,s.heap.get? b=some ob→H2.get? b=some ob:=fun b ob e=>by rw [← hH2];exact Heap.get?_push_of_some _ (Heap.get?_push_of_some _ e)
 refine wpAny_bind ?_
 show wpAny _ A.in1 (updateSeq s.heap.objs.size (·.push .none) >>=fun _=>updateSeq s.heap.objs.size (·.pop)) _ _ _
 refine wpAny_bind (wpAny_updateSeq hD2 rfl ?_)
 have hD3:=Heap.get?_update_self (Obj.mapSeq (·.push Value.none)) hD2 rfl
 refine wpAny_updateSeq hD3 rfl ?_
 have hD4:=Heap.get?_update_self (Obj.mapSeq (·.pop)) hD3 rfl
 have oth:∀ b o,b≠s.heap.objs.size→H2.get? b=some o→((H2.update s.heap.objs.size (Obj.mapSeq (·.push Value.none))).update s.heap.objs.size (Obj.mapSeq (·.pop))).get? b=some o:=
  fun b o hb e=>(Heap.get?_update_other _ _ (Ne.symm hb)).trans ((Heap.get?_update_other _ _ (Ne.symm hb)).trans e)
 have hit4:zgC w ((H2.update s.heap.objs.size (Obj.mapSeq (·.push Value.none))).update s.heap.objs.size (Obj.mapSeq (·.pop))) I S ep t L 0:=
  hit.at (fun o e=>oth I o (Ne.symm hDI) e) (fun o e=>oth S o (Ne.symm hSD) e)
 have hh3:A.in1.in1.handled=none:=by simp [hh]
 have W:=(zmr (prog:=prog) (w:=w) (A:=A.in1) (by simp [hh]) I S hneI ep t L htab).toS
 have hlen4:(zdJ w S ep L).length≤sizeLine:=by rw [zlz,sizeLine_eq];have:=good.1.2;omega
 refine wpAny_pure ⟨plainId_quiet PySem.F.plain_extend_loop _,codeAny_extend_loopS W hlen4 s.heap.objs.size (by simp only [List.mem_cons,List.not_mem_nil,or_false,not_or];exact ⟨hDI,hSD⟩) _ (zdJ w S ep L).length 0 _ _ _ rfl (Nat.zero_le _) hit4 hD4 (ItemsOf.nil _) fun s' acc' c' hm hS' hacc=>?_⟩
 show wpAny _ A (load s.heap.objs.size >>=_) _ _ s'
 refine wpAny_bind (wpAny_load hS' ?_)
 have eacc:acc'.toList=zdJ w S ep L:=by
  refine List.ext_getElem? fun j=>?_
  by_cases hj:j < (zdJ w S ep L).length
  ·have hj2:j < acc'.size:=by rw [hacc.1];exact hj
   have:=hacc.2 j acc'[j] (Array.getElem?_eq_getElem hj2)
   rw [Array.getElem?_toList,Array.getElem?_eq_getElem hj2,this]
  ·exact (List.getElem?_eq_none (by rw [Array.length_toList,hacc.1];omega)).trans (List.getElem?_eq_none (by omega)).symm
 refine wpAny_pure (hQ s' acc'.toList (by rw [eacc];exact zhn w S ep L) ⟨fun b ob _ e=>?_,hm.gens,hm.drawn,hm.os,hm.toks⟩)
 have hb:b < s.heap.objs.size:=Heap.lt_size e
 have hb1:b≠s.heap.objs.size:=Nat.ne_of_lt hb
 refine hm.heap b ob ?_ (oth b ob hb1 (keep2 b ob e))
 simp only [List.mem_cons,List.not_mem_nil,or_false,not_or]
 refine ⟨hb1,?_⟩
 rw [← hI,Heap.size_push]
 exact Nat.ne_of_lt (Nat.lt_succ_of_lt hb)
end
end L2
namespace L2
open PySem PySem.Spec PyProof.Rows
noncomputable def zg9 {α :Type} (o:Nat→Nat→Bool):PySem.W.KasT α→α
 | .ret a=>a
 | .ask i j k=>zg9 o (k (o i j))
noncomputable def zla {α :Type} (n:Nat) (o:Nat→Nat→Bool):PySem.W.KasT α→Bool
 | .ret _=>true
 | .ask i j k=>decide (i < n) && decide (j < n) && zla n o (k (o i j))
theorem zij {α :Type}{n:Nat}{o:Nat→Nat→Bool}{cmp:Nat→Nat→(Bool→Shared→Prop)→Shared→Prop}{Q: α→Shared→Prop}{s:Shared}
  (hc:∀ i j (C:Bool→Shared→Prop),i < n→j < n→C (o i j) s→cmp i j C s):∀ t:PySem.W.KasT α,zla n o t=true→Q (zg9 o t) s→t.kasWp cmp Q s
 | .ret _,_,h=>h
 | .ask i j k,hk,h=>by
  simp only [zla,Bool.and_eq_true,decide_eq_true_eq] at hk
  exact hc i j _ hk.1.1 hk.1.2 (zij hc (k (o i j)) hk.2 h)
noncomputable def zeE (cs:List Nat) (i j:Nat):Bool:=decide (cs.getD i 0 < cs.getD j 0)
noncomputable def zfH (cs:List Nat):List Nat:=(zg9 (zeE cs) (PySem.W.kas_sort cs.length)).toList
noncomputable def zeU (cs:List Nat):Bool:=!decide cs.Nodup || (zla cs.length (zeE cs) (PySem.W.kas_sort cs.length) && (zfH cs).all (fun i=>decide (i < cs.length)) && decide ((zfH cs).map (fun i=>cs.getD i 0)= [0,1,2,3].filter fun c=>cs.contains c))
theorem sort2:((List.range 4).all fun a=>(List.range 4).all fun b=>zeU [a,b])=true:=by decide+kernel
theorem sort3:((List.range 4).all fun a=>(List.range 4).all fun b=>(List.range 4).all fun c=>zeU [a,b,c])=true:=by decide+kernel
theorem sort4:((List.range 4).all fun a=>(List.range 4).all fun b=>(List.range 4).all fun c=>(List.range 4).all fun d=>zeU [a,b,c,d])=true:=by decide+kernel
theorem zmm {cs:List Nat}(h4:∀ c∈cs,c < 4)(hn:cs.Nodup)(hl:cs.length≤4)(h2: 2≤cs.length):
  zla cs.length (zeE cs) (PySem.W.kas_sort cs.length)=true∧(∀ i∈zfH cs,i < cs.length)∧(zfH cs).map (fun i=>cs.getD i 0)= [0,1,2,3].filter fun c=>cs.contains c:=by
 have key:zeU cs=true:=by
  match cs,hl,h2,h4 with
  | [a,b],_,_,h4=>
   exact List.all_eq_true.mp (List.all_eq_true.mp sort2 a (List.mem_range.mpr (h4 a (by simp)))) b (List.mem_range.mpr (h4 b (by simp)))
  | [a,b,c],_,_,h4=>
   exact List.all_eq_true.mp (List.all_eq_true.mp (List.all_eq_true.mp sort3 a (List.mem_range.mpr (h4 a (by simp)))) b (List.mem_range.mpr (h4 b (by simp)))) c (List.mem_range.mpr (h4 c (by simp)))
  | [a,b,c,d],_,_,h4=>
   exact List.all_eq_true.mp (List.all_eq_true.mp (List.all_eq_true.mp (List.all_eq_true.mp sort4 a (List.mem_range.mpr (h4 a (by simp)))) b (List.mem_range.mpr (h4 b (by simp)))) c (List.mem_range.mpr (h4 c (by simp)))) d (List.mem_range.mpr (h4 d (by simp)))
 simp only [zeU,Bool.or_eq_true,Bool.and_eq_true,Bool.not_eq_true',decide_eq_false_iff_not,decide_eq_true_eq] at key
 rcases key with key | key
 ·exact absurd hn key
 ·exact ⟨key.1.1,fun i hi=>of_decide_eq_true (List.all_eq_true.mp key.1.2 i hi),key.2⟩
theorem zf9 {α β :Type}{f: α→β}:∀ {vs:List β} {l:List α},List.Perm vs (l.map f)→∃ l2,List.Perm l2 l∧l2.map f=vs
 | [],l,h=>by
  have:l= []:=List.map_eq_nil_iff.mp (List.nil_perm.mp h)
  exact ⟨[],by rw [this],rfl⟩
 | v::r,l,h=>by
  obtain ⟨x,hx,hv⟩:=List.mem_map.mp (h.mem_iff.mp (List.mem_cons_self (a:=v) (l:=r)))
  obtain ⟨a,b,rfl⟩:=List.append_of_mem hx
  have h2:List.Perm (v::r) (v::((a++b).map f)):=by
   refine h.trans ?_
   rw [List.map_append,List.map_cons,hv,List.map_append]
   exact List.perm_middle
  obtain ⟨l2,p2,e2⟩:=zf9 (l:=a++b) (List.Perm.cons_inv h2)
  refine ⟨x::l2,(List.Perm.cons x p2).trans List.perm_middle.symm,?_⟩
  rw [List.map_cons,hv,e2]
section
variable {prog:Program} {w:World} {A:Around} {E:Value→Shared→Prop} {s:Shared}
theorem zft {h:Heap}{c:Nat}{a:Addr}(hk:IsTupleKey (intKind prog w) h (zdc c) a):∃ o n t u,h.get? a=some o∧o.cls= .type "tuple"∧o.data= .seq #[Value.int ((c / 2:Nat):Int) t,Value.int ((c % 2:Nat):Int) u] n:=by
 obtain ⟨o,items,n,ho,hc,hd,hi⟩:=hk
 obtain ⟨l⟩:=items
 change PySem.ItemsAre (intKind prog w) (zdc c) l at hi
 cases hi with
 | cons h1 h2=>
  cases h2 with
  | cons h3 h4=>
   cases h4
   obtain ⟨t,rfl⟩:=Value.isInt_shape h1
   obtain ⟨u,rfl⟩:=Value.isInt_shape h3
   exact ⟨o,n,t,u,ho,hc,hd⟩
theorem zmx {c d:Nat}{a b:Addr}{Q:Bool→Shared→Prop}(hc:c < 4)(hd:d < 4)(ha:IsTupleKey (intKind prog w) s.heap (zdc c) a)(hb:IsTupleKey (intKind prog w) s.heap (zdc d) b)(h:Q (decide (c < d)) s):
  wpAny (model prog w) A (keyLt' (tuples' true) (.ref a) (.ref b)) Q E s:=by
 obtain ⟨oa,na,t1,u1,ho1,_,hd1⟩:=zft ha
 obtain ⟨ob,nb,t2,u2,ho2,_,hd2⟩:=zft hb
 refine PySem.W.kat_lt ho1 hd1 ho2 hd2 ?_
 refine PySem.W.kat_cons (wpAny_eqBool_int (PySem.W.kat_go (fun e=>?_) fun e=>?_))
 ·have e1:=of_decide_eq_true e
  refine PySem.W.kat_yes (PySem.W.kat_cons (wpAny_eqBool_int (PySem.W.kat_go (fun e'=>?_) fun e'=>?_)))
  ·have e2:=of_decide_eq_true e'
   refine PySem.W.kat_yes (PySem.W.kat_nil ?_)
   have:¬c < d:=by omega
   rw [decide_eq_false this] at h
   exact h
  ·have e2:=of_decide_eq_false e'
   refine PySem.W.kat_no ?_
   refine PySem.W.kat_one _ _ (wpAny_lt_int ?_)
   have:decide (((c % 2:Nat):Int) < ((d % 2:Nat):Int))=decide (c < d):=by
    by_cases z:c < d
    ·rw [decide_eq_true z];exact decide_eq_true (by omega)
    ·rw [decide_eq_false z];exact decide_eq_false (by omega)
   rw [this]
   exact h
 ·have e1:=of_decide_eq_false e
  refine PySem.W.kat_no ?_
  refine oneLt_int ?_
  have:decide (((c / 2:Nat):Int) < ((d / 2:Nat):Int))=decide (c < d):=by
   by_cases z:c < d
   ·rw [decide_eq_true z];exact decide_eq_true (by omega)
   ·rw [decide_eq_false z];exact decide_eq_false (by omega)
  rw [this]
  exact h
end
end L2
namespace L2
open PySem PySem.Spec PyProof.Rows
noncomputable abbrev zbW (L:List (Nat×Addr)):List Value:=L.map fun p=>Value.ref p.2
noncomputable def zbj (cs:List Nat):List Nat:=[0,1,2,3].filter fun c=>cs.contains c
section
variable {prog:Program} {w:World} {A:Around} {E:Value→Shared→Prop} {s:Shared}
theorem zls {h:Heap}:∀ {L:List (Nat×Addr)},(∀ p∈L,p.1 < 4∧IsTupleKey (intKind prog w) h (zdc p.1) p.2)→∃ fs,PySem.W.KatTups h (zbW L) fs∧fs.length=L.length∧∀ v∈fs,∃ x t,v=Value.int x t
 | [],_=>⟨[],trivial,rfl,fun _ h=>(List.not_mem_nil h).elim⟩
 | p::r,hk=>by
  obtain ⟨fs,k1,k2,k3⟩:=zls (L:=r) fun q hq=>hk q (List.mem_cons_of_mem _ hq)
  obtain ⟨o,n,t,u,ho,hc,hd⟩:=zft (hk p List.mem_cons_self).2
  refine ⟨Value.int ((p.1 / 2:Nat):Int) t::fs,PySem.W.KatTups.cons ho hc hd rfl k1,by rw [List.length_cons,List.length_cons,k2],fun v hv=>?_⟩
  rcases List.mem_cons.mp hv with rfl | hv
  ·exact ⟨_,_,rfl⟩
  ·exact k3 v hv
theorem zjj {c:Nat}(h:c < 4):zbj [c]= [c]:=by
 have:c=0∨c=1∨c=2∨c=3:=by omega
 rcases this with rfl | rfl | rfl | rfl <;> rfl
theorem zgl {a:Addr}{L:List (Nat×Addr)}{n:Nat}{P:PySem.Fin→Shared→Prop}(ho:s.heap.get? a=some (seqObj "list" (zbW L).toArray n))
  (hk:∀ p∈L,p.1 < 4∧IsTupleKey (intKind prog w) s.heap (zdc p.1) p.2) (hnd:(L.map Prod.fst).Nodup) (hlen:L.length≤4)
  (h:∀ (L3:List (Nat×Addr)) h' n',L3.map Prod.fst=zbj (L.map Prod.fst)→(∀ p∈L3,p∈L)→h'.get? a=some (seqObj "list" (zbW L3).toArray n')→(∀ b o,b≠a→s.heap.get? b=some o→h'.get? b=some o)→P (.done (.ret .none)) {s with heap:=h'}):
  wpAny (model prog w) A (Builtin.«list.sort» ⟨[.ref a],[]⟩) P E s:=by
 rw [list_sort_plain]
 have ha:a < s.heap.objs.size:=Heap.lt_size ho
 have hl:(zbW L).length=L.length:=List.length_map _
 have s1:=Heap.SameBut.update s.heap a (Obj.mapSeq fun _=>(#[]:Array Value))
 refine wpAny_bind (listItems_at ho rfl ?_)
 refine wpAny_bind (listUpdate_at ho rfl ?_ (by rw [List.size_toArray,sizeLine_eq];omega) (Nat.zero_le _))
 obtain ⟨e1,ho1⟩:∃ e1,(s.heap.update a (Obj.mapSeq fun _=>#[])).get? a=some (seqObj "list" #[] e1):=⟨_,get?_update_seq ho (fun _=>#[])⟩
 refine wpAny_bind (seqEpoch_at ho1 rfl ?_)
 refine wpAny_bind (wpAny_newTuple ?_ (by show (zbW L).length≤_;rw [sizeLine_eq];omega))
 refine wpAny_bind (wpAny_newList ?_ (Nat.zero_le _))
 refine wpAny_holding ?_
 have keep3:∀ b o,(s.heap.update a (Obj.mapSeq fun _=>(#[]:Array Value))).get? b=some o→(((s.heap.update a (Obj.mapSeq fun _=>(#[]:Array Value))).push (seqObj "tuple" (zbW L).toArray 0)).push (seqObj "list" #[] 0)).get? b=some o:=
  fun b o e=>Heap.get?_push_of_some _ (Heap.get?_push_of_some _ e)
 show wpAny (model prog w) A _ P E {s with heap:=((s.heap.update a (Obj.mapSeq fun _=>(#[]:Array Value))).push (seqObj "tuple" (zbW L).toArray 0)).push (seqObj "list" #[] 0)}
 have ho3:=keep3 a _ ho1
 generalize ((s.heap.update a (Obj.mapSeq fun _=>(#[]:Array Value))).push (seqObj "tuple" (zbW L).toArray 0)).push (seqObj "list" #[] 0)=H3 at keep3 ho3 ⊢
 have keepH:∀ b o,b≠a→s.heap.get? b=some o→H3.get? b=some o:=fun b o hb e=>keep3 b o ((s1.2 b hb).trans e)
 dsimp only
 have fin:∀ (L3:List (Nat×Addr)),L3.map Prod.fst=zbj (L.map Prod.fst)→(∀ p∈L3,p∈L)→P (.done (.ret .none)) {s with heap:=H3.update a (Obj.mapSeq fun _=>(zbW L3).toArray)}:=by
  intro L3 h1 h2
  obtain ⟨c2,hc2⟩:∃ c2,(H3.update a (Obj.mapSeq fun _=>(zbW L3).toArray)).get? a=some (seqObj "list" (zbW L3).toArray c2):=⟨_,get?_update_seq ho3 fun _=>(zbW L3).toArray⟩
  exact h L3 _ c2 h1 h2 hc2 fun b o hb e=>(Heap.get?_update_other _ _ (Ne.symm hb)).trans (keepH b o hb e)
 by_cases h2:(zbW L).toArray.size < 2
 ·rw [if_pos h2,if_pos h2]
  refine wpAny_bind (wpAny_pure ?_)
  rw [StateT.run_pure]
  refine wpAny_bind (wpAny_pure ?_)
  dsimp only
  refine wpAny_bind (seqEpoch_at (s:={s with heap:=H3}) ho3 rfl ?_)
  have hsame:(arrOf (SortSt.mk' general' ((zbW L).toArray.zip (zbW L).toArray) #[] 7 none)).map (·.2)=(zbW L).toArray:=by
   show ((zbW L).toArray.zip (zbW L).toArray).map (·.2)=_
   apply Array.toList_inj.mp
   simp [List.map_snd_zip]
  rw [hsame]
  refine wpAny_bind (listUpdate_at (s:={s with heap:=H3}) ho3 rfl ?_ (Nat.zero_le _) (by rw [List.size_toArray,sizeLine_eq];omega))
  simp only [bne_self_eq_false,Bool.false_eq_true,if_false]
  rw [List.size_toArray,hl] at h2
  refine wpAny_pure (fin L ?_ fun p hp=>hp)
  match L,h2,hk with
  | [],_,_=>rfl
  | [p],_,hk=>exact (zjj (hk p (by simp)).1).symm
 ·rw [if_neg h2,if_neg h2]
  rw [List.size_toArray,hl] at h2
  have hk3:∀ p∈L,p.1 < 4∧IsTupleKey (intKind prog w) H3 (zdc p.1) p.2:=fun p hp=>by
   refine ⟨(hk p hp).1,?_⟩
   obtain ⟨o,it,m,e,c,r⟩:=(hk p hp).2
   refine ⟨o,it,m,keepH _ _ (fun z=>?_) e,c,r⟩
   rw [z,ho] at e
   cases e
   exact absurd (Value.type.inj c) (by decide)
  obtain ⟨fs,k1,k2,k3⟩:=zls hk3
  refine wpAny_bind (PySem.W.kat_kind (T:=.type "int") k1 (by omega) (fun v hv=>?_) (by decide) ?_)
  ·obtain ⟨x,t,rfl⟩:=k3 v hv
   exact .now
  ·have hcs:∀ c∈L.map Prod.fst,c < 4:=fun c hc=>by
    obtain ⟨p,hp,rfl⟩:=List.mem_map.mp hc
    exact (hk p hp).1
   obtain ⟨g1,g2,g3⟩:=zmm hcs hnd (by rw [List.length_map];exact hlen) (by rw [List.length_map];omega)
   rw [List.length_map] at g1 g2
   have hget:∀ i,i < L.length→(zbW L).getD i Value.none=Value.ref (L.getD i (0,0)).2∧(L.map Prod.fst).getD i 0=(L.getD i (0,0)).1∧L.getD i (0,0)∈L:=fun i hi=>by
    refine ⟨?_,?_,?_⟩
    ·simp [zbW,hi]
    ·simp [hi]
    ·simp [hi]
   have run:(PySem.W.kas_sort (zbW L).length).kasWp (PySem.W.kas_ask prog w A (tuples' (Value.type "int" !=Value.type "tuple")) (zbW L)) (fun p s'=>p=zg9 (zeE (L.map Prod.fst)) (PySem.W.kas_sort L.length)∧s'= {s with heap:=H3}) {s with heap:=H3}:=by
    rw [hl]
    refine zij (n:=L.length) (o:=zeE (L.map Prod.fst)) (fun i j C hi hj hC=>?_) _ g1 ⟨rfl,rfl⟩
    unfold PySem.W.kas_ask
    rw [(hget i hi).1,(hget j hj).1]
    rw [show (Value.type "int" !=Value.type "tuple")=true from by decide]
    refine zmx (s:={s with heap:=H3}) (hk3 _ (hget i hi).2.2).1 (hk3 _ (hget j hj).2.2).1 (hk3 _ (hget i hi).2.2).2 (hk3 _ (hget j hj).2.2).2 ?_
    have e:zeE (L.map Prod.fst) i j=decide ((L.getD i (0,0)).1 < (L.getD j (0,0)).1):=by
     unfold zeE
     rw [(hget i hi).2.1,(hget j hj).2.1]
    rw [← e]
    exact hC
   refine wpAny_bind (wpAny_mono (PySem.W.kat_run (E:=E) (ks:=zbW L) (vs:=zbW L) (Q:=fun st' s'=>s'= {s with heap:=H3}∧failedOf st'=none∧arrOf st'=(zg9 (zeE (L.map Prod.fst)) (PySem.W.kas_sort L.length)).map (PySem.W.kas_item ((zbW L).toArray.zip (zbW L).toArray)))
    rfl (by rw [hl];omega) (by rw [hl];omega) (fun p' st' s' a1 a2 a3 a4=>?_) run) ?_ fun _ _ e=>e)
   ·obtain ⟨rfl,rfl⟩:=a4
    exact ⟨rfl,a3,a2⟩
   ·rintro ⟨⟨⟩,st'⟩ s' ⟨rfl,hf,har⟩
    dsimp only at hf har ⊢
    have hout:=PySem.W.kat_snds rfl har
    have hL3:((zg9 (zeE (L.map Prod.fst)) (PySem.W.kas_sort L.length)).toList.map fun i=>(zbW L).getD i Value.none)=zbW ((zfH (L.map Prod.fst)).map fun i=>L.getD i (0,0)):=by
     unfold zbW zfH
     rw [List.length_map,List.map_map]
     refine List.map_congr_left fun i hi=>?_
     refine (hget i (g2 i ?_)).1
     unfold zfH
     rw [List.length_map]
     exact hi
    rw [hL3] at hout
    rw [hout]
    refine wpAny_bind (seqEpoch_at (s:={s with heap:=H3}) ho3 rfl ?_)
    refine wpAny_bind (listUpdate_at (s:={s with heap:=H3}) ho3 rfl ?_ (Nat.zero_le _) ?_)
    ·rw [hf]
     simp only [bne_self_eq_false,Bool.false_eq_true,if_false]
     refine wpAny_pure (fin _ ?_ fun p hp=>?_)
     ·rw [List.map_map]
      refine Eq.trans (List.map_congr_left fun i hi=>?_) g3
      exact ((hget i (g2 i hi)).2.1).symm
     ·obtain ⟨i,hi,rfl⟩:=List.mem_map.mp hp
      exact (hget i (g2 i hi)).2.2
    ·rw [List.size_toArray,List.length_map,List.length_map]
     have hz:(zfH (L.map Prod.fst)).length≤4:=by
      have:=congrArg List.length g3
      rw [List.length_map] at this
      rw [this]
      exact List.length_filter_le _ _
     rw [sizeLine_eq]
     omega
theorem zkH {S:Addr}{t:SetTable}{L:List (Nat×Addr)}{Q:Value→Shared→Prop}(hh:A.handled=none)(hS:zeu prog w s.heap S (zfn w) t L)(hnd:(L.map Prod.fst).Nodup)
  (h:∀ (L3:List (Nat×Addr)) (D:Addr) s' n',L3.map Prod.fst=zbj (L.map Prod.fst)→(∀ p∈L3,p∈L)→S < D→s'.heap.get? D=some (seqObj "list" (zbW L3).toArray n')→Moved [] (fun a b=>b=a) s s'→Q (.ref D) s'):
  wpAny (model prog w) A (call (.builtin "sorted") [.ref S]) Q E s:=by
 have hS0:=hS
 obtain ⟨o,ep,ho,hex,hd,htab,hall⟩:=hS0
 have good:=zfI htab (c:=0) (by omega)
 simp only [zdd,Bool.and_eq_true,Bool.not_eq_true',beq_iff_eq,List.length_map,decide_eq_true_eq] at good
 have hlen:L.length≤4:=good.1.2
 refine Calls.call_function_entry kind_sorted plain_sorted entry_sorted (args_sorted1 _) ?_
 unfold Builtin.«sorted»
 refine wpAny_bind (m:=checkCount "sorted" 1 1 _) (wpAny_pure ?_)
 refine wpAny_bind (zjx (A:=A.in1) (by simp [hh]) hS fun s1 vs hp hm=>?_)
 obtain ⟨L2,p2,rfl⟩:=zf9 hp
 have hl2:L2.length≤4:=by rw [p2.length_eq];exact hlen
 refine wpAny_bind (wpAny_newList ?_ (by rw [List.length_map,sizeLine_eq];omega))
 have hoD:(s1.heap.push (seqObj "list" (zbW L2).toArray 0)).get? s1.heap.objs.size=some (seqObj "list" (zbW L2).toArray 0):=Heap.get?_push_size _ rfl
 have hk2:∀ p∈L2,p.1 < 4∧IsTupleKey (intKind prog w) (s1.heap.push (seqObj "list" (zbW L2).toArray 0)) (zdc p.1) p.2:=fun p hp'=>by
  have hq:=hall p (p2.mem_iff.mp hp')
  refine ⟨hq.1,?_⟩
  obtain ⟨o',it,n,e,r⟩:=hq.2
  exact ⟨o',it,n,Heap.get?_push_of_some _ (hm.heap _ _ List.not_mem_nil e),r⟩
 have hD0:s.heap.get? s1.heap.objs.size=none:=by
  cases hq:s.heap.get? s1.heap.objs.size with
  | none=>rfl
  | some o'=>exact absurd (Heap.lt_size (hm.heap _ _ List.not_mem_nil hq)) (Nat.lt_irrefl _)
 refine wpAny_bind (wpAny_holding (wpAny_call_entry slot_list_sort ⟨_,hoD,rfl⟩ entry_list_sort ?body (args_list_sort _)))
 refine zgl (s:={s1 with heap:=s1.heap.push (seqObj "list" (zbW L2).toArray 0)}) hoD hk2 ((p2.map Prod.fst).nodup_iff.mpr hnd) hl2 fun L3 h' n' e1 e2 e3 e4=>?_
 refine ⟨_,rfl,wpAny_pure ⟨_,rfl,h L3 s1.heap.objs.size _ n' (e1.trans ?_) (fun p hp'=>p2.mem_iff.mp (e2 p hp')) (Heap.lt_size (hm.heap _ _ List.not_mem_nil ho)) e3 ⟨fun b ob _ e=>?_,hm.gens,hm.drawn,hm.os,hm.toks⟩⟩⟩
 ·unfold zbj
  refine List.filter_congr fun c _=>?_
  rw [Bool.eq_iff_iff,List.contains_iff_mem,List.contains_iff_mem]
  exact (p2.map Prod.fst).mem_iff
 ·refine e4 b ob (fun z=>?_) (Heap.get?_push_of_some _ (hm.heap _ _ List.not_mem_nil e))
  rw [z,hD0] at e
  cases e
end
end L2
namespace L2
open PySem PySem.Spec PyProof.Rows
noncomputable def zeQ (c:Nat):HO:=.tup [.int ((c / 2:Nat):Int),.int ((c % 2:Nat):Int)]
noncomputable def zhd (te:TE):TE:=fun σ H Q=>te σ H fun v H1=>∃ (l:Addr) (ps:List (Nat×Addr)),v= .ref l∧H1 l=some (.lst (ps.map fun p=>V.ref p.2))∧(∀ p∈ps,p.1 < 4∧H1 p.2=some (zeQ p.1))∧
 ∀ (D:Addr) (L:List (Nat×Addr)),H1 D=none→L.map Prod.fst=zbj (ps.map Prod.fst)→(∀ p∈L,p∈ps)→Q (.ref D) (upd H1 D (.lst (L.map fun p=>V.ref p.2)))
theorem zi5 {L ps:List (Nat×Addr)}(h:GotP L ps):zbj (L.map Prod.fst)=zbj (ps.map Prod.fst):=by
 unfold zbj
 refine List.filter_congr fun c _=>?_
 rw [Bool.eq_iff_iff,List.contains_iff_mem,List.contains_iff_mem]
 constructor
 ·intro hc
  obtain ⟨p,hp,rfl⟩:=List.mem_map.mp hc
  exact List.mem_map.mpr ⟨p,h.1 p hp,rfl⟩
 ·intro hc
  obtain ⟨p,hp,rfl⟩:=List.mem_map.mp hc
  exact h.2.1 p hp
theorem zmR {P:Program}{w:World}{H:Hp}{h:Heap}{c:Nat}{a:Addr}(ok:HOk P w H h)(e:H a=some (zeQ c)):IsTupleKey (intKind P w) h (zdc c) a:=by
 obtain ⟨_,its,r,o,h1,h2,n,h3⟩:=(show zcB P w H h a (zeQ c) from ok a _ e)
 refine ⟨o,its.toArray,n,h1,h2,h3,?_⟩
 cases r with
 | cons r1 r2=>
  cases r2 with
  | cons r2 r3=>
   cases r3
   obtain ⟨t,rfl⟩:=r1
   obtain ⟨u,rfl⟩:=r2
   exact .cons (intKind_is _ _ _ _) (.cons (intKind_is _ _ _ _) .nil)
theorem zkJ {L:List (Nat×Addr)}:Vals (L.map fun p=>V.ref p.2) (zbW L):=by
 induction L with
 | nil=>exact .nil
 | cons p r ih=>exact .cons rfl ih
theorem zeN:∀ {L:List (Nat×Addr)} {us:List Value},Vals (L.map fun p=>V.ref p.2) us→us=zbW L
 | [],_,h=>by cases h;rfl
 | p::r,_,h=>by
  cases h with
  | cons h1 h2=>
   cases h1
   rw [zeN h2]
   rfl
section
variable {X:Cx} {e:Expr} {te:TE} {p p' pos pos':Pos} {xs xt:Str}
theorem ziq (hc:X.calm=true)(hu:X.A.units+64 < cLine)(hg:Gl X "sorted")(hm:X.mg "sorted" =none)(hg':Gl X "set")(hm':X.mg "set" =none)(ha:PE X e te)
  (he:starEach [e] X.env= [(false,eval e X.env)]:=by rfl)
  (he':starEach [Expr.Call (.Name "set" p') [e] [] pos'] X.env= [(false,eval (Expr.Call (.Name "set" p') [e] [] pos') X.env)]:=by rfl):
  PE X (.Call (.Name "sorted" p) [.Call (.Name "set" p') [e] [] pos'] [] pos) (zhd te):=by
 intro pins s σ H Q I h
 refine wpAny_Call_Name_kw (zgD I hg hm (by rfl) ?_ (by decide) (by decide))
 refine PyProof.Rows.callWith_builtin1 (id:="sorted") ?_ he' rfl
 rw [he']
 show wpAny _ _ (spliced ((false,eval (Expr.Call (.Name "set" p') [e] [] pos') X.env)::backTo pos [])) _ _ s
 refine Calls.spliced_cons ?_
 refine wpAny_Call_Name_kw (zgD I hg' hm' (by rfl) ?_ (by decide) (by decide))
 refine PyProof.Rows.callWith_type1 (T:="set") ?_ he rfl
 rw [he]
 show wpAny _ _ (spliced ((false,eval e X.env)::backTo pos' [])) _ _ s
 refine Calls.spliced_cons (thn (ha pins s σ H _ I h) fun u s1 ⟨x,H1,I1,r1,l,ps,ex,hl,hps,q⟩=>?_)
 subst ex
 cases r1
 refine Calls.spliced_nil ?_
 obtain ⟨z,its,n,rv,hlen,eL⟩:=I1.lstM hl
 have eits:=zeN rv
 subst eits
 have hA:=I1.ok.hd hc
 refine zgV (xs:=ps) hA hu ⟨_,eL,rfl,n,rfl⟩ (fun i y hy=>⟨?_,?_⟩) (by simp) fun h' tk t' L' hP hG hK=>?_
 ·simp [zbW,hy]
 ·have hm:=List.mem_of_getElem? hy
  exact ⟨(hps y hm).1,zmR I1.hok (hps y hm).2⟩
 refine Calls.spliced_nil ?_
 refine zkH (s:={s1 with heap:=h',toks:=tk}) hA hP hG.2.2 fun L3 D s2 n' e1 e2 hSD e3 hmv=>?_
 obtain ⟨h2,g2,d2,tk2,os2⟩:=s2
 have eg:g2=s1.gens:=hmv.gens
 have ed:d2=s1.drawn:=hmv.drawn
 have eo:os2=s1.os:=hmv.os
 subst eg;subst ed;subst eo
 have hf:H1 D=none:=I1.hok.fresh (Nat.le_of_lt hSD)
 have hz:L3.length≤4:=by
  have:=congrArg List.length e1
  rw [List.length_map] at this
  rw [this]
  exact List.length_filter_le _ _
 refine ⟨.ref D,_,I1.laid (a:=D) (o:=.lst (L3.map fun p=>V.ref p.2)) (t':=tk2) (fun b ob eb=>hmv.heap b ob List.not_mem_nil (hK b ob eb)) (Nat.le_of_lt hSD) ⟨?_,zbW L3,n',zkJ,e3⟩,rfl,q D L3 hf (e1.trans (zi5 hG)) fun p hp=>hG.1 p (e2 p hp)⟩
 rw [List.length_map,sizeLine_eq]
 omega
theorem zev (hc:X.calm=true)(hu:X.A.units+64 < cLine)(hg:Gl X "sorted")(hm:X.mg "sorted" =none)(hg':Gl X "set")(hm':X.mg "set" =none)(ha:Bx (PE X e te))
  (he:starEach [e] X.env= [(false,eval e X.env)]:=by rfl)
  (he':starEach [Expr.Call (.Name "set" p') [e] [] pos'] X.env= [(false,eval (Expr.Call (.Name "set" p') [e] [] pos') X.env)]:=by rfl):
  Bx (PE X (.Call (.Name "sorted" p) [.Call (.Name "set" p') [e] [] pos'] [] pos) (zhd te)):=⟨ziq hc hu hg hm hg' hm' ha.1 he he'⟩
end
end L2
namespace L2
open PySem PySem.Spec PyProof.Rows
section
variable {prog:Program} {w:World} {A:Around} {E:Value→Shared→Prop} {s:Shared}
end
section
variable {X:Cx}
end
end L2
namespace My
open PySem L2
noncomputable def hiV (c:Nat):Int:=((c / 2:Nat):Int)
noncomputable def loV (c:Nat):Int:=((c % 2:Nat):Int)
noncomputable def zb3 (a b:Int):Nat:=2 * a.toNat+b.toNat
theorem zds {a b:Int}(ha:a=0∨a=1)(hb:b=0∨b=1):zb3 a b < 4:=by
 unfold zb3
 rcases ha with rfl | rfl <;> rcases hb with rfl | rfl <;> decide
theorem zdV {a b:Int}(ha:a=0∨a=1)(hb:b=0∨b=1):hiV (zb3 a b)=a:=by
 rcases ha with rfl | rfl <;> rcases hb with rfl | rfl <;> decide
theorem zdN {a b:Int}(ha:a=0∨a=1)(hb:b=0∨b=1):loV (zb3 a b)=b:=by
 rcases ha with rfl | rfl <;> rcases hb with rfl | rfl <;> decide
theorem znZ {c:Nat}(h:c < 4):zb3 (hiV c) (loV c)=c:=by
 have:c=0∨c=1∨c=2∨c=3:=by omega
 rcases this with rfl | rfl | rfl | rfl <;> decide
theorem zg8 {c:Nat}(h:c < 4):hiV c=0∨hiV c=1:=by
 have:c=0∨c=1∨c=2∨c=3:=by omega
 rcases this with rfl | rfl | rfl | rfl <;> decide
theorem znk {c:Nat}(h:c < 4):loV c=0∨loV c=1:=by
 have:c=0∨c=1∨c=2∨c=3:=by omega
 rcases this with rfl | rfl | rfl | rfl <;> decide
noncomputable def zbM {α :Type} (acc:List (List α)) (legs:List (List α)):List (List α):=legs.foldl (fun rows ps=>rows.flatMap fun r=>ps.map fun p=>r++ [p]) acc
noncomputable def choices {α :Type} (legs:List (List α)):List (List α):=zbM [[]] legs
inductive zcr {α :Type}:List α→List (List α)→Prop
 | nil:zcr [] []
 | cons {x: α} {r:List α} {l:List α} {ls:List (List α)}:x∈l→zcr r ls→zcr (x::r) (l::ls)
theorem zfx {α :Type}:∀ {legs acc:List (List α)} {r:List α},r∈zbM acc legs↔∃ a b,a∈acc∧zcr b legs∧r=a++b
 | [],acc,r=>by
  constructor
  ·intro h
   exact ⟨r,[],h,.nil,(List.append_nil r).symm⟩
  ·rintro ⟨a,b,ha,hb,rfl⟩
   cases hb
   rw [List.append_nil]
   exact ha
 | l::ls,acc,r=>by
  show r∈zbM (acc.flatMap fun r=>l.map fun p=>r++ [p]) ls↔_
  rw [zfx]
  constructor
  ·rintro ⟨a,b,ha,hb,rfl⟩
   obtain ⟨q,hq,hm⟩:=List.mem_flatMap.mp ha
   obtain ⟨p,hp,rfl⟩:=List.mem_map.mp hm
   exact ⟨q,p::b,hq,.cons hp hb,by simp⟩
  ·rintro ⟨a,b,ha,hb,rfl⟩
   cases hb with
   | @cons x r' _ _ hx hr=>
    exact ⟨a++ [x],r',List.mem_flatMap.mpr ⟨a,ha,List.mem_map.mpr ⟨x,hx,rfl⟩⟩,hr,by simp⟩
theorem za8 {α :Type}{legs:List (List α)}{r:List α}:r∈choices legs↔zcr r legs:=by
 unfold choices
 rw [zfx]
 constructor
 ·rintro ⟨a,b,ha,hb,rfl⟩
  rw [List.mem_singleton.mp ha]
  exact hb
 ·intro h
  exact ⟨[],r,List.mem_singleton.mpr rfl,h,rfl⟩
theorem zcr.length {α :Type}{r:List α}{ls:List (List α)}(h:zcr r ls):r.length=ls.length:=by
 induction h with
 | nil=>rfl
 | cons _ _ ih=>rw [List.length_cons,List.length_cons,ih]
theorem zcr.snoc {α :Type}:∀ {r:List α} {ls:List (List α)} {l:List α},zcr r (ls++ [l])↔∃ a x,r=a++ [x]∧zcr a ls∧x∈l
 | r,[],l=>by
  constructor
  ·intro h
   cases h with
   | cons hx hr=>cases hr;exact ⟨[],_,rfl,.nil,hx⟩
  ·rintro ⟨a,x,rfl,ha,hx⟩
   cases ha
   exact .cons hx .nil
 | r,m::ls,l=>by
  constructor
  ·intro h
   cases h with
   | cons hx hr=>
    obtain ⟨a,y,rfl,ha,hy⟩:=zcr.snoc.mp hr
    exact ⟨_::a,y,rfl,.cons hx ha,hy⟩
  ·rintro ⟨a,x,rfl,ha,hx⟩
   cases ha with
   | cons hy ha=>exact .cons hy (zcr.snoc.mpr ⟨_,x,rfl,ha,hx⟩)
noncomputable def zcq (k:Str) (r:List Nat):Nat:=zb3 (zb0 k (r.map hiV)) (zb0 k (r.map loV))
noncomputable def zfS (k:Str) (legs:List (List Nat)):List Nat:=zbj ((choices legs).map (zcq k))
theorem zep {cs:List Nat}(h:∀ c∈cs,c < 4){c:Nat}:c∈zbj cs↔c∈cs:=by
 unfold zbj
 rw [List.mem_filter,List.contains_iff_mem]
 constructor
 ·exact fun z=>z.2
 ·intro z
  have:=h c z
  have e:c=0∨c=1∨c=2∨c=3:=by omega
  exact ⟨by rcases e with rfl | rfl | rfl | rfl <;> simp,z⟩
theorem zhC {a b:List Nat}(h:∀ c,c∈a↔c∈b):zbj a=zbj b:=by
 unfold zbj
 refine List.filter_congr fun c _=>?_
 rw [Bool.eq_iff_iff,List.contains_iff_mem,List.contains_iff_mem]
 exact h c
noncomputable def zfJ (k:Str):Prop:=k="and"∨k="or"∨k="odd"
theorem zit {k:Str}(hk:zfJ k){ns:List Int}{n:Int}(hb:Bits ns)(hn:n=0∨n=1):zb0 k (ns++ [n])=zb0 k [zb0 k ns,n]:=by
 rcases hk with rfl | rfl | rfl
 ·rw [zgu,zgu,zgu]
  by_cases h:ns.all (· ==1)=true
  ·rw [if_pos h]
   simp [h]
  ·rw [if_neg h]
   simp [h]
 ·rw [zjy,zjy,zjy]
  by_cases h:ns.any (· ==1)=true
  ·rw [if_pos h]
   simp [h]
  ·rw [if_neg h]
   simp [h]
 ·rw [zgI,zgI,zgI,List.sum_append]
  simp only [List.sum_cons,List.sum_nil]
  omega
theorem zdt {k:Str}(hk:zfJ k)(ns:List Int):zb0 k ns=0∨zb0 k ns=1:=by
 rcases hk with rfl | rfl | rfl
 ·rw [zgu];split
  ·exact .inr rfl
  ·exact .inl rfl
 ·rw [zjy];split
  ·exact .inr rfl
  ·exact .inl rfl
 ·rw [zgI]
  omega
noncomputable def zcR (cs:List Nat):Prop:=∀ c∈cs,c < 4
theorem zcr.codes {r:List Nat}{ls:List (List Nat)}(h:zcr r ls)(hc:∀ l∈ls,zcR l):zcR r:=by
 induction h with
 | nil=>exact fun _ h=>(List.not_mem_nil h).elim
 | cons hx _ ih=>
  intro c hm
  rcases List.mem_cons.mp hm with rfl | hm
  ·exact hc _ List.mem_cons_self _ hx
  ·exact ih (fun l hl=>hc l (List.mem_cons_of_mem _ hl)) c hm
theorem zcR.hi {r:List Nat}(h:zcR r):Bits (r.map hiV):=fun n hn=>by
 obtain ⟨c,hc,rfl⟩:=List.mem_map.mp hn
 exact zg8 (h c hc)
theorem zcR.lo {r:List Nat}(h:zcR r):Bits (r.map loV):=fun n hn=>by
 obtain ⟨c,hc,rfl⟩:=List.mem_map.mp hn
 exact znk (h c hc)
theorem zgw {k:Str}(hk:zfJ k){a:List Nat}{x:Nat}(ha:zcR a)(hx:x < 4):zcq k (a++ [x])=zcq k [zcq k a,x]:=by
 unfold zcq
 rw [List.map_append,List.map_append]
 show zb3 (zb0 k (a.map hiV++ [hiV x])) (zb0 k (a.map loV++ [loV x]))=zb3 (zb0 k [hiV _,hiV x]) (zb0 k [loV _,loV x])
 rw [zdV (zdt hk _) (zdt hk _),zdN (zdt hk _) (zdt hk _),zit hk ha.hi (zg8 hx),zit hk ha.lo (znk hx)]
theorem zmF {k:Str}(hk:zfJ k)(r:List Nat):zcq k r < 4:=zds (zdt hk _) (zdt hk _)
theorem ziR {k:Str}(hk:zfJ k){ls:List (List Nat)}{c:Nat}:c∈zfS k ls↔∃ r,zcr r ls∧zcq k r=c:=by
 unfold zfS
 rw [zep (fun d hd=>by obtain ⟨r,_,rfl⟩:=List.mem_map.mp hd;exact zmF hk r),List.mem_map]
 constructor
 ·rintro ⟨r,hr,e⟩
  exact ⟨r,za8.mp hr,e⟩
 ·rintro ⟨r,hr,e⟩
  exact ⟨r,za8.mpr hr,e⟩
theorem zkL {k:Str}(hk:zfJ k){ls:List (List Nat)}{l:List Nat}(hls:∀ m∈ls,zcR m)(hl:zcR l):zfS k (ls++ [l])=zfS k [zfS k ls,l]:=by
 refine zhC fun c=>?_
 rw [List.mem_map,List.mem_map]
 constructor
 ·rintro ⟨r,hr,rfl⟩
  obtain ⟨a,x,rfl,ha,hx⟩:=zcr.snoc.mp (za8.mp hr)
  exact ⟨[zcq k a,x],za8.mpr (.cons ((ziR hk).mpr ⟨a,ha,rfl⟩) (.cons hx .nil)),(zgw hk (ha.codes hls) (hl x hx)).symm⟩
 ·rintro ⟨r,hr,rfl⟩
  cases za8.mp hr with
  | cons hd h2=>
   cases h2 with
   | cons hx h3=>
    cases h3
    obtain ⟨a,ha,rfl⟩:=(ziR hk).mp hd
    exact ⟨a++ [_],za8.mpr (zcr.snoc.mpr ⟨a,_,rfl,ha,hx⟩),zgw hk (ha.codes hls) (hl _ hx)⟩
end My
namespace L2
open PySem PySem.Spec PyProof.Rows
section
variable {prog:Program} {w:World} {A:Around} {R:Result→Shared→Prop} {I:Addr} {fp wr:List Addr} {n:Nat} {P:Nat→Value→Prop} {St:Nat→Heap→Prop}
end
section
variable {prog:Program} {w:World} {A:Around} {E:Value→Shared→Prop} {s:Shared} {l:Addr} {xs:Array (Int×Tok)}
end
section
variable {X:Cx}
end
end L2
namespace L2
open PySem PySem.Spec PyProof.Rows
open PySem.W (Dat kqdP kqdPs kqdOk)
section
variable {X:Cx}
end
end L2
namespace L2
open PySem PySem.Spec PyProof.Rows
end L2
namespace L2
open PySem PySem.Spec PyProof.Rows
section
variable {prog:Program} {w:World} {A:Around} {E:Value→Shared→Prop} {s:Shared}
end
section
variable {X:Cx}
end
end L2
namespace L2
open PySem PySem.Spec PyProof.Rows
noncomputable def zc0:List Int→List Int→Bool
 | x::xs,y::ys=>if x=y then zc0 xs ys else decide (x < y)
 | _,_=>false
section
open PySem.SeqAt
open PySem.AutoSeq1 (wpAny_loadPart')
open PySem.MeetsSeq PySem.MeetsSeq2 PySem.MeetsSeq3
theorem zjC (A:Around)(s:Shared)(a:Int)(t:Tok)(c:Int)(u:Tok)(prog:Program)(w:World)(E:Value→Shared→Prop)(Q:Value→Shared→Prop)(h:Q (.bool (decide (a < c))) s):
  wpAny (model prog w) A (richCompare .Lt (.int a t) (.int c u)) Q E s:=
 (PyProof.Rows.lt_int h:wpAny (model prog w) A (compareOp .Lt (.int a t) (.int c u)) Q E s)
theorem zmN (p1 p2:Addr)(us ws:List Value)(n1 n2:Nat)(d1 d2:Option Addr)(z1 z2:Array (Option Value))(ns ms:List Int)(h1:IntsAre us ns)(h2:IntsAre ws ms)(he:us.length=ws.length)(k:Nat):
  ∀ i:Nat,us.length - i=k→Meets (Builtin.«list.__eq__.loop» ⟨[.ref p1,.ref p2,rawInt i,rawInt 0],[]⟩)
   (fun _ R s=>s.heap.get? p1=some {cls:=.type "list",dict:=d1,data:=.seq us.toArray n1,slots:=z1}∧s.heap.get? p2=some {cls:=.type "list",dict:=d2,data:=.seq ws.toArray n2,slots:=z2}∧
    R (.ok (.ret (.bool (zc0 (ns.drop i) (ms.drop i))))) s):=by
 have l1:=h1.length
 have l2:=h2.length
 induction k with
 | zero=>
  intro i hk prog w A R s h
  obtain ⟨hp,g,dr,tk,os⟩:=s
  obtain ⟨f1,f2,h⟩:=h
  wp_walk using wpAny_loadPart' f1,wpAny_loadPart' f2
  have i1:us.toArray[((i:Nat):Int).toNat]? =none:=by simp;omega
  have i2:ws.toArray[((i:Nat):Int).toNat]? =none:=by simp;omega
  have e1:ns.drop i= []:=List.drop_of_length_le (by omega)
  have e2:ms.drop i= []:=List.drop_of_length_le (by omega)
  rw [e1,e2] at h
  rw [i1,i2]
  wp_walk using wpAny_loadPart' f1,wpAny_loadPart' f2
  show R (.ok (.ret (.bool (decide (us.toArray.size < ws.toArray.size))))) _
  rw [decide_eq_false (by simp;omega)]
  exact h
 | succ k ih=>
  intro i hk prog w A R s h
  obtain ⟨hp,g,dr,tk,os⟩:=s
  obtain ⟨f1,f2,h⟩:=h
  wp_walk using wpAny_loadPart' f1,wpAny_loadPart' f2
  obtain ⟨u,hu⟩:∃ u,us[i]? =some u:=⟨_,List.getElem?_eq_getElem (by omega)⟩
  obtain ⟨v,hv⟩:∃ v,ws[i]? =some v:=⟨_,List.getElem?_eq_getElem (by omega)⟩
  obtain ⟨a,t,rfl,ha⟩:=ziD h1 hu
  obtain ⟨c,t2,rfl,hc⟩:=ziD h2 hv
  have i1:us.toArray[((i:Nat):Int).toNat]? =some (.int a t):=by simpa using hu
  have i2:ws.toArray[((i:Nat):Int).toNat]? =some (.int c t2):=by simpa using hv
  have nx:((i:Int)+1)=((i+1:Nat):Int):=by omega
  have e1:ns.drop i=a::ns.drop (i+1):=by
   obtain ⟨q,e⟩:=List.getElem?_eq_some_iff.mp ha
   rw [List.drop_eq_getElem_cons q,e]
  have e2:ms.drop i=c::ms.drop (i+1):=by
   obtain ⟨q,e⟩:=List.getElem?_eq_some_iff.mp hc
   rw [List.drop_eq_getElem_cons q,e]
  rw [e1,e2,zc0] at h
  rw [i1,i2]
  obtain ⟨e,he2,hiff⟩:∃ e,SeqAt.EqAt A.in1 ⟨hp,g,dr,tk,os⟩ (.int a t) (.int c t2) e∧(e=true↔a=c):=⟨(a==c),SeqAt.EqAt.int_int a t c t2,by simp⟩
  refine wpAny_bind (he2 prog w _ _ ?_)
  cases e with
  | true=>
   rw [if_pos (hiff.mp rfl)] at h
   wp_walk
   rw [nx]
   refine ⟨plainId_quiet plain_eq_loop _,codeAny_builtin entry_eq_loop ?_⟩
   rw [Around.under_plainId plain_eq_loop _];exact ih (i+1) (by omega) prog w A R _ ⟨f1,f2,h⟩
  | false=>
   rw [if_neg (fun q=>absurd (hiff.mpr q) Bool.false_ne_true)] at h
   wp_walk using wpAny_loadPart' f1,wpAny_loadPart' f2
   rw [i1,i2]
   have hri:=zjC A.in1 ⟨hp,g,dr,tk,os⟩ a t c t2 prog w
   wp_walk using hri
   exact h
theorem zmX (p1 p2:Addr)(us ws:List Value)(n1 n2:Nat)(d1 d2:Option Addr)(z1 z2:Array (Option Value))(ns ms:List Int)(h1:IntsAre us ns)(h2:IntsAre ws ms)(he:us.length=ws.length):
  Meets (Builtin.«list.__lt__» ⟨[.ref p1,.ref p2],[]⟩)
   (fun _ R s=>s.heap.get? p1=some {cls:=.type "list",dict:=d1,data:=.seq us.toArray n1,slots:=z1}∧s.heap.get? p2=some {cls:=.type "list",dict:=d2,data:=.seq ws.toArray n2,slots:=z2}∧
    R (.ok (.ret (.bool (zc0 ns ms)))) s):=by
 intro prog w A R s h
 obtain ⟨hp,g,dr,tk,os⟩:=s
 obtain ⟨f1,f2,h⟩:=h
 have sub:=AutoSeq1.sub_list_list
 wp_walk using wpAny_loadPart' f1,wpAny_loadPart' f2
 refine ⟨plainId_quiet plain_eq_loop _,codeAny_builtin entry_eq_loop ?_⟩
 rw [Around.under_plainId plain_eq_loop _];exact zmN p1 p2 us ws n1 n2 d1 d2 z1 z2 ns ms h1 h2 he _ 0 rfl prog w A R _ ⟨f1,f2,h⟩
end
section
variable {prog:Program} {w:World} {A:Around} {E:Value→Shared→Prop} {s:Shared}
theorem zm5 {p1 p2:Addr}{o1 o2:Obj}{us ws:List Value}{n1 n2:Nat}{ns ms:List Int}{Q:Bool→Shared→Prop}(hu:A.units < cLine)(e1:s.heap.get? p1=some o1)(c1:o1.cls= .type "list")(d1:o1.data= .seq us.toArray n1)(e2:s.heap.get? p2=some o2)(c2:o2.cls= .type "list")(d2:o2.data= .seq ws.toArray n2)
  (h1:IntsAre us ns) (h2:IntsAre ws ms) (he:us.length=ws.length) (h:Q (zc0 ns ms) s):wpAny (model prog w) A (keyLt' oneType' (.ref p1) (.ref p2)) Q E s:=by
 obtain ⟨k1,dd1,dt1,sl1⟩:=o1
 obtain ⟨k2,dd2,dt2,sl2⟩:=o2
 simp only at c1 d1 c2 d2
 subst c1 d1 c2 d2
 rw [keyLt'_oneType,oneLt'_eq]
 simp only [if_true]
 refine wpAny_bind (wpAny_cRoomFor hu ?_)
 refine wpAny_bind (wpAny_callSpecialIfBound?_slot ⟨_,e1,rfl⟩ PySem.F.slot_list_lt (PySem.call_meets PySem.F.slot_list_lt ⟨_,e1,rfl⟩ PySem.F.entry_list_lt (PySem.F.args_list_lt_2 _ _) (zmX p1 p2 us ws n1 n2 dd1 dd2 sl1 sl2 ns ms h1 h2 he) ⟨e1,e2,?_⟩))
 exact wpAny_truthy_bool h
theorem zos {cmp:Nat→Nat→(Bool→Shared→Prop)→Shared→Prop}{Q:Array Nat→Shared→Prop}(h:cmp 1 0 (fun b s'=>Q (if b=true then #[1,0] else #[0,1]) s') s):(PySem.W.kas_sort 2).kasWp cmp Q s:=by
 have e:PySem.W.kas_sort 2= .ask 1 0 fun b=>.ret (if b=true then #[1,0] else #[0,1]):=congrArg (PySem.W.KasT.ask 1 0) (funext fun b=>by cases b <;> rfl)
 rw [e]
 exact h
noncomputable def LsAt (h:Heap) (p:Addr) (ns:List Int):Prop:=∃ o us n,h.get? p=some o∧o.cls= .type "list"∧o.data= .seq (List.toArray us) n∧IntsAre us ns
noncomputable abbrev zbH (L:List (List Int×Addr)):List Value:=L.map fun p=>Value.ref p.2
noncomputable def srtL:List (List Int×Addr)→List (List Int×Addr)
 | [p,q]=>if zc0 q.1 p.1=true then [q,p] else [p,q]
 | L=>L
theorem zkN {h:Heap}{p:Addr}{ns:List Int}{M:Model}(e:LsAt h p ns):PySem.W.Looks M h (typeOf (.ref p)) (.type "list"):=fun A Q E s k q=>by
 obtain ⟨o,us,n,e1,e2,_⟩:=e
 exact wpAny_typeOf (T:="list") ⟨o,k _ _ e1,e2⟩ q
theorem zhO {a:Addr}{L:List (List Int×Addr)}{n m:Nat}{P:PySem.Fin→Shared→Prop}(hu:A.units < cLine)(ho:s.heap.get? a=some (seqObj "list" (zbH L).toArray n))
  (hk:∀ p∈L,p.2≠a∧LsAt s.heap p.2 p.1∧p.1.length=m) (hlen:L.length≤2)
  (h:∀ h' n',h'.get? a=some (seqObj "list" (zbH (srtL L)).toArray n')→(∀ b o,b≠a→s.heap.get? b=some o→h'.get? b=some o)→P (.done (.ret .none)) {s with heap:=h'}):
  wpAny (model prog w) A (Builtin.«list.sort» ⟨[.ref a],[]⟩) P E s:=by
 rw [list_sort_plain]
 have ha:a < s.heap.objs.size:=Heap.lt_size ho
 have hl:(zbH L).length=L.length:=List.length_map _
 have s1:=Heap.SameBut.update s.heap a (Obj.mapSeq fun _=>(#[]:Array Value))
 refine wpAny_bind (listItems_at ho rfl ?_)
 refine wpAny_bind (listUpdate_at ho rfl ?_ (by rw [List.size_toArray,sizeLine_eq];omega) (Nat.zero_le _))
 obtain ⟨e1,ho1⟩:∃ e1,(s.heap.update a (Obj.mapSeq fun _=>#[])).get? a=some (seqObj "list" #[] e1):=⟨_,get?_update_seq ho (fun _=>#[])⟩
 refine wpAny_bind (seqEpoch_at ho1 rfl ?_)
 refine wpAny_bind (wpAny_newTuple ?_ (by show (zbH L).length≤_;rw [sizeLine_eq];omega))
 refine wpAny_bind (wpAny_newList ?_ (Nat.zero_le _))
 refine wpAny_holding ?_
 have keep3:∀ b o,(s.heap.update a (Obj.mapSeq fun _=>(#[]:Array Value))).get? b=some o→(((s.heap.update a (Obj.mapSeq fun _=>(#[]:Array Value))).push (seqObj "tuple" (zbH L).toArray 0)).push (seqObj "list" #[] 0)).get? b=some o:=
  fun b o e=>Heap.get?_push_of_some _ (Heap.get?_push_of_some _ e)
 show wpAny (model prog w) A _ P E {s with heap:=((s.heap.update a (Obj.mapSeq fun _=>(#[]:Array Value))).push (seqObj "tuple" (zbH L).toArray 0)).push (seqObj "list" #[] 0)}
 have ho3:=keep3 a _ ho1
 generalize ((s.heap.update a (Obj.mapSeq fun _=>(#[]:Array Value))).push (seqObj "tuple" (zbH L).toArray 0)).push (seqObj "list" #[] 0)=H3 at keep3 ho3 ⊢
 have keepH:∀ b o,b≠a→s.heap.get? b=some o→H3.get? b=some o:=fun b o hb e=>keep3 b o ((s1.2 b hb).trans e)
 dsimp only
 have fin:P (.done (.ret .none)) {s with heap:=H3.update a (Obj.mapSeq fun _=>(zbH (srtL L)).toArray)}:=by
  obtain ⟨c2,hc2⟩:∃ c2,(H3.update a (Obj.mapSeq fun _=>(zbH (srtL L)).toArray)).get? a=some (seqObj "list" (zbH (srtL L)).toArray c2):=⟨_,get?_update_seq ho3 fun _=>(zbH (srtL L)).toArray⟩
  exact h _ c2 hc2 fun b o hb e=>(Heap.get?_update_other _ _ (Ne.symm hb)).trans (keepH b o hb e)
 by_cases h2:(zbH L).toArray.size < 2
 ·rw [if_pos h2,if_pos h2]
  refine wpAny_bind (wpAny_pure ?_)
  rw [StateT.run_pure]
  refine wpAny_bind (wpAny_pure ?_)
  dsimp only
  refine wpAny_bind (seqEpoch_at (s:={s with heap:=H3}) ho3 rfl ?_)
  have hsame:(arrOf (SortSt.mk' general' ((zbH L).toArray.zip (zbH L).toArray) #[] 7 none)).map (·.2)=(zbH L).toArray:=by
   show ((zbH L).toArray.zip (zbH L).toArray).map (·.2)=_
   apply Array.toList_inj.mp
   simp [List.map_snd_zip]
  rw [hsame]
  refine wpAny_bind (listUpdate_at (s:={s with heap:=H3}) ho3 rfl ?_ (Nat.zero_le _) (by rw [List.size_toArray,sizeLine_eq];omega))
  simp only [bne_self_eq_false,Bool.false_eq_true,if_false]
  rw [List.size_toArray,hl] at h2
  have eL:srtL L=L:=by
   match L,h2 with
   | [],_=>rfl
   | [p],_=>rfl
  rw [eL] at fin
  exact wpAny_pure fin
 ·rw [if_neg h2,if_neg h2]
  rw [List.size_toArray,hl] at h2
  obtain ⟨p,q,rfl⟩:∃ p q,L= [p,q]:=by
   match L,h2,hlen with
   | [],h2,_=>exact absurd (by decide) h2
   | [p],h2,_=>exact absurd (by simp) h2
   | [p,q],_,_=>exact ⟨p,q,rfl⟩
   | _::_::_::_,_,h3=>simp at h3
  have hk3:∀ p'∈[p,q],LsAt H3 p'.2 p'.1:=fun p' hp=>by
   obtain ⟨x1,⟨o,us,n,e,r⟩,_⟩:=hk p' hp
   exact ⟨o,us,n,keepH _ _ x1 e,r⟩
  refine wpAny_bind (PySem.W.kas_kind (s:={s with heap:=H3}) (T:=.type "list") (Nat.le_refl 2) (fun v hv=>?_) (by decide) (by decide) ?_)
  ·obtain ⟨p',hp',rfl⟩:=List.mem_map.mp hv
   exact zkN (hk3 p' hp')
  ·have run:(PySem.W.kas_sort 2).kasWp (PySem.W.kas_ask prog w A oneType' (zbH [p,q])) (fun pp s'=>pp=(if zc0 q.1 p.1=true then #[1,0] else #[0,1])∧s'= {s with heap:=H3}) {s with heap:=H3}:=by
    refine zos ?_
    obtain ⟨o1,us1,n1,a1,a2,a3,a4⟩:=hk3 q (by simp)
    obtain ⟨o2,us2,n2,b1,b2,b3,b4⟩:=hk3 p (by simp)
    show wpAny (model prog w) A (keyLt' oneType' (.ref q.2) (.ref p.2)) _ _ _
    refine zm5 hu a1 a2 a3 b1 b2 b3 a4 b4 ?_ ⟨rfl,rfl⟩
    rw [a4.length,b4.length,(hk q (by simp)).2.2,(hk p (by simp)).2.2]
   refine wpAny_bind (wpAny_mono (PySem.W.kat_run (E:=E) (ks:=zbH [p,q]) (vs:=zbH [p,q]) (Q:=fun st' s'=>s'= {s with heap:=H3}∧failedOf st'=none∧arrOf st'=((if zc0 q.1 p.1=true then #[1,0] else #[0,1]:Array Nat)).map (PySem.W.kas_item ((zbH [p,q]).toArray.zip (zbH [p,q]).toArray)))
    rfl (Nat.le_refl 2) (show 2 < 64 by decide) (fun p' st' s' a1 a2 a3 a4=>?_) run) ?_ fun _ _ e=>e)
   ·obtain ⟨rfl,rfl⟩:=a4
    exact ⟨rfl,a3,a2⟩
   ·rintro ⟨⟨⟩,st'⟩ s' ⟨rfl,hf,har⟩
    dsimp only at hf har ⊢
    have hout:=PySem.W.kat_snds rfl har
    have hL3:((if zc0 q.1 p.1=true then #[1,0] else #[0,1]:Array Nat).toList.map fun i=>(zbH [p,q]).getD i Value.none)=zbH (srtL [p,q]):=by
     show _=zbH (if zc0 q.1 p.1=true then [q,p] else [p,q])
     by_cases c:zc0 q.1 p.1=true
     ·rw [if_pos c,if_pos c]
      rfl
     ·rw [if_neg c,if_neg c]
      rfl
    rw [hL3] at hout
    rw [hout]
    refine wpAny_bind (seqEpoch_at (s:={s with heap:=H3}) ho3 rfl ?_)
    refine wpAny_bind (listUpdate_at (s:={s with heap:=H3}) ho3 rfl ?_ (Nat.zero_le _) ?_)
    ·rw [hf]
     simp only [bne_self_eq_false,Bool.false_eq_true,if_false]
     exact wpAny_pure fin
    ·rw [List.size_toArray,List.length_map,sizeLine_eq]
     show (if zc0 q.1 p.1=true then [q,p] else [p,q]).length≤_
     split <;> exact (by decide: 2≤16777216+1)
theorem zkE {l:Addr}{L:List (List Int×Addr)}{m:Nat}{Q:Value→Shared→Prop}(hu:A.units+64 < cLine)(hl:s.heap.IsList l (zbH L).toArray)(hk:∀ p∈L,LsAt s.heap p.2 p.1∧p.1.length=m)(hlen:L.length≤2)
  (h:∀ (D:Addr) h' n',s.heap.objs.size≤D→h'.get? D=some (seqObj "list" (zbH (srtL L)).toArray n')→(∀ b o,s.heap.get? b=some o→h'.get? b=some o)→Q (.ref D) {s with heap:=h'}):
  wpAny (model prog w) A (call (.builtin "sorted") [.ref l]) Q E s:=by
 have hlr:(zbH L).length=L.length:=List.length_map _
 refine Calls.call_function_entry kind_sorted plain_sorted entry_sorted (args_sorted1 _) ?_
 unfold Builtin.«sorted»
 refine wpAny_bind (m:=checkCount "sorted" 1 1 _) (wpAny_pure ?_)
 refine wpAny_bind (collect_list hl ?_ (by rw [hlr,sizeLine_eq];omega))
 refine wpAny_bind (wpAny_newList ?_ (by rw [hlr,sizeLine_eq];omega))
 have hsz:((s.heap.push (seqObj "list" #[] 0)).update s.heap.objs.size (Obj.mapSeq (· ++(zbH L).toArray))).objs.size=s.heap.objs.size+1:=by
  rw [Heap.size_update,size_push']
 have hoL:(((s.heap.push (seqObj "list" #[] 0)).update s.heap.objs.size (Obj.mapSeq (· ++(zbH L).toArray))).push (seqObj "list" (zbH L).toArray 0)).get? (s.heap.objs.size+1)=some (seqObj "list" (zbH L).toArray 0):=by
  rw [← hsz];exact Heap.get?_push_size _ rfl
 have keep:∀ b o,s.heap.get? b=some o→(((s.heap.push (seqObj "list" #[] 0)).update s.heap.objs.size (Obj.mapSeq (· ++(zbH L).toArray))).push (seqObj "list" (zbH L).toArray 0)).get? b=some o:=fun b o q=>by
  have hlt:b < s.heap.objs.size:=Heap.lt_size q
  rw [Heap.get?_push_ne _ _ _ (by rw [hsz];exact Nat.ne_of_lt (Nat.lt_succ_of_lt hlt)),Heap.get?_update_ne _ _ _ _ (Nat.ne_of_lt hlt),Heap.get?_push_ne _ _ _ (Nat.ne_of_lt hlt)]
  exact q
 show wpAny _ _ _ _ _ {s with heap:=((s.heap.push (seqObj "list" #[] 0)).update s.heap.objs.size (Obj.mapSeq (· ++(zbH L).toArray))).push (seqObj "list" (zbH L).toArray 0)}
 rw [hsz]
 generalize (((s.heap.push (seqObj "list" #[] 0)).update s.heap.objs.size (Obj.mapSeq (· ++(zbH L).toArray))).push (seqObj "list" (zbH L).toArray 0))=H2 at hoL keep ⊢
 refine wpAny_bind (wpAny_holding (wpAny_call_entry slot_list_sort ⟨_,hoL,rfl⟩ entry_list_sort ?body (args_list_sort _)))
 refine zhO (s:={s with heap:=H2}) (m:=m) (by simp;omega) hoL (fun p hp=>⟨?_,?_,(hk p hp).2⟩) hlen fun h' n' e3 e4=>?_
 ·obtain ⟨o',us,n,e,r⟩:=(hk p hp).1
  have:=Heap.lt_size e
  exact Nat.ne_of_lt (Nat.lt_succ_of_lt this)
 ·obtain ⟨o',us,n,e,r⟩:=(hk p hp).1
  exact ⟨o',us,n,keep _ _ e,r⟩
 ·refine ⟨_,rfl,wpAny_pure ⟨_,rfl,h (s.heap.objs.size+1) h' n' (Nat.le_succ _) e3 fun b ob e=>e4 b ob ?_ (keep b ob e)⟩⟩
  have:=Heap.lt_size e
  exact Nat.ne_of_lt (Nat.lt_succ_of_lt this)
end
theorem zkG {L:List (List Int×Addr)}:Vals (L.map fun p=>V.ref p.2) (zbH L):=by
 induction L with
 | nil=>exact .nil
 | cons p r ih=>exact .cons rfl ih
theorem zeA:∀ {L:List (List Int×Addr)} {us:List Value},Vals (L.map fun p=>V.ref p.2) us→us=zbH L
 | [],_,h=>by cases h;rfl
 | p::r,_,h=>by
  cases h with
  | cons h1 h2=>
   cases h1
   rw [zeA h2]
   rfl
theorem zeK (L:List (List Int×Addr)):(srtL L).length=L.length:=by
 match L with
 | []=>rfl
 | [_]=>rfl
 | [p,q]=>show (if zc0 q.1 p.1=true then [q,p] else [p,q]).length=2;split <;> rfl
 | _::_::_::_=>rfl
section
variable {X:Cx}
theorem ziz (hu:X.A.units+64 < cLine):zey X (.builtin "sorted") (fun xs H Q=>∃ (l:Addr) (L:List (List Int×Addr)) (m:Nat),xs= [.ref l]∧H l=some (.lst (L.map fun p=>V.ref p.2))∧(∀ p∈L,H p.2=some (.lst (p.1.map V.int))∧p.1.length=m)∧L.length≤2∧
  ∀ (D:Addr),H D=none→Q (.ref D) (upd H D (.lst ((srtL L).map fun p=>V.ref p.2)))):=by
 intro pins s σ H xs us Q I r ⟨l,L,m,e,hl,hps,hlen,q⟩
 subst e
 obtain ⟨u,rfl,rx⟩:=zgW r
 cases rx
 obtain ⟨z,its,n,rv,hln,eL⟩:=I.lstM hl
 have eits:=zeA rv
 subst eits
 refine zkE (L:=L) (m:=m) hu ⟨_,eL,rfl,n,rfl⟩ (fun p hp=>⟨?_,(hps p hp).2⟩) hlen fun D h' n' hD e3 hK=>?_
 ·obtain ⟨z2,its2,n2,rv2,hln2,eL2⟩:=I.lstM (hps p hp).1
  exact ⟨_,its2,n2,eL2,rfl,rfl,zic rv2⟩
 ·have hf:H D=none:=I.hok.fresh hD
  refine ⟨.ref D,_,I.laid (a:=D) (o:=.lst ((srtL L).map fun p=>V.ref p.2)) (t':=s.toks) hK hD ⟨?_,zbH (srtL L),n',zkG,e3⟩,rfl,q D hf⟩
  rw [List.length_map,zeK,sizeLine_eq]
  omega
end
end L2
namespace My
open PySem L2
open PySem.W (Dat kqdP kqdPs kqdOk)
theorem zj6 (fs:List Flt)(gs:List (Str×List Int))(row:List Int){n i:Nat}(hi:i < row.length+n):∀ d,(zan fs gs row (n+d)).getD i 0=(zan fs gs row n).getD i 0
 | 0=>rfl
 | d+1=>by
  show (zan fs gs row (n+d+1)).getD i 0=_
  rw [zan,List.getD_eq_getElem?_getD,List.getElem?_append_left (by rw [zbZ];omega),← List.getD_eq_getElem?_getD]
  exact zj6 fs gs row hi d
theorem znA (fs:List Flt)(gs:List (Str×List Int))(row:List Int)(n:Nat){i:Nat}(hi:i < row.length):(zan fs gs row n).getD i 0=pick fs (zbn i) (row.getD i 0):=by
 have e:=zj6 fs gs row (n:=0) (i:=i) (by omega) n
 rw [Nat.zero_add] at e
 rw [e,zan]
 unfold rowS
 rw [List.getD_eq_getElem?_getD,List.getElem?_mapIdx,List.getD_eq_getElem?_getD,List.getElem?_eq_getElem hi]
 rfl
theorem zms (fs:List Flt)(gs:List (Str×List Int))(row:List Int){n j:Nat}(hj:j < n){g:Str×List Int}(hg:gs[j]? =some g)(hl:∀ l∈g.2,0≤l∧l < row.length+j):(zan fs gs row n).getD (row.length+j) 0=pick fs (zbn ((row.length+j:Nat):Int)) (zb0 g.1 (zcS fs j (g.2.map fun l=>(zan fs gs row n).getD l.toNat 0))):=by
 obtain ⟨d,rfl⟩:∃ d,n=j+1+d:=⟨n - (j+1),by omega⟩
 rw [zj6 fs gs row (n:=j+1) (by omega) d]
 have e:(g.2.map fun l=>(zan fs gs row (j+1+d)).getD l.toNat 0)=g.2.map fun l=>(zan fs gs row j).getD l.toNat 0:=List.map_congr_left fun l hm=>by
  have:=hl l hm
  rw [show j+1+d=j+(1+d) by omega]
  exact zj6 fs gs row (n:=j) (by omega) (1+d)
 rw [e,zan,List.getD_eq_getElem?_getD,List.getElem?_append_right (by rw [zbZ];omega),zbZ,Nat.sub_self,hg]
 rfl
theorem zjq {A B:List Flt}{p q:List Key}(h:look A p=look B q)(v:Int):pick A p v=pick B q v:=by unfold pick;rw [h]
theorem zmu {A B:List Flt}{k j:Int}(h:∀ i:Nat,look A (legK k i)=look B (legK j i))(ns:List Int):zcS A k ns=zcS B j ns:=by
 unfold zcS
 congr 1
 funext i v
 exact zjq (h i) v
theorem emb {fs F:List Flt}{g1 gb:List (Str×List Int)}{r rb:List Int}{mw:Int→Int}{mg:Nat→Nat}
  (lw:∀ (k:Nat) g,g1[k]? =some g→∀ l∈g.2,0≤l∧l < r.length+k)
  (hr:∀ i:Nat,i < r.length→∃ k:Nat,mw i=k∧k < rb.length∧rb.getD k 0=r.getD i 0)
  (hg:∀ (j:Nat) g,g1[j]? =some g→mw ((r.length+j:Nat):Int)=((rb.length+mg j:Nat):Int)∧gb[mg j]? =some (g.1,g.2.map mw))
  (lwb:∀ (k:Nat) g,gb[k]? =some g→∀ l∈g.2,0≤l∧l < rb.length+k)
  (hw:∀ i:Nat,i < r.length+g1.length→look F (zbn (mw i))=look fs (zbn i))
  (hl:∀ (j p:Nat),j < g1.length→look F (legK (mg j) p)=look fs (legK j p)):
  ∀ (m i:Nat),i < m→i < r.length+g1.length→(zan F gb rb gb.length).getD (mw i).toNat 0=(zan fs g1 r g1.length).getD i 0
 | 0,_,z,_=>absurd z (Nat.not_lt_zero _)
 | m+1,i,him,hi=>by
  by_cases c:i < r.length
  ·obtain ⟨k,ek,lk,ev⟩:=hr i c
   have hwi:=hw i hi
   rw [ek] at hwi ⊢
   rw [Int.toNat_natCast,znA F gb rb _ lk,znA fs g1 r _ c,ev]
   exact zjq hwi _
  ·obtain ⟨j,rfl⟩:∃ j,i=r.length+j:=⟨i - r.length,by omega⟩
   have lj:j < g1.length:=by omega
   have e1:g1[j]? =some g1[j]:=List.getElem?_eq_getElem lj
   obtain ⟨em,eg⟩:=hg j _ e1
   have lm:mg j < gb.length:=(List.getElem?_eq_some_iff.mp eg).1
   have hwi:=hw (r.length+j) hi
   rw [em] at hwi ⊢
   rw [Int.toNat_natCast,zms F gb rb lm eg (lwb _ _ eg),zms fs g1 r lj e1 (lw _ _ e1),zjq hwi,zmu (j:=(j:Int)) (fun p=>hl j p lj)]
   congr 3
   show List.map _ (g1[j].2.map mw)=_
   rw [List.map_map]
   refine List.map_congr_left fun l hm=>?_
   obtain ⟨l0,l1⟩:=lw _ _ e1 l hm
   have ih:=emb lw hr hg lwb hw hl m l.toNat (by omega) (by omega)
   rw [Int.toNat_of_nonneg l0] at ih
   exact ih
noncomputable def mv1 (a b:zat) (i:Int):Int:=i+b.ins * (if a.ins≤i then 1 else 0)
noncomputable def mv2 (a b:zat) (i:Int):Int:=if i < b.ins then a.ins+i else a.ins+a.gates.length+i
noncomputable def zce (a b:zat):zat:=⟨a.ins+b.ins,a.gates.map (fun g=>(g.1,g.2.map (mv1 a b)))++b.gates.map (fun g=>(g.1,g.2.map (mv2 a b))),a.outs.map (mv1 a b)++b.outs.map (mv2 a b)⟩
theorem znl {a b:zat}{i:Int}(h:i < a.ins):mv1 a b i=i:=by unfold mv1;rw [if_neg (by omega)];omega
theorem znj {a b:zat}{i:Int}(h:a.ins≤i):mv1 a b i=i+b.ins:=by unfold mv1;rw [if_pos h];omega
theorem zlL {a b:zat}{i:Int}(h:i < b.ins):mv2 a b i=a.ins+i:=if_pos h
theorem zl4 {a b:zat}{i:Int}(h:b.ins≤i):mv2 a b i=a.ins+a.gates.length+i:=if_neg (by omega)
theorem zlZ {a b:zat}(ha: 1≤a.ins)(hb: 1≤b.ins){i:Int}{k:Nat}(h0: 0≤i)(h1:i < a.ins+k): 0≤mv1 a b i∧mv1 a b i < a.ins+b.ins+k:=by
 by_cases c:i < a.ins
 ·rw [znl c];omega
 ·rw [znj (by omega)];omega
theorem zmi {a b:zat}(ha: 1≤a.ins)(hb: 1≤b.ins){i:Int}{k:Nat}(h0: 0≤i)(h1:i < b.ins+k): 0≤mv2 a b i∧mv2 a b i < a.ins+b.ins+(a.gates.length+k):=by
 by_cases c:i < b.ins
 ·rw [zlL c];omega
 ·rw [zl4 (by omega)];omega
theorem zma {a b:zat}(hb: 1≤b.ins){i j:Int}(h:mv1 a b i=mv1 a b j):i=j:=by
 unfold mv1 at h
 split at h <;> split at h <;> omega
theorem zlx {a b:zat}{i j:Int}(h:mv2 a b i=mv2 a b j):i=j:=by
 unfold mv2 at h
 split at h <;> split at h <;> omega
theorem mv12 {a b:zat}(ha: 1≤a.ins)(hb: 1≤b.ins){i j:Int}(i0: 0≤i)(j0: 0≤j)(i1:i < a.ins+a.gates.length):mv1 a b i≠mv2 a b j:=by
 unfold mv1 mv2
 split <;> split <;> omega
theorem ze5 {a b:zat}{j:Nat}{g:Str×List Int}(h:a.gates[j]? =some g):(zce a b).gates[j]? =some (g.1,g.2.map (mv1 a b)):=by
 show (_++_:List _)[j]? =_
 rw [List.getElem?_append_left (by rw [List.length_map];exact (List.getElem?_eq_some_iff.mp h).1),List.getElem?_map,h]
 rfl
theorem zfp {a b:zat}{j:Nat}{g:Str×List Int}(h:b.gates[j]? =some g):(zce a b).gates[a.gates.length+j]? =some (g.1,g.2.map (mv2 a b)):=by
 show (_++_:List _)[a.gates.length+j]? =_
 rw [List.getElem?_append_right (by rw [List.length_map];omega),List.length_map,Nat.add_sub_cancel_left,List.getElem?_map,h]
 rfl
theorem zfr (a b:zat):(zce a b).gates.length=a.gates.length+b.gates.length:=by
 show (_++_:List _).length=_
 rw [List.length_append,List.length_map,List.length_map]
theorem zkz {a b:zat}{k:Nat}{g:Str×List Int}(h:(zce a b).gates[k]? =some g):(∃ g0,a.gates[k]? =some g0∧g=(g0.1,g0.2.map (mv1 a b)))∨(∃ j g0,k=a.gates.length+j∧b.gates[j]? =some g0∧g=(g0.1,g0.2.map (mv2 a b))):=by
 have lk:=(List.getElem?_eq_some_iff.mp h).1
 rw [zfr] at lk
 by_cases c:k < a.gates.length
 ·have e:=List.getElem?_eq_getElem c
  have e2:=ze5 (b:=b) e
  rw [h] at e2
  exact .inl ⟨_,e,Option.some.inj e2⟩
 ·obtain ⟨j,rfl⟩:∃ j,k=a.gates.length+j:=⟨k - a.gates.length,by omega⟩
  have e:b.gates[j]? =some b.gates[j]:=List.getElem?_eq_getElem (by omega)
  have e2:=zfp (a:=a) e
  rw [h] at e2
  exact .inr ⟨j,_,rfl,e,Option.some.inj e2⟩
theorem ziT {m:Nat}{a b:zat}(wa:WF m a)(wb:WF m b)(k:Nat)(g:Str×List Int)(h:(zce a b).gates[k]? =some g):zbJ g.1 g.2.length∧∀ l∈g.2,0≤l∧l < a.ins+b.ins+k:=by
 rcases zkz h with ⟨g0,e,rfl⟩ | ⟨j,g0,rfl,e,rfl⟩
 ·obtain ⟨lo,ll⟩:=wa.legs k g0 e
  refine ⟨by rw [List.length_map];exact lo,fun l hl=>?_⟩
  obtain ⟨l0,hl0,rfl⟩:=List.mem_map.mp hl
  obtain ⟨x,y⟩:=ll l0 hl0
  exact zlZ wa.i1 wb.i1 x y
 ·obtain ⟨lo,ll⟩:=wb.legs j g0 e
  refine ⟨by rw [List.length_map];exact lo,fun l hl=>?_⟩
  obtain ⟨l0,hl0,rfl⟩:=List.mem_map.mp hl
  obtain ⟨x,y⟩:=ll l0 hl0
  have:=zmi wa.i1 wb.i1 x y
  omega
theorem znS {m:Nat}{a b:zat}(wa:WF m a)(wb:WF m b)(i6:a.ins+b.ins≤6)(gm:a.gates.length+b.gates.length≤m)(om:a.outs.length+b.outs.length≤m+20):WF m (zce a b):=by
 have ha:=wa.i1
 have hb:=wb.i1
 have eg:=zfr a b
 have eo:(zce a b).outs.length=a.outs.length+b.outs.length:=by
  show (_++_:List _).length=_
  rw [List.length_append,List.length_map,List.length_map]
 have oa:=wa.o1
 refine ⟨by show 1≤a.ins+b.ins;omega,i6,by omega,ziT wa wb,by omega,by omega,fun o ho=>?_⟩
 show 0≤o∧o < a.ins+b.ins+(zce a b).gates.length
 rw [eg]
 rcases List.mem_append.mp ho with h | h
 ·obtain ⟨l0,hl0,rfl⟩:=List.mem_map.mp h
  obtain ⟨x,y⟩:=wa.outs l0 hl0
  have:=zlZ ha hb x y
  omega
 ·obtain ⟨l0,hl0,rfl⟩:=List.mem_map.mp h
  obtain ⟨x,y⟩:=wb.outs l0 hl0
  have:=zmi ha hb x y
  omega
noncomputable def mvP1 (a b:zat):List Key→List Key
 | [.inr x,.inl i]=>[.inr x,.inl (mv1 a b i)]
 | p=>p
noncomputable def mvP2 (a b:zat):List Key→List Key
 | [.inr x,.inl i]=>[.inr x,.inl (mv2 a b i)]
 | [.inr x,.inl k,.inl p]=>[.inr x,.inl (k+a.gates.length),.inl p]
 | p=>p
noncomputable def mvF1 (a b:zat) (f:Flt):Flt:=⟨mvP1 a b f.place,f.worth⟩
noncomputable def mvF2 (a b:zat) (f:Flt):Flt:=⟨mvP2 a b f.place,f.worth⟩
theorem ziU (a b:zat)(i:Int):mvP1 a b (zbn i)=zbn (mv1 a b i):=rfl
theorem zi1 (a b:zat)(k i:Int):mvP1 a b (legK k i)=legK k i:=rfl
theorem zif (a b:zat)(i:Int):mvP2 a b (zbn i)=zbn (mv2 a b i):=rfl
theorem zir (a b:zat)(k i:Int):mvP2 a b (legK k i)=legK (k+a.gates.length) i:=rfl
theorem zaP {w:zat}{f:Flt}(h:zb2 w f):(∃ i:Nat,i < w.ins.toNat+w.gates.length∧f.place=zbn i)∨(∃ k i:Nat,k < w.gates.length∧i < ((w.gates[k]?.map fun g=>g.2.length).getD 0)∧f.place=legK k i):=by
 rcases List.mem_append.mp h.1 with z | z
 ·exact .inl (zfi z)
 ·exact .inr (ze7 z)
theorem zeV {m:List Key→List Key}{p q:List Key}:∀ {fs:List Flt},(∀ f∈fs,(m f.place=q↔f.place=p))→look (fs.map fun f=>⟨m f.place,f.worth⟩) q=look fs p
 | [],_=>rfl
 | f::fs,h=>by
  have ih:=zeV (fs:=fs) fun g hg=>h g (.tail _ hg)
  have h0:=h f (.head _)
  unfold look at ih ⊢
  rw [List.map_cons]
  by_cases c:f.place=p
  ·rw [List.find?_cons_of_pos (by simpa using h0.mpr c),List.find?_cons_of_pos (by simpa using c)]
   rfl
  ·rw [List.find?_cons_of_neg (by simpa using fun z=>c (h0.mp z)),List.find?_cons_of_neg (by simpa using c)]
   exact ih
theorem zeC {m:List Key→List Key}{q:List Key}{fs:List Flt}(h:∀ f∈fs,m f.place≠q):look (fs.map fun f=>⟨m f.place,f.worth⟩) q=none:=zdP fun z=>by
 obtain ⟨g,hg,e⟩:=List.mem_map.mp z
 obtain ⟨f,hf,rfl⟩:=List.mem_map.mp hg
 exact h f hf e
theorem zfW (A B:List Flt)(q:List Key):look (A++B) q=(look A q).or (look B q):=by
 unfold look
 rw [List.find?_append]
 cases A.find? fun f=>decide (f.place=q) <;> rfl
noncomputable def zcT (a b:zat) (fs gs:List Flt):List Flt:=fs.map (mvF1 a b)++gs.map (mvF2 a b)
section
variable {m:Nat} {a b:zat} {fs gs:List Flt}
theorem zjm (ha: 1≤a.ins)(hb: 1≤b.ins)(gf:∀ f∈fs,zb2 a f)(gg:∀ f∈gs,zb2 b f){i:Int}(i0: 0≤i)(i1:i < a.ins+a.gates.length):look (zcT a b fs gs) (zbn (mv1 a b i))=look fs (zbn i):=by
 have e1:look (fs.map (mvF1 a b)) (zbn (mv1 a b i))=look fs (zbn i):=zeV fun f hf=>by
  rcases zaP (gf f hf) with ⟨j,_,e⟩ | ⟨k,j,_,_,e⟩
  ·rw [e,ziU]
   exact ⟨fun z=>by rw [zma hb (zcx z)],fun z=>by rw [zcx z]⟩
  ·rw [e,zi1]
   exact ⟨fun z=>(zbk z.symm).elim,fun z=>(zbk z.symm).elim⟩
 have e2:look (gs.map (mvF2 a b)) (zbn (mv1 a b i))=none:=zeC fun f hf=>by
  rcases zaP (gg f hf) with ⟨j,_,e⟩ | ⟨k,j,_,_,e⟩
  ·rw [e,zif]
   exact fun z=>mv12 ha hb i0 (by omega) i1 (zcx z).symm
  ·rw [e,zir]
   exact fun z=>zbk z.symm
 unfold zcT
 rw [zfW,e1,e2,Option.or_none]
theorem zjd (gf:∀ f∈fs,zb2 a f)(gg:∀ f∈gs,zb2 b f){j p:Nat}(hj:j < a.gates.length):look (zcT a b fs gs) (legK j p)=look fs (legK j p):=by
 have e1:look (fs.map (mvF1 a b)) (legK j p)=look fs (legK j p):=zeV fun f hf=>by
  rcases zaP (gf f hf) with ⟨j,_,e⟩ | ⟨k,j,_,_,e⟩
  ·rw [e,ziU]
   exact ⟨fun z=>(zbk z).elim,fun z=>(zbk z).elim⟩
  ·rw [e,zi1]
 have e2:look (gs.map (mvF2 a b)) (legK j p)=none:=zeC fun f hf=>by
  rcases zaP (gg f hf) with ⟨j,_,e⟩ | ⟨k,j,_,_,e⟩
  ·rw [e,zif]
   exact fun z=>zbk z
  ·rw [e,zir]
   exact fun z=>by have:=(zea z).1;omega
 unfold zcT
 rw [zfW,e1,e2,Option.or_none]
theorem zjA (ha: 1≤a.ins)(hb: 1≤b.ins)(gf:∀ f∈fs,zb2 a f)(gg:∀ f∈gs,zb2 b f){i:Int}(i0: 0≤i):look (zcT a b fs gs) (zbn (mv2 a b i))=look gs (zbn i):=by
 have e1:look (gs.map (mvF2 a b)) (zbn (mv2 a b i))=look gs (zbn i):=zeV fun f hf=>by
  rcases zaP (gg f hf) with ⟨j,_,e⟩ | ⟨k,j,_,_,e⟩
  ·rw [e,zif]
   exact ⟨fun z=>by rw [zlx (zcx z)],fun z=>by rw [zcx z]⟩
  ·rw [e,zir]
   exact ⟨fun z=>(zbk z.symm).elim,fun z=>(zbk z.symm).elim⟩
 have e2:look (fs.map (mvF1 a b)) (zbn (mv2 a b i))=none:=zeC fun f hf=>by
  rcases zaP (gf f hf) with ⟨j,hj,e⟩ | ⟨k,j,_,_,e⟩
  ·rw [e,ziU]
   exact fun z=>mv12 ha hb (by omega) i0 (by omega) (zcx z)
  ·rw [e,zi1]
   exact fun z=>zbk z.symm
 unfold zcT
 rw [zfW,e1,e2,Option.none_or]
theorem zja (gf:∀ f∈fs,zb2 a f)(gg:∀ f∈gs,zb2 b f){j p:Nat}:look (zcT a b fs gs) (legK ((a.gates.length+j:Nat):Int) p)=look gs (legK j p):=by
 have e1:look (gs.map (mvF2 a b)) (legK ((a.gates.length+j:Nat):Int) p)=look gs (legK j p):=zeV fun f hf=>by
  rcases zaP (gg f hf) with ⟨i,_,e⟩ | ⟨k,i,_,_,e⟩
  ·rw [e,zif]
   exact ⟨fun z=>(zbk z).elim,fun z=>(zbk z).elim⟩
  ·rw [e,zir]
   refine ⟨fun z=>?_,fun z=>?_⟩
   ·obtain ⟨x,y⟩:=zea z
    rw [show ((k:Nat):Int)=j by omega,y]
   ·obtain ⟨x,y⟩:=zea z
    rw [y,show ((k:Nat):Int)+a.gates.length=((a.gates.length+j:Nat):Int) by omega]
 have e2:look (fs.map (mvF1 a b)) (legK ((a.gates.length+j:Nat):Int) p)=none:=zeC fun f hf=>by
  rcases zaP (gf f hf) with ⟨i,_,e⟩ | ⟨k,i,hk,_,e⟩
  ·rw [e,ziU]
   exact fun z=>zbk z
  ·rw [e,zi1]
   exact fun z=>by have:=(zea z).1;omega
 unfold zcT
 rw [zfW,e1,e2,Option.none_or]
theorem ziw (wa:WF m a)(wb:WF m b)(gf:∀ f∈fs,zb2 a f)(gg:∀ f∈gs,zb2 b f){r1 r2:List Int}(l1:(r1.length:Int)=a.ins)(l2:(r2.length:Int)=b.ins):
  zaQ (zce a b) (zan (zcT a b fs gs) (zce a b).gates (r1++r2) (zce a b).gates.length)=zaQ a (zan fs a.gates r1 a.gates.length)++zaQ b (zan gs b.gates r2 b.gates.length):=by
 have ha:=wa.i1
 have hb:=wb.i1
 have lb:((r1++r2).length:Int)=a.ins+b.ins:=by rw [List.length_append];omega
 have lwb:∀ (k:Nat) g,(zce a b).gates[k]? =some g→∀ l∈g.2,0≤l∧l < ((r1++r2).length:Int)+k:=fun k g h=>by rw [lb];exact (ziT wa wb k g h).2
 have A1:∀ i:Nat,i < r1.length+a.gates.length→(zan (zcT a b fs gs) (zce a b).gates (r1++r2) (zce a b).gates.length).getD (mv1 a b i).toNat 0=(zan fs a.gates r1 a.gates.length).getD i 0:=fun i hi=>by
  refine emb (mw:=mv1 a b) (mg:=id) (fun k g h=>by rw [l1];exact (wa.legs k g h).2) (fun j hj=>?_) (fun j g h=>⟨?_,ze5 h⟩) lwb (fun j hj=>zjm ha hb gf gg (by omega) (by omega)) (fun j p hj=>zjd gf gg hj) (i+1) i (Nat.lt_succ_self _) hi
  ·refine ⟨j,znl (by omega),by rw [List.length_append];omega,?_⟩
   rw [List.getD_eq_getElem?_getD,List.getElem?_append_left hj,← List.getD_eq_getElem?_getD]
  ·rw [znj (by omega)]
   show _=(((r1++r2).length+j:Nat):Int)
   omega
 have A2:∀ i:Nat,i < r2.length+b.gates.length→(zan (zcT a b fs gs) (zce a b).gates (r1++r2) (zce a b).gates.length).getD (mv2 a b i).toNat 0=(zan gs b.gates r2 b.gates.length).getD i 0:=fun i hi=>by
  refine emb (mw:=mv2 a b) (mg:=fun j=>a.gates.length+j) (fun k g h=>by rw [l2];exact (wb.legs k g h).2) (fun j hj=>?_) (fun j g h=>⟨?_,zfp h⟩) lwb (fun j hj=>zjA ha hb gf gg (by omega)) (fun j p hj=>zja gf gg) (i+1) i (Nat.lt_succ_self _) hi
  ·refine ⟨r1.length+j,by rw [zlL (by omega)];omega,by rw [List.length_append];omega,?_⟩
   rw [List.getD_eq_getElem?_getD,List.getElem?_append_right (by omega),Nat.add_sub_cancel_left,← List.getD_eq_getElem?_getD]
  ·rw [zl4 (by omega)]
   omega
 unfold zaQ
 show List.map _ (a.outs.map (mv1 a b)++b.outs.map (mv2 a b))=_
 rw [List.map_append,List.map_map,List.map_map]
 congr 1
 ·refine List.map_congr_left fun o ho=>?_
  obtain ⟨x,y⟩:=wa.outs o ho
  have:=A1 o.toNat (by omega)
  rw [Int.toNat_of_nonneg x] at this
  exact this
 ·refine List.map_congr_left fun o ho=>?_
  obtain ⟨x,y⟩:=wb.outs o ho
  have:=A2 o.toNat (by omega)
  rw [Int.toNat_of_nonneg x] at this
  exact this
end
theorem zlE:∀ {xs ys:List Int},xs.length=ys.length→zaT xs ys=true→zaT ys xs=true→xs=ys
 | [],[],_,_,_=>rfl
 | [],_::_,h,_,_=>by cases h
 | _::_,[],h,_,_=>by cases h
 | x::xs,y::ys,h,h1,h2=>by
  rw [zaT] at h1 h2
  by_cases e:x=y
  ·rw [if_pos e] at h1
   rw [if_pos e.symm] at h2
   rw [e,zlE (Nat.succ.inj h) h1 h2]
  ·rw [if_neg e] at h1
   rw [if_neg (Ne.symm e)] at h2
   have:=of_decide_eq_true h1
   have:=of_decide_eq_true h2
   omega
theorem zgz:∀ {xs ys zs:List Int},xs.length=ys.length→ys.length=zs.length→zaT xs ys=true→zaT ys zs=true→zaT xs zs=true
 | [],_,_,_,_,_,_=>by rw [zaT];intros;simp_all
 | _::_,[],_,h,_,_,_=>by cases h
 | _::_,_::_,[],_,h,_,_=>by cases h
 | x::xs,y::ys,z::zs,h,h',h1,h2=>by
  rw [zaT] at h1 h2 ⊢
  by_cases e:x=y
  ·subst e
   rw [if_pos rfl] at h1
   by_cases e2:x=z
   ·subst e2
    rw [if_pos rfl] at h2 ⊢
    exact zgz (Nat.succ.inj h) (Nat.succ.inj h') h1 h2
   ·rw [if_neg e2] at h2 ⊢
    exact h2
  ·rw [if_neg e] at h1
   have a1:=of_decide_eq_true h1
   by_cases e2:y=z
   ·subst e2
    rw [if_neg e]
    exact h1
   ·rw [if_neg e2] at h2
    have a2:=of_decide_eq_true h2
    rw [if_neg (by omega)]
    exact decide_eq_true (by omega)
theorem ziv:∀ {xs ys:List Int},xs.length=ys.length→zaT xs ys=false→zaT ys xs=true
 | [],[],_,h=>by rw [zaT] at h <;> simp_all
 | [],_::_,h,_=>by cases h
 | _::_,[],h,_=>by cases h
 | x::xs,y::ys,h,h1=>by
  rw [zaT] at h1 ⊢
  by_cases e:x=y
  ·rw [if_pos e] at h1
   rw [if_pos e.symm]
   exact ziv (Nat.succ.inj h) h1
  ·rw [if_neg e] at h1
   rw [if_neg (Ne.symm e)]
   have:=of_decide_eq_false h1
   exact decide_eq_true (by omega)
theorem zl0:∀ {xs ys us vs:List Int},xs.length=ys.length→zaT xs ys=true→zaT us vs=true→zaT (xs++us) (ys++vs)=true
 | [],[],_,_,_,_,h=>h
 | [],_::_,_,_,h,_,_=>by cases h
 | _::_,[],_,_,h,_,_=>by cases h
 | x::xs,y::ys,us,vs,h,h1,h2=>by
  rw [List.cons_append,List.cons_append]
  rw [zaT] at h1 ⊢
  by_cases e:x=y
  ·rw [if_pos e] at h1 ⊢
   exact zl0 (Nat.succ.inj h) h1 h2
  ·rw [if_neg e] at h1 ⊢
   exact h1
theorem zhE:∀ {n:Nat} {ys:List Int},ys.length=n→Bits ys→zaT (List.replicate n 0) ys=true
 | 0,[],_,_=>by rw [List.replicate_zero,zaT];intros;simp_all
 | n+1,y::ys,h,b=>by
  rw [List.replicate_succ,zaT]
  have ih:=zhE (Nat.succ.inj h) (fun z hz=>b z (.tail _ hz))
  by_cases e: 0=y
  ·rw [if_pos e]
   exact ih
  ·rw [if_neg e]
   rcases b y (.head _) with z | z <;> exact decide_eq_true (by omega)
 | 0,_::_,h,_=>by cases h
 | _+1,[],h,_=>by cases h
theorem zfb:∀ {n:Nat} {r:List Int},r.length=n→Bits r→r∈zaI n
 | 0,[],_,_=>.head _
 | n+1,x::r,h,b=>by
  have ih:=zfb (n:=n) (r:=r) (Nat.succ.inj h) (fun z hz=>b z (.tail _ hz))
  rw [zaI]
  rcases b x (.head _) with rfl | rfl
  ·exact List.mem_append.mpr (.inl (List.mem_map.mpr ⟨r,ih,rfl⟩))
  ·exact List.mem_append.mpr (.inr (List.mem_map.mpr ⟨r,ih,rfl⟩))
 | 0,_::_,h,_=>by cases h
 | _+1,[],h,_=>by cases h
theorem zl9 {rows:List (List Int)}{r r4:List Int}(e:rows.find? (fun x=>decide (x=r))=some r4):r4=r:=by
 have z:=List.find?_some e
 exact of_decide_eq_true z
theorem zd3 {n:Nat}{p:List Int→Bool}{r:List Int}(hr:r∈zaI n)(hp:p r=true)(least:∀ r'∈zaI n,p r'=true→zaT r r'=true):(zaI n).find? p=some r:=by
 cases e:(zaI n).find? p with
 | none=>exact absurd hp (List.find?_eq_none.mp e r hr)
 | some r2=>
  have m2:=List.mem_of_find?_eq_some e
  have p2:=List.find?_some e
  obtain ⟨r',e',le'⟩:=zfk (p:=fun x=>decide (x=r)) (p':=p) (zem n) (fun x _ h=>by rw [of_decide_eq_true h];exact hp) (r:=r) (by
   cases e3:(zaI n).find? fun x=>decide (x=r) with
   | none=>exact absurd (decide_eq_true rfl) (List.find?_eq_none.mp e3 r hr)
   | some r4=>rw [zl9 e3])
  rw [e] at e'
  cases e'
  rw [zlE ((zar _ _ m2).1.trans (zar _ _ hr).1.symm) le' (least _ m2 p2)]
theorem zc4 {w:zat}{fs gs:List Flt}{r:List Int}(e:zaG w fs gs=some r):r∈zaI w.ins.toNat∧zaQ w (zan fs w.gates r w.gates.length)≠zaQ w (zan gs w.gates r w.gates.length)∧∀ r'∈zaI w.ins.toNat,zaQ w (zan fs w.gates r' w.gates.length)≠zaQ w (zan gs w.gates r' w.gates.length)→zaT r r'=true:=by
 unfold zaG at e
 have z:=List.find?_some e
 refine ⟨List.mem_of_find?_eq_some e,of_decide_eq_true z,fun r' hr' h=>?_⟩
 obtain ⟨r2,e2,le2⟩:=zfk (p:=fun x=>decide (x=r')) (zem w.ins.toNat) (p':=fun r=>decide (zaQ w (zan fs w.gates r w.gates.length)≠zaQ w (zan gs w.gates r w.gates.length))) (fun x _ z=>by rw [of_decide_eq_true z];exact decide_eq_true h) (r:=r') (by
   cases e3:(zaI w.ins.toNat).find? fun x=>decide (x=r') with
   | none=>exact absurd (decide_eq_true rfl) (List.find?_eq_none.mp e3 r' hr')
   | some r4=>rw [zl9 e3])
 rw [e] at e2
 cases e2
 exact le2
noncomputable def dueV (n1 n2:Nat):Option (List Int)→Option (List Int)→Option (List Int)
 | none,none=>none
 | some f,none=>some (f++List.replicate n2 0)
 | none,some s=>some (List.replicate n1 0++s)
 | some f,some s=>some (if zaT (f++List.replicate n2 0) (List.replicate n1 0++s)=true then f++List.replicate n2 0 else List.replicate n1 0++s)
theorem zcv (n:Nat):(List.replicate n (0:Int)).length=n∧Bits (List.replicate n (0:Int)):=⟨List.length_replicate,fun z hz=>.inl (List.mem_replicate.mp hz).2⟩
theorem zm2 {xs ys:List Int}(h:Bits xs)(h':Bits ys):Bits (xs++ys):=fun z hz=>(List.mem_append.mp hz).elim (h z) (h' z)
theorem ziX {w:zat}{fs gs:List Flt}(e:zaG w fs gs=none){r:List Int}(hr:r∈zaI w.ins.toNat):zaQ w (zan fs w.gates r w.gates.length)=zaQ w (zan gs w.gates r w.gates.length):=by
 unfold zaG at e
 have z:=List.find?_eq_none.mp e r hr
 by_cases c:zaQ w (zan fs w.gates r w.gates.length)=zaQ w (zan gs w.gates r w.gates.length)
 ·exact c
 ·exact absurd (decide_eq_true c) z
theorem zd8 {m:Nat}{a b:zat}{fs gs fs' gs':List Flt}(wa:WF m a)(wb:WF m b)(gf:∀ f∈fs,zb2 a f)(gg:∀ f∈gs,zb2 b f)(gf':∀ f∈fs',zb2 a f)(gg':∀ f∈gs',zb2 b f):
  zaG (zce a b) (zcT a b fs gs) (zcT a b fs' gs')=dueV a.ins.toNat b.ins.toNat (zaG a fs fs') (zaG b gs gs'):=by
 have ha:=wa.i1
 have hb:=wb.i1
 obtain ⟨n1,e1⟩:∃ n,a.ins.toNat=n:=⟨_,rfl⟩
 obtain ⟨n2,e2⟩:∃ n,b.ins.toNat=n:=⟨_,rfl⟩
 have eb:(zce a b).ins.toNat=n1+n2:=by
  show (a.ins+b.ins).toNat=_
  omega
 have key:∀ r1 r2:List Int,r1.length=n1→r2.length=n2→(zaQ (zce a b) (zan (zcT a b fs gs) (zce a b).gates (r1++r2) (zce a b).gates.length)≠zaQ (zce a b) (zan (zcT a b fs' gs') (zce a b).gates (r1++r2) (zce a b).gates.length)↔
   zaQ a (zan fs a.gates r1 a.gates.length)≠zaQ a (zan fs' a.gates r1 a.gates.length)∨zaQ b (zan gs b.gates r2 b.gates.length)≠zaQ b (zan gs' b.gates r2 b.gates.length)):=fun r1 r2 l1 l2=>by
  rw [ziw wa wb gf gg (by omega) (by omega),ziw wa wb gf' gg' (by omega) (by omega)]
  have ll:(zaQ a (zan fs a.gates r1 a.gates.length)).length=(zaQ a (zan fs' a.gates r1 a.gates.length)).length:=by unfold zaQ;rw [List.length_map,List.length_map]
  constructor
  ·intro z
   by_cases c:zaQ a (zan fs a.gates r1 a.gates.length)=zaQ a (zan fs' a.gates r1 a.gates.length)
   ·exact .inr fun y=>z (by rw [c,y])
   ·exact .inl c
  ·rintro z y
   obtain ⟨y1,y2⟩:=List.append_inj y ll
   exact z.elim (fun z=>z y1) (fun z=>z y2)
 have spl:∀ r∈zaI (n1+n2),∃ r1 r2:List Int,r=r1++r2∧r1∈zaI n1∧r2∈zaI n2:=fun r hr=>by
  obtain ⟨l,bt⟩:=zar _ _ hr
  refine ⟨r.take n1,r.drop n1,(List.take_append_drop _ _).symm,zfb (by rw [List.length_take];omega) fun z hz=>bt z (List.mem_of_mem_take hz),zfb (by rw [List.length_drop];omega) fun z hz=>bt z (List.mem_of_mem_drop hz)⟩
 have jn:∀ r1 r2:List Int,r1∈zaI n1→r2∈zaI n2→r1++r2∈zaI (n1+n2):=fun r1 r2 h1 h2=>by
  obtain ⟨x,y⟩:=zar _ _ h1
  obtain ⟨x',y'⟩:=zar _ _ h2
  exact zfb (by rw [List.length_append];omega) (zm2 y y')
 have z1:List.replicate n1 (0:Int)∈zaI n1:=zfb (zcv n1).1 (zcv n1).2
 have z2:List.replicate n2 (0:Int)∈zaI n2:=zfb (zcv n2).1 (zcv n2).2
 have low1:∀ {f},zaG a fs fs'=some f→∀ r1 r2,r1∈zaI n1→r2∈zaI n2→zaQ a (zan fs a.gates r1 a.gates.length)≠zaQ a (zan fs' a.gates r1 a.gates.length)→zaT (f++List.replicate n2 0) (r1++r2)=true:=fun {f} e r1 r2 h1 h2 d=>by
  obtain ⟨m1,_,le⟩:=zc4 e
  rw [e1] at m1 le
  exact zl0 ((zar _ _ m1).1.trans (zar _ _ h1).1.symm) (le r1 h1 d) (zhE (zar _ _ h2).1 (zar _ _ h2).2)
 have low2:∀ {s},zaG b gs gs'=some s→∀ r1 r2,r1∈zaI n1→r2∈zaI n2→zaQ b (zan gs b.gates r2 b.gates.length)≠zaQ b (zan gs' b.gates r2 b.gates.length)→zaT (List.replicate n1 0++s) (r1++r2)=true:=fun {s} e r1 r2 h1 h2 d=>by
  obtain ⟨m1,_,le⟩:=zc4 e
  rw [e2] at m1 le
  exact zl0 ((zcv n1).1.trans (zar _ _ h1).1.symm) (zhE (zar _ _ h1).1 (zar _ _ h1).2) (le r2 h2 d)
 rw [e1,e2]
 unfold zaG
 rw [eb]
 have sp:∀ {f},zaG a fs fs'=some f→f∈zaI n1∧zaQ a (zan fs a.gates f a.gates.length)≠zaQ a (zan fs' a.gates f a.gates.length):=fun {f} e=>by
  obtain ⟨m1,d,_⟩:=zc4 e
  rw [e1] at m1
  exact ⟨m1,d⟩
 have sq:∀ {f},zaG b gs gs'=some f→f∈zaI n2∧zaQ b (zan gs b.gates f b.gates.length)≠zaQ b (zan gs' b.gates f b.gates.length):=fun {f} e=>by
  obtain ⟨m1,d,_⟩:=zc4 e
  rw [e2] at m1
  exact ⟨m1,d⟩
 have no1:zaG a fs fs'=none→∀ r1∈zaI n1,zaQ a (zan fs a.gates r1 a.gates.length)=zaQ a (zan fs' a.gates r1 a.gates.length):=fun e r1 h=>ziX e (by rw [e1];exact h)
 have no2:zaG b gs gs'=none→∀ r1∈zaI n2,zaQ b (zan gs b.gates r1 b.gates.length)=zaQ b (zan gs' b.gates r1 b.gates.length):=fun e r1 h=>ziX e (by rw [e2];exact h)
 change _=dueV n1 n2 (zaG a fs fs') (zaG b gs gs')
 generalize zaG a fs fs'=o1 at *
 generalize zaG b gs gs'=o2 at *
 cases o1 with
 | none=>
  cases o2 with
  | none=>
   refine List.find?_eq_none.mpr fun r hr z=>?_
   obtain ⟨r1,r2,rfl,h1,h2⟩:=spl r hr
   rcases (key r1 r2 (zar _ _ h1).1 (zar _ _ h2).1).mp (of_decide_eq_true z) with d | d
   ·exact d (no1 rfl r1 h1)
   ·exact d (no2 rfl r2 h2)
  | some s=>
   obtain ⟨m2,d2⟩:=sq rfl
   refine zd3 (jn _ _ z1 m2) (decide_eq_true ((key _ _ (zcv n1).1 (zar _ _ m2).1).mpr (.inr d2))) fun r hr z=>?_
   obtain ⟨r1,r2,rfl,h1,h2⟩:=spl r hr
   rcases (key r1 r2 (zar _ _ h1).1 (zar _ _ h2).1).mp (of_decide_eq_true z) with d | d
   ·exact absurd (no1 rfl r1 h1) d
   ·exact low2 rfl r1 r2 h1 h2 d
 | some f=>
  obtain ⟨m1,d1⟩:=sp rfl
  cases o2 with
  | none=>
   refine zd3 (jn _ _ m1 z2) (decide_eq_true ((key _ _ (zar _ _ m1).1 (zcv n2).1).mpr (.inl d1))) fun r hr z=>?_
   obtain ⟨r1,r2,rfl,h1,h2⟩:=spl r hr
   rcases (key r1 r2 (zar _ _ h1).1 (zar _ _ h2).1).mp (of_decide_eq_true z) with d | d
   ·exact low1 rfl r1 r2 h1 h2 d
   ·exact absurd (no2 rfl r2 h2) d
  | some s=>
   obtain ⟨m2,d2⟩:=sq rfl
   have l1:=(zar _ _ (jn _ _ m1 z2)).1
   have l2:=(zar _ _ (jn _ _ z1 m2)).1
   show _=some (if zaT (f++List.replicate n2 0) (List.replicate n1 0++s)=true then f++List.replicate n2 0 else List.replicate n1 0++s)
   by_cases c:zaT (f++List.replicate n2 0) (List.replicate n1 0++s)=true
   ·rw [if_pos c]
    refine zd3 (jn _ _ m1 z2) (decide_eq_true ((key _ _ (zar _ _ m1).1 (zcv n2).1).mpr (.inl d1))) fun r hr z=>?_
    have lr:=(zar _ _ hr).1
    obtain ⟨r1,r2,rfl,h1,h2⟩:=spl r hr
    rcases (key r1 r2 (zar _ _ h1).1 (zar _ _ h2).1).mp (of_decide_eq_true z) with d | d
    ·exact low1 rfl r1 r2 h1 h2 d
    ·exact zgz (l1.trans l2.symm) (l2.trans lr.symm) c (low2 rfl r1 r2 h1 h2 d)
   ·rw [if_neg c]
    refine zd3 (jn _ _ z1 m2) (decide_eq_true ((key _ _ (zcv n1).1 (zar _ _ m2).1).mpr (.inr d2))) fun r hr z=>?_
    have lr:=(zar _ _ hr).1
    obtain ⟨r1,r2,rfl,h1,h2⟩:=spl r hr
    rcases (key r1 r2 (zar _ _ h1).1 (zar _ _ h2).1).mp (of_decide_eq_true z) with d | d
    ·exact zgz (l2.trans l1.symm) (l1.trans lr.symm) (ziv (l1.trans l2.symm) (Bool.eq_false_iff.mpr c)) (low1 rfl r1 r2 h1 h2 d)
    ·exact low2 rfl r1 r2 h1 h2 d
theorem zge {a b:zat}{fs gs:List Flt}(ha: 1≤a.ins)(hb: 1≤b.ins)(gf:∀ f∈fs,zb2 a f)(gg:∀ f∈gs,zb2 b f):∀ f∈zcT a b fs gs,zb2 (zce a b) f:=fun f hf=>by
 have eg:=zfr a b
 have ei:(zce a b).ins=a.ins+b.ins:=rfl
 rcases List.mem_append.mp hf with h | h
 ·obtain ⟨f0,hf0,rfl⟩:=List.mem_map.mp h
  refine ⟨?_,(gf f0 hf0).2⟩
  show mvP1 a b f0.place∈_
  rcases zaP (gf f0 hf0) with ⟨i,hi,e⟩ | ⟨k,i,hk,hi,e⟩
  ·rw [e,ziU]
   have r:=zlZ (k:=a.gates.length) ha hb (i:=(i:Int)) (by omega) (by omega)
   obtain ⟨j,ej⟩:∃ j:Nat,mv1 a b i=j:=⟨(mv1 a b i).toNat,by omega⟩
   rw [ej] at r ⊢
   exact List.mem_append.mpr (.inl (zgB (by omega)))
  ·rw [e,zi1]
   have eg1:a.gates[k]? =some a.gates[k]:=List.getElem?_eq_getElem hk
   rw [eg1] at hi
   refine List.mem_append.mpr (.inr (zga (by omega) ?_))
   rw [ze5 eg1]
   simpa using hi
 ·obtain ⟨f0,hf0,rfl⟩:=List.mem_map.mp h
  refine ⟨?_,(gg f0 hf0).2⟩
  show mvP2 a b f0.place∈_
  rcases zaP (gg f0 hf0) with ⟨i,hi,e⟩ | ⟨k,i,hk,hi,e⟩
  ·rw [e,zif]
   have r:=zmi (k:=b.gates.length) ha hb (i:=(i:Int)) (by omega) (by omega)
   obtain ⟨j,ej⟩:∃ j:Nat,mv2 a b i=j:=⟨(mv2 a b i).toNat,by omega⟩
   rw [ej] at r ⊢
   exact List.mem_append.mpr (.inl (zgB (by omega)))
  ·rw [e,zir]
   have eg1:b.gates[k]? =some b.gates[k]:=List.getElem?_eq_getElem hk
   rw [eg1] at hi
   rw [show (k:Int)+a.gates.length=((a.gates.length+k:Nat):Int) by omega]
   refine List.mem_append.mpr (.inr (zga (by omega) ?_))
   rw [zfp eg1]
   simpa using hi
theorem ze2 {α β :Type}{f: α→β}:∀ {xs:List α},xs.Nodup→(∀ x∈xs,∀ y∈xs,f x=f y→x=y)→(xs.map f).Nodup
 | [],_,_=>List.nodup_nil
 | x::xs,h,i=>by
  obtain ⟨h1,h2⟩:=List.nodup_cons.mp h
  rw [List.map_cons]
  refine List.nodup_cons.mpr ⟨fun z=>?_,ze2 h2 fun u hu v hv=>i u (.tail _ hu) v (.tail _ hv)⟩
  obtain ⟨y,hy,e⟩:=List.mem_map.mp z
  rw [i x (.head _) y (.tail _ hy) e.symm] at h1
  exact h1 hy
theorem ze3 {a b:zat}{fs gs:List Flt}(ha: 1≤a.ins)(hb: 1≤b.ins)(gf:∀ f∈fs,zb2 a f)(gg:∀ f∈gs,zb2 b f)(af:zcu fs)(ag:zcu gs):zcu (zcT a b fs gs):=by
 unfold zcu zcT at *
 rw [List.map_append,List.map_map,List.map_map]
 have r1:fs.map ((fun f:Flt=>f.place) ∘ mvF1 a b)=(fs.map (·.place)).map (mvP1 a b):=by rw [List.map_map];rfl
 have r2:gs.map ((fun f:Flt=>f.place) ∘ mvF2 a b)=(gs.map (·.place)).map (mvP2 a b):=by rw [List.map_map];rfl
 rw [r1,r2]
 refine List.nodup_append.mpr ⟨ze2 af fun p hp q hq e=>?_,ze2 ag fun p hp q hq e=>?_,fun p hp q hq e=>?_⟩
 ·obtain ⟨f,hf,rfl⟩:=List.mem_map.mp hp
  obtain ⟨g,hg,rfl⟩:=List.mem_map.mp hq
  rcases zaP (gf f hf) with ⟨i,hi,e1⟩ | ⟨k,i,hk,hi,e1⟩ <;> rcases zaP (gf g hg) with ⟨j,hj,e2⟩ | ⟨l,j,hl,hj,e2⟩ <;> rw [e1,e2] at e ⊢
  ·rw [zma hb (zcx e)]
  ·exact (zbk e).elim
  ·exact (zbk e.symm).elim
  ·exact e
 ·obtain ⟨f,hf,rfl⟩:=List.mem_map.mp hp
  obtain ⟨g,hg,rfl⟩:=List.mem_map.mp hq
  rcases zaP (gg f hf) with ⟨i,hi,e1⟩ | ⟨k,i,hk,hi,e1⟩ <;> rcases zaP (gg g hg) with ⟨j,hj,e2⟩ | ⟨l,j,hl,hj,e2⟩ <;> rw [e1,e2] at e ⊢
  ·rw [zlx (zcx e)]
  ·exact (zbk e).elim
  ·exact (zbk e.symm).elim
  ·obtain ⟨x,y⟩:=zea e
   rw [show (k:Int)=l by omega,y]
 ·obtain ⟨p0,hp0,rfl⟩:=List.mem_map.mp hp
  obtain ⟨q0,hq0,rfl⟩:=List.mem_map.mp hq
  obtain ⟨f,hf,rfl⟩:=List.mem_map.mp hp0
  obtain ⟨g,hg,rfl⟩:=List.mem_map.mp hq0
  rcases zaP (gf f hf) with ⟨i,hi,e1⟩ | ⟨k,i,hk,hi,e1⟩ <;> rcases zaP (gg g hg) with ⟨j,hj,e2⟩ | ⟨l,j,hl,hj,e2⟩ <;> rw [e1,e2] at e
  ·exact mv12 ha hb (by omega) (by omega) (by omega) (zcx e)
  ·exact (zbk e).elim
  ·exact (zbk e.symm).elim
  ·have:=(zea e).1
   omega
theorem lt_le:∀ {xs ys:List Int},xs.length=ys.length→zc0 ys xs= !zaT xs ys
 | [],[],_=>rfl
 | [],_::_,h=>by cases h
 | _::_,[],h=>by cases h
 | x::xs,y::ys,h=>by
  rw [zaT,zc0]
  by_cases e:x=y
  ·rw [if_pos e,if_pos e.symm]
   exact lt_le (Nat.succ.inj h)
  ·rw [if_neg e,if_neg (Ne.symm e)]
   by_cases c:x≤y
   ·rw [decide_eq_true c,decide_eq_false (by omega)]
    rfl
   ·rw [decide_eq_false c,decide_eq_true (by omega)]
    rfl
end My
set_option exponentiation.threshold 3000
namespace My
open PySem L2
open PySem.W (Dat kqdP kqdPs kqdOk)
theorem zg2 {us:List Value}(h:us.length=1):∃ x0,us= [x0]:=match us,h with | [x0],_=>⟨x0,rfl⟩
theorem zfO {us:List Value}(h:us.length=2):∃ x0 x1,us= [x0,x1]:=match us,h with | [x0,x1],_=>⟨x0,x1,rfl⟩
theorem ze8 {us:List Value}(h:us.length=3):∃ x0 x1 x2,us= [x0,x1,x2]:=match us,h with | [x0,x1,x2],_=>⟨x0,x1,x2,rfl⟩
theorem zom {us:List Value}(h:us.length=4):∃ x0 x1 x2 x3,us= [x0,x1,x2,x3]:=match us,h with | [x0,x1,x2,x3],_=>⟨x0,x1,x2,x3,rfl⟩
set_option genInjectivity false
structure Def (K:PySem.W.Frag) (mg:Str→Option Value) (x:Str) (st:Stmt) (ps:List Str) (f:Addr) (fd:FuncData):Prop where
 F:Fun K x x st f fd
 b:zgY K fd ps []
 m:mg x=some (.ref f)
structure DefD (K:PySem.W.Frag) (mg:Str→Option Value) (x:Str) (st:Stmt) (ps:List Str) (f:Addr) (fd:FuncData) (T:Addr) (tk:Tok):Prop where
 F:FunD K x x st f fd T
 b:zgY K fd ps []
 b1:zgY K fd ps [.int 1 tk]
 m:mg x=some (.ref f)
structure Adr where
 f_every_row:Addr
 fd_every_row:FuncData
 f_gate_worth:Addr
 fd_gate_worth:FuncData
 dt_gate_worth:Addr
 tk_gate_worth:Tok
 f_every_fault:Addr
 fd_every_fault:FuncData
 f_stuck_places:Addr
 fd_stuck_places:FuncData
 f_worths_with:Addr
 fd_worths_with:FuncData
 dt_worths_with:Addr
 tk_worths_with:Tok
 f_leg_worths:Addr
 fd_leg_worths:FuncData
 f_outputs_with:Addr
 fd_outputs_with:FuncData
 dt_outputs_with:Addr
 tk_outputs_with:Tok
 f_every_pairs:Addr
 fd_every_pairs:FuncData
 f_input_pairs:Addr
 fd_input_pairs:FuncData
 f_leg_pairs:Addr
 fd_leg_pairs:FuncData
 f_with_stuck:Addr
 fd_with_stuck:FuncData
 f_gate_pairs:Addr
 fd_gate_pairs:FuncData
 f_every_choice:Addr
 fd_every_choice:FuncData
 f_chosen_pair:Addr
 fd_chosen_pair:FuncData
 f_outputs_alike:Addr
 fd_outputs_alike:FuncData
 f_are_alike:Addr
 fd_are_alike:FuncData
 f_outputs_seen:Addr
 fd_outputs_seen:FuncData
 f_rows_at_once:Addr
 fd_rows_at_once:FuncData
 f_first_unlike:Addr
 fd_first_unlike:FuncData
 f_unlike_numbers:Addr
 fd_unlike_numbers:FuncData
 f_first_test:Addr
 fd_first_test:FuncData
 f_test_told:Addr
 fd_test_told:FuncData
 f_paper_behind:Addr
 fd_paper_behind:FuncData
 f_parted_at:Addr
 fd_parted_at:FuncData
 f_law_cell_at:Addr
 fd_law_cell_at:FuncData
 f_law_numbers:Addr
 fd_law_numbers:FuncData
 f_law_gate:Addr
 fd_law_gate:FuncData
 f_law_works:Addr
 fd_law_works:FuncData
 f_law_worth:Addr
 fd_law_worth:FuncData
 f_law_things:Addr
 fd_law_things:FuncData
 f_law_wires:Addr
 fd_law_wires:FuncData
 f_law_outputs:Addr
 fd_law_outputs:FuncData
 f_law_rows:Addr
 fd_law_rows:FuncData
 f_law_every_fault:Addr
 fd_law_every_fault:FuncData
 f_law_some_faults:Addr
 fd_law_some_faults:FuncData
 f_law_first:Addr
 fd_law_first:FuncData
 f_law_moved_wire:Addr
 fd_law_moved_wire:FuncData
 f_law_together:Addr
 fd_law_together:FuncData
 f_law_moved:Addr
 fd_law_moved:FuncData
 f_law_due:Addr
 fd_law_due:FuncData
 f_law:Addr
 fd_law:FuncData
 c_FOLDED_KINDS:Addr
structure Txt (K:PySem.W.Frag) (mg:Str→Option Value) (t:Adr):Prop where
 d_every_row:Def K mg "every_row" zco ["works"] t.f_every_row t.fd_every_row
 d_gate_worth:DefD K mg "gate_worth" zb5 ["kind","worths","ones"] t.f_gate_worth t.fd_gate_worth t.dt_gate_worth t.tk_gate_worth
 d_every_fault:Def K mg "every_fault" zbU ["works"] t.f_every_fault t.fd_every_fault
 d_stuck_places:Def K mg "stuck_places" zbz ["works","faults"] t.f_stuck_places t.fd_stuck_places
 d_worths_with:DefD K mg "worths_with" zbP ["works","stuck","row","ones"] t.f_worths_with t.fd_worths_with t.dt_worths_with t.tk_worths_with
 d_leg_worths:Def K mg "leg_worths" zcc ["stuck","gate","worths"] t.f_leg_worths t.fd_leg_worths
 d_outputs_with:DefD K mg "outputs_with" zbB ["works","stuck","row","ones"] t.f_outputs_with t.fd_outputs_with t.dt_outputs_with t.tk_outputs_with
 d_every_pairs:Def K mg "every_pairs" zbO ["works","stuck","known"] t.f_every_pairs t.fd_every_pairs
 d_input_pairs:Def K mg "input_pairs" zbK ["worth"] t.f_input_pairs t.fd_input_pairs
 d_leg_pairs:Def K mg "leg_pairs" zcl ["stuck","gate","wires"] t.f_leg_pairs t.fd_leg_pairs
 d_with_stuck:Def K mg "with_stuck" zca ["pairs","stuck","place"] t.f_with_stuck t.fd_with_stuck
 d_gate_pairs:Def K mg "gate_pairs" zb8 ["kind","legs"] t.f_gate_pairs t.fd_gate_pairs
 d_every_choice:Def K mg "every_choice" zby ["legs"] t.f_every_choice t.fd_every_choice
 d_chosen_pair:Def K mg "chosen_pair" zbS ["kind","choice"] t.f_chosen_pair t.fd_chosen_pair
 d_outputs_alike:Def K mg "outputs_alike" zbi ["works","stuck","known"] t.f_outputs_alike t.fd_outputs_alike
 d_are_alike:Def K mg "are_alike" zcg ["pairs"] t.f_are_alike t.fd_are_alike
 d_outputs_seen:Def K mg "outputs_seen" zbA ["works","stuck"] t.f_outputs_seen t.fd_outputs_seen
 d_rows_at_once:Def K mg "rows_at_once" zbv ["inputs"] t.f_rows_at_once t.fd_rows_at_once
 d_first_unlike:Def K mg "first_unlike" zbC ["works","stuck","others"] t.f_first_unlike t.fd_first_unlike
 d_unlike_numbers:Def K mg "unlike_numbers" za7 ["seen","others"] t.f_unlike_numbers t.fd_unlike_numbers
 d_first_test:Def K mg "first_test" zb7 ["works","faults"] t.f_first_test t.fd_first_test
 d_test_told:Def K mg "test_told" zcn ["works","faults"] t.f_test_told t.fd_test_told
 d_paper_behind:Def K mg "paper_behind" zbu ["works","stuck","known"] t.f_paper_behind t.fd_paper_behind
 d_parted_at:Def K mg "parted_at" zcm ["works","faults","others"] t.f_parted_at t.fd_parted_at
 d_law_cell_at:Def K mg "_law_cell_at" zbQ ["script","k"] t.f_law_cell_at t.fd_law_cell_at
 d_law_numbers:Def K mg "_law_numbers" zbT ["cell","many","base"] t.f_law_numbers t.fd_law_numbers
 d_law_gate:Def K mg "_law_gate" zcF ["row","wires","two"] t.f_law_gate t.fd_law_gate
 d_law_works:Def K mg "_law_works" zcj ["script","most_inputs","most_gates","most_of_two"] t.f_law_works t.fd_law_works
 d_law_worth:Def K mg "_law_worth" zcp ["kind","legs"] t.f_law_worth t.fd_law_worth
 d_law_things:Def K mg "_law_things" zb6 ["faults"] t.f_law_things t.fd_law_things
 d_law_wires:Def K mg "_law_wires" zck ["works","stuck","row"] t.f_law_wires t.fd_law_wires
 d_law_outputs:Def K mg "_law_outputs" zbR ["works","faults","row"] t.f_law_outputs t.fd_law_outputs
 d_law_rows:Def K mg "_law_rows" zcH ["inputs"] t.f_law_rows t.fd_law_rows
 d_law_every_fault:Def K mg "_law_every_fault" zaY ["works"] t.f_law_every_fault t.fd_law_every_fault
 d_law_some_faults:Def K mg "_law_some_faults" za0 ["works","row"] t.f_law_some_faults t.fd_law_some_faults
 d_law_first:Def K mg "_law_first" zci ["works","faults"] t.f_law_first t.fd_law_first
 d_law_moved_wire:Def K mg "_law_moved_wire" za6 ["wire","one","other"] t.f_law_moved_wire t.fd_law_moved_wire
 d_law_together:Def K mg "_law_together" zbx ["one","other"] t.f_law_together t.fd_law_together
 d_law_moved:Def K mg "_law_moved" zch ["one","other","faults","second"] t.f_law_moved t.fd_law_moved
 d_law_due:Def K mg "_law_due" zcZ ["one","other","faults","others"] t.f_law_due t.fd_law_due
 d_law:Def K mg "law" zg0 ["script"] t.f_law t.fd_law
 z_all:mg "all" =none
 z_dict:mg "dict" =none
 z_enumerate:mg "enumerate" =none
 z_int:mg "int" =none
 z_len:mg "len" =none
 z_max:mg "max" =none
 z_min:mg "min" =none
 z_range:mg "range" =none
 z_set:mg "set" =none
 z_sorted:mg "sorted" =none
 z_sum:mg "sum" =none
 z_tuple:mg "tuple" =none
 z_zip:mg "zip" =none
 g_FOLDED_KINDS:mg "FOLDED_KINDS" =some (.ref t.c_FOLDED_KINDS)
 k_FOLDED_KINDS:TupK K t.c_FOLDED_KINDS ["and","or","odd"]
noncomputable def zmf (x:Str):Prop:=x="and"∨x="or"∨x="odd"∨x="not"∨x="choose"∨x="zero"∨x="one"
noncomputable def zkb (K:PySem.W.Frag):Sp:=fun vs H Q _=>∃ (a:Addr) (ns:List Int),vs= [.ref a]∧SqL K H a (ns.map V.int)∧ns.length≤63∧∀ H',Q (.bl true) H'
theorem znY {A:Prop}{C:V→Prop}{st:V→St}{H:Hp}{P:St→Hp→Prop}(h:(∀ v,C v→P (st v) H)→A)(r:∀ v,C v→P (st v) H):A:=h r
theorem joinX {α :Type}{A:Prop}{C: α→Hp→Prop}{st: α→St}{P:St→Hp→Prop}(h:(∀ v H4,C v H4→P (st v) H4)→A)(r:∀ v H4,C v H4→P (st v) H4):A:=h r
theorem zou (ns:List Int){m:Nat}:∃ ms:List Int,cutV (ns.map V.int) (some 2) (some (2+(m:Int)))=ms.map V.int∧ms.length≤m:=by
 have e1:HT.sIx (ns.map V.int).length 0 (some 2)=min 2 ns.length:=by
  simp only [HT.sIx,List.length_map]
  rw [if_neg (by decide)]
  omega
 have e2:HT.sIx (ns.map V.int).length (ns.map V.int).length (some (2+(m:Int)))=min (2+m) ns.length:=by
  simp only [HT.sIx,List.length_map]
  rw [if_neg (by omega)]
  omega
 refine ⟨(ns.drop (min 2 ns.length)).take (min (2+m) ns.length - min 2 ns.length),?_,?_⟩
 ·unfold cutV
  rw [e1,e2,List.map_take,List.map_drop]
 ·rw [List.length_take]
  omega
theorem zjl (ns:List Int){lo hi:Int}(h0: 0≤lo)(h1:lo≤hi)(h2:hi≤ns.length):cutV (ns.map V.int) (some lo) (some hi)=((ns.drop lo.toNat).take (hi - lo).toNat).map V.int:=by
 have e1:HT.sIx (ns.map V.int).length 0 (some lo)=lo.toNat:=by
  simp only [HT.sIx,List.length_map]
  rw [if_neg (by omega),Nat.min_eq_left (by omega)]
 have e2:HT.sIx (ns.map V.int).length (ns.map V.int).length (some hi)=hi.toNat:=by
  simp only [HT.sIx,List.length_map]
  rw [if_neg (by omega),Nat.min_eq_left (by omega)]
 unfold cutV
 rw [e1,e2,List.map_take,List.map_drop]
 congr 1
 omega
noncomputable def hole (pd:Addr) (H:Hp):Hp:=fun z=>if z=pd then none else H z
theorem zeo {pd z:Addr}{H:Hp}(h:z≠pd):hole pd H z=H z:=if_neg h
theorem znc {pd:Addr}{H:Hp}{o:HO}(e:H pd=some o):Off [pd] (hole pd H) H:=⟨fun b v q=>by
  by_cases z:b=pd
  ·unfold hole at q
   rw [if_pos z] at q
   cases q
  ·rw [zeo z] at q
   exact q,
 fun m hm=>by rw [List.mem_singleton.mp hm];exact if_pos rfl,fun m hm=>by rw [List.mem_singleton.mp hm];exact ⟨o,e⟩⟩
noncomputable def sp_gw (K:PySem.W.Frag):Sp:=fun vs H Q _=>∃ (x:Str) (p:Addr) (ns:List Int),vs= [.str x,.ref p,.int 1]∧SqL K H p (ns.map V.int)∧Bits ns∧zbJ x ns.length∧∀ H',Same H H'→Q (.int (zb0 x ns)) H'
noncomputable def sp_gwI (K:PySem.W.Frag):Sp:=fun vs H Q _=>∃ (x:Str) (p:Addr) (ns:List Int) (o:Int),vs= [.str x,.ref p,.int o]∧SqL K H p (ns.map V.int)∧zbJ x ns.length∧∀ H',Same H H'→Q (.int (zex o x ns)) H'
noncomputable def sp_er (K:PySem.W.Frag):Sp:=fun vs H Q _=>∃ (a ga oa:Addr) (i:Int),vs= [.ref a]∧SqT K H a [.int i,.ref ga,.ref oa]∧0≤i∧i≤6∧∀ (R:Addr) (qs:List Addr) (H':Hp),Rows H R qs (zaI i.toNat) H'→Q (.ref R) H'
noncomputable def zlW (K:PySem.W.Frag):Sp:=fun vs H Q _=>∃ (x:V) (w:zat),vs= [x]∧Rep K H x (zbl w)∧WF 20 w∧∀ (r:Addr) (xs:List V) (H':Hp),Bld K H r xs (zcI w) H'→Q (.ref r) H'
noncomputable def sp_lgw (K:PySem.W.Frag):Sp:=fun vs H Q _=>∃ (d p:Addr) (k:Int) (fs:List Flt) (ns:List Int),vs= [.ref d,.int k,.ref p]∧H d=some (.dT (tabV fs))∧SqL K H p (ns.map V.int)∧ns.length≤4∧
 ∀ (r:Addr) (H':Hp),Same H H'→H r=none→H' r=some (.lst ((zcS fs k ns).map V.int))→Q (.ref r) H'
noncomputable def sp_wwG (K:PySem.W.Frag):Sp:=fun vs H Q _=>∃ (x:V) (d p:Addr) (w:zat) (fs:List Flt) (row:List Int) (o:Int),vs= [x,.ref d,.ref p,.int o]∧Rep K H x (zbl w)∧WF 20 w∧H d=some (.dT (tabV fs))∧SqL K H p (row.map V.int)∧(row.length:Int)=w.ins∧
 ∀ (r:Addr) (H':Hp),Same H H'→H r=none→H' r=some (.lst ((zcN o fs w.gates row w.gates.length).map V.int))→Q (.ref r) H'
noncomputable def sp_owG (K:PySem.W.Frag):Sp:=fun vs H Q _=>∃ (x:V) (d p:Addr) (w:zat) (fs:List Flt) (row:List Int) (o:Int),vs= [x,.ref d,.ref p,.int o]∧Rep K H x (zbl w)∧WF 20 w∧H d=some (.dT (tabV fs))∧SqL K H p (row.map V.int)∧(row.length:Int)=w.ins∧
 ∀ (r:Addr) (H':Hp),Same H H'→H r=none→H' r=some (.lst ((zaQ w (zcN o fs w.gates row w.gates.length)).map V.int))→Q (.ref r) H'
noncomputable def sp_spl (K:PySem.W.Frag):Sp:=fun vs H Q _=>∃ (x y:V) (w:zat) (fs:List Flt),vs= [x,y]∧Rep K H x (zbl w)∧WF 20 w∧Rep K H y (.list (fs.map fltD))∧(∀ f∈fs,zb2 w f)∧zcu fs∧fs.length≤1000∧
 ∀ (d:Addr) (H':Hp),Same H H'→H d=none→H' d=some (.dT (tabV fs))→Q (.ref d) H'
noncomputable def sp_gw2 (K:PySem.W.Frag):Sp:=fun vs H Q _=>∃ (x:Str) (p:Addr) (ns:List Int),vs= [.str x,.ref p]∧SqL K H p (ns.map V.int)∧Bits ns∧zbJ x ns.length∧Q (.int (zb0 x ns)) H
noncomputable def sp_ca (K:PySem.W.Frag):Sp:=fun vs H Q _=>∃ (a:Addr) (ns:List Int) (k:Nat),vs= [.ref a,.int k]∧SqL K H a (ns.map V.int)∧∀ r:Int,Q (.int r) H
noncomputable def sp_nu:Sp:=fun vs H Q _=>∃ (c:Int) (many:Nat) (b:Int),vs= [.int c,.int many,.int b]∧many≤100∧0 < b∧b < 1073741824∧
 ∀ (r:Addr) (row:List Int) (H':Hp),Same H H'→H r=none→H' r=some (.lst (row.map V.int))→row.length=many→(∀ z∈row,0≤z∧z < b)→Q (.ref r) H'
noncomputable def sp_ga (K:PySem.W.Frag):Sp:=fun vs H Q _=>∃ (p:Addr) (row:List Int) (wires:Int) (two:Bool),vs= [.ref p,.int wires,.bl two]∧SqL K H p (row.map V.int)∧row.length=6∧(∀ z∈row,0≤z)∧1≤wires∧wires < 1073741824∧
 ∀ (r la:Addr) (x:Str) (ls:List Int) (H':Hp),Same H H'→H r=none→H la=none→H' r=some (.tup [.str x,.ref la])→H' la=some (.tup (ls.map V.int))→zbJ x ls.length→(∀ l∈ls,0≤l∧l < wires)→Q (.ref r) H'
noncomputable def sp_wk (K:PySem.W.Frag):Sp:=fun vs H Q _=>∃ (a:Addr) (ns:List Int) (mi mg mt:Nat),vs= [.ref a,.int mi,.int mg,.int mt]∧SqL K H a (ns.map V.int)∧ns.length≤63∧1≤mi∧mi≤6∧mg≤20∧mt≤20∧
 ∀ (r:Addr) (w:zat) (H':Hp),Same H H'→Rep K H' (.ref r) (zbl w)→WF 20 w→w.ins≤mi→(w.gates.length≤mg∨w.gates.length≤mt)→w.outs.length≤8→Q (.ref r) H'
noncomputable def sp_lws (K:PySem.W.Frag):Sp:=fun vs H Q _=>∃ (x:V) (d p:Addr) (w:zat) (fs:List Flt) (row:List Int),vs= [x,.ref d,.ref p]∧Rep K H x (zbl w)∧WF 20 w∧H d=some (.dT (tabV fs))∧(∀ f∈fs,f.worth=0∨f.worth=1)∧SqL K H p (row.map V.int)∧(row.length:Int)=w.ins∧Bits row∧
 ∀ (r:Addr) (H':Hp),Same H H'→H r=none→H' r=some (.lst ((zan fs w.gates row w.gates.length).map V.int))→Q (.ref r) H'
noncomputable def sp_ls (K:PySem.W.Frag):Sp:=fun vs H Q _=>∃ (x:V) (fs:List Flt),vs= [x]∧Rep K H x (.list (fs.map fltD))∧zcu fs∧fs.length≤1000∧∀ (d:Addr) (H':Hp),Same H H'→H d=none→H' d=some (.dT (tabV fs))→Q (.ref d) H'
noncomputable def sp_lo (K:PySem.W.Frag):Sp:=fun vs H Q _=>∃ (x y:V) (p:Addr) (w:zat) (fs:List Flt) (row:List Int),vs= [x,y,.ref p]∧Rep K H x (zbl w)∧WF 20 w∧Rep K H y (.list (fs.map fltD))∧(∀ f∈fs,f.worth=0∨f.worth=1)∧zcu fs∧fs.length≤1000∧SqL K H p (row.map V.int)∧(row.length:Int)=w.ins∧Bits row∧
 ∀ (r:Addr) (H':Hp),Same H H'→H r=none→H' r=some (.lst ((zaQ w (zan fs w.gates row w.gates.length)).map V.int))→Q (.ref r) H'
noncomputable def sp_lr:Sp:=fun vs H Q _=>∃ (i:Int),vs= [.int i]∧0≤i∧i≤6∧∀ (R:Addr) (qs:List Addr) (H':Hp),Same H H'→H' R=some (.lst (qs.map V.ref))→At H' qs (zaI i.toNat)→Q (.ref R) H'
noncomputable def sp_lef (K:PySem.W.Frag):Sp:=fun vs H Q _=>∃ (x:V) (w:zat),vs= [x]∧Rep K H x (zbl w)∧WF 20 w∧∀ (r:Addr) (xs:List V) (H':Hp),Same H H'→H r=none→H' r=some (.lst xs)→Reps K H' xs (zcI w)→Q (.ref r) H'
noncomputable def sp_sf (K:PySem.W.Frag):Sp:=fun vs H Q _=>∃ (x:V) (p:Addr) (w:zat) (row:List Int),vs= [x,.ref p]∧Rep K H x (zbl w)∧WF 20 w∧SqL K H p (row.map V.int)∧row.length=9∧(∀ z∈row,0≤z)∧
 ∀ (r:Addr) (fs:List Flt) (H':Hp),Same H H'→H r=none→zj7 K w 8 H' (.ref r) fs→Q (.ref r) H'
noncomputable def sp_rao:Sp:=fun vs H Q _=>∃ n:Nat,vs= [.int n]∧n≤6∧∀ (r L:Addr) (H':Hp),Same H H'→H r=none→H L=none→H' r=some (.tup [.ref L,.int (za5 (2 ^ n))])→H' L=some (.lst ((zdB n).map V.int))→Q (.ref r) H'
theorem zj5 {R:Nat}{x:Int}(h:zbf R x)(hR:R≤64):Builtin.Int.intBits x≤2 ^ 20:=by
 obtain ⟨n,rfl,hn⟩:=zbX h
 have h1:n < 2 ^ 64:=Nat.lt_of_lt_of_le hn (Nat.pow_le_pow_right (by decide) hR)
 exact zgk (k:=64) (by decide) (by omega) (by omega)
theorem pow6 {n:Nat}(h:n≤6): 2 ^ n≤64:=Nat.pow_le_pow_right (n:=2) (by decide) h
noncomputable def zh0 (u:Int):List Nat:=(List.range (Builtin.Int.intBits u)).filter fun j=>decide (bitI j u=1)
noncomputable def sp_un:Sp:=fun vs H Q _=>∃ (a b:Addr) (xs ys:List Int) (R:Nat),vs= [.ref a,.ref b]∧H a=some (.lst (xs.map V.int))∧H b=some (.lst (ys.map V.int))∧xs.length=ys.length∧xs.length≤1000∧R≤64∧(∀ v∈xs,zbf R v)∧(∀ v∈ys,zbf R v)∧
 ∀ (r:Addr) (H':Hp),Same H H'→H r=none→H' r=some (.lst ((zh0 (zdx xs ys)).map fun j:Nat=>V.int (j:Int)))→Q (.ref r) H'
theorem znE {R:Nat}{u:Int}(h:zbf R u)(j:Nat):(V.int (Builtin.bitAnd (u / 2 ^ ((j:Int)).toNat) 1)=V.int 1)↔bitI j u=1:=by
 obtain ⟨m,rfl,hm⟩:=zbX h
 rw [Int.toNat_natCast,zbr]
 have e:(m:Int) / 2 ^ j=((m / 2 ^ j:Nat):Int):=by
  rw [Int.natCast_ediv]
  congr 1
 have e1:Builtin.bitAnd ((m / 2 ^ j:Nat):Int) 1=((m / 2 ^ j % 2:Nat):Int):=by
  have:=zi4 (m / 2 ^ j) 1
  rw [Nat.and_one_is_mod] at this
  exact this
 rw [e,e1,Nat.testBit_eq_decide_div_mod_eq]
 constructor
 ·intro z
  have:=V.int.inj z
  rw [if_pos (decide_eq_true (by omega))]
 ·intro z
  by_cases c:m / 2 ^ j % 2=1
  ·rw [c]
   rfl
  ·rw [if_neg (by simpa using c)] at z
   cases z
noncomputable def zc2 (w:zat) (fs:List Flt):List Int:=zaQ w (zcN (za5 (2 ^ w.ins.toNat)) (zcQ (2 ^ w.ins.toNat) fs) w.gates (zdB w.ins.toNat) w.gates.length)
theorem zkv {R:Nat}{fs:List Flt}(h:zcu fs):zcu (zcQ R fs):=by
 unfold zcu zcQ at *
 rw [List.map_map]
 exact h
theorem zlB {j:Nat}{w:zat}{ws:List Int}:(zaQ w ws).map (bitI j)=zaQ w (ws.map (bitI j)):=by
 unfold zaQ
 rw [List.map_map]
 refine List.map_congr_left fun o _=>?_
 exact zdp j ws o.toNat
theorem zeL {fs:List Flt}(fb:∀ f∈fs,f.worth=0∨f.worth=1){m:Nat}{w:zat}(wf:WF m w):(∀ v∈zc2 w fs,zbf (2 ^ w.ins.toNat) v)∧(zc2 w fs).length=w.outs.length∧
  ∀ (j:Nat) row,(zaI w.ins.toNat)[j]? =some row→(zc2 w fs).map (bitI j)=zaQ w (zan fs w.gates row w.gates.length):=by
 have i1:=wf.i1
 obtain ⟨c1,c2,c3⟩:=zeT w.ins.toNat
 obtain ⟨w1,w2⟩:=zhq fb wf (cols:=zdB w.ins.toNat) (by rw [c2];omega) c1 w.gates.length (Nat.le_refl _)
 refine ⟨fun v hv=>?_,by unfold zc2 zaQ;rw [List.length_map],fun j row hj=>?_⟩
 ·unfold zc2 zaQ at hv
  obtain ⟨o,_,rfl⟩:=List.mem_map.mp hv
  exact zfu w1 _
 ·have lj:j < 2 ^ w.ins.toNat:=by
   have:=(List.getElem?_eq_some_iff.mp hj).1
   rw [zdk] at this
   exact this
  rw [c3 j lj] at hj
  cases hj
  unfold zc2
  rw [zlB,w2 j lj]
theorem zkq {fs gs:List Flt}(fb:∀ f∈fs,f.worth=0∨f.worth=1)(gb:∀ f∈gs,f.worth=0∨f.worth=1){m:Nat}{w:zat}(wf:WF m w):
  (zh0 (zdx (zc2 w fs) (zc2 w gs))= []→zaG w fs gs=none)∧∀ j js,zh0 (zdx (zc2 w fs) (zc2 w gs))=j::js→∃ row,(zaI w.ins.toNat)[j]? =some row∧zaG w fs gs=some row:=by
 obtain ⟨f1,f2,f3⟩:=zeL fb wf
 obtain ⟨g1,g2,g3⟩:=zeL gb wf
 obtain ⟨u1,u2⟩:=zet (R:=2 ^ w.ins.toNat) (zc2 w fs) (zc2 w gs) (f2.trans g2.symm) f1 g1 (zdo _)
 obtain ⟨u,eu⟩:∃ u,zdx (zc2 w fs) (zc2 w gs)=u:=⟨_,rfl⟩
 have b0:zbf (2 ^ w.ins.toNat) u:=by rw [← eu];exact u1
 have mem:∀ j,j∈zh0 u↔bitI j u=1:=fun j=>by
  unfold zh0
  rw [List.mem_filter,List.mem_range,decide_eq_true_eq]
  refine ⟨fun z=>z.2,fun z=>⟨?_,z⟩⟩
  obtain ⟨k,rfl,hk⟩:=zbX b0
  have hb:=zoC k
  rcases Nat.lt_or_ge j (Builtin.Int.intBits (k:Int)) with h | h
  ·exact h
  ·rw [zbr,Nat.testBit_lt_two_pow (Nat.lt_of_lt_of_le hb (Nat.pow_le_pow_right (by decide) h))] at z
   cases z
 have row_of:∀ (j:Nat) row,(zaI w.ins.toNat)[j]? =some row→(bitI j u=1↔zaQ w (zan fs w.gates row w.gates.length)≠zaQ w (zan gs w.gates row w.gates.length)):=fun j row hj=>by
  rw [← eu]
  have z:=u2 j
  rw [zf6,f3 j row hj,g3 j row hj] at z
  refine z.trans ?_
  simp
 have lt_of:∀ j,bitI j u=1→j < 2 ^ w.ins.toNat:=fun j z=>by
  obtain ⟨k,rfl,hk⟩:=zbX b0
  rcases Nat.lt_or_ge j (2 ^ w.ins.toNat) with h | h
  ·exact h
  ·rw [zbr,Nat.testBit_lt_two_pow (Nat.lt_of_lt_of_le hk (Nat.pow_le_pow_right (by decide) h))] at z
   cases z
 rw [eu]
 constructor
 ·intro hn
  unfold zaG
  refine List.find?_eq_none.mpr fun row hr z=>?_
  obtain ⟨j,hj⟩:=List.getElem?_of_mem hr
  have:=(mem j).mpr ((row_of j row hj).mpr (of_decide_eq_true z))
  rw [hn] at this
  cases this
 ·intro j js hn
  have bj:bitI j u=1:=(mem j).mp (by rw [hn];exact .head _)
  have lj:=lt_of j bj
  obtain ⟨row,hrow⟩:∃ row,(zaI w.ins.toNat)[j]? =some row:=⟨_,List.getElem?_eq_getElem (by rw [zdk];exact lj)⟩
  refine ⟨row,hrow,zjV hrow (decide_eq_true ((row_of j row hrow).mp bj)) fun y hy=>?_⟩
  obtain ⟨i,hi⟩:=List.getElem?_of_mem hy
  have lij:i < j:=by
   have:=(List.getElem?_eq_some_iff.mp hi).1
   rw [List.length_take] at this
   omega
  rw [List.getElem?_take_of_lt lij] at hi
  refine decide_eq_false fun z=>?_
  have bi:=(row_of i y hi).mpr z
  have hm:=(mem i).mpr bi
  have sorted:(zh0 u).Pairwise (· < ·):=by
   unfold zh0
   exact List.Pairwise.filter _ List.pairwise_lt_range
  rw [hn] at hm sorted
  rcases List.mem_cons.mp hm with e | e
  ·omega
  ·have:=(List.pairwise_cons.mp sorted).1 i e
   omega
noncomputable def sp_osR (K:PySem.W.Frag):Sp:=fun vs H Q _=>∃ (x:V) (d:Addr) (w:zat) (fs:List Flt) (G:Hp),vs= [x,.ref d]∧Off [d] G H∧Rep K G x (zbl w)∧WF 20 w∧H d=some (.dT (tabV fs))∧(∀ f∈fs,f.worth=0∨f.worth=1)∧zcu fs∧fs.length≤1000∧
 ∀ (r:Addr) (ob:PySem.Obj) (H':Hp),Same G H'→G r=none→H' d=some (.frz ob (.dT (tabV fs)))→H' r=some (.lst ((zc2 w fs).map V.int))→Q (.ref r) H'
noncomputable def sp_osT (K:PySem.W.Frag):Sp:=fun vs H Q _=>∃ (x:V) (d:Addr) (w:zat) (fs:List Flt),vs= [x,.ref d]∧Rep K H x (zbl w)∧WF 20 w∧H d=some (.dT (tabV fs))∧(∀ f∈fs,f.worth=0∨f.worth=1)∧zcu fs∧fs.length≤1000∧
 ∀ (r:Addr) (H':Hp),Same H H'→H r=none→H' r=some (.lst ((zc2 w fs).map V.int))→Q (.ref r) H'
theorem zlY {K:PySem.W.Frag}{H:Hp}{p a:Addr}{xs:List V}{kvs:List (List Key×V)}(h:SqT K H a xs)(e:H p=some (.dT kvs)):SqT K (hole p H) a xs:=by
 rcases h with h | h
 ·left
  rcases h with h | ⟨o,h⟩
  ·exact .inl (by rw [zeo (fun z=>by rw [z,e] at h;cases h)];exact h)
  ·exact .inr ⟨o,by rw [zeo (fun z=>by rw [z,e] at h;cases h)];exact h⟩
 ·exact .inr h
theorem zmj {K:PySem.W.Frag}{H:Hp}{p a:Addr}{xs:List V}{kvs:List (List Key×V)}(h:SqL K H a xs)(e:H p=some (.dT kvs)):SqL K (hole p H) a xs:=by
 rcases h with h | h
 ·left
  rcases h with h | ⟨o,h⟩
  ·exact .inl (by rw [zeo (fun z=>by rw [z,e] at h;cases h)];exact h)
  ·exact .inr ⟨o,by rw [zeo (fun z=>by rw [z,e] at h;cases h)];exact h⟩
 ·exact .inr h
mutual
theorem zjR {K:PySem.W.Frag}{H:Hp}{d:Addr}{kvs:List (List Key×V)}(e:H d=some (.dT kvs)):∀ {v:V} {D:Dat},Rep K H v D→Rep K (hole d H) v D
 | _,_,.non=>.non
 | _,_,.bl b=>.bl b
 | _,_,.int i=>.int i
 | _,_,.str x=>.str x
 | _,_,.tup h r=>.tup (zlY h e) (zf8 e r)
 | _,_,.lst h r=>.lst (zmj h e) (zf8 e r)
theorem zf8 {K:PySem.W.Frag}{H:Hp}{d:Addr}{kvs:List (List Key×V)}(e:H d=some (.dT kvs)):∀ {vs:List V} {Ds:List Dat},Reps K H vs Ds→Reps K (hole d H) vs Ds
 | _,_,.nil=>.nil
 | _,_,.cons h r=>.cons (zjR e h) (zf8 e r)
end
noncomputable def zgX (H H':Hp) (o:Option (List Int)) (v:V):Prop:=match o with
 | none=>v= .non
 | some row=>∃ q,v= .ref q∧H q=none∧H' q=some (.lst (row.map V.int))
noncomputable def sp_fu (K:PySem.W.Frag):Sp:=fun vs H Q _=>∃ (x:V) (d e:Addr) (w:zat) (fs gs:List Flt),vs= [x,.ref d,.ref e]∧Rep K H x (zbl w)∧WF 20 w∧H d=some (.dT (tabV fs))∧H e=some (.dT (tabV gs))∧(∀ f∈fs,f.worth=0∨f.worth=1)∧(∀ f∈gs,f.worth=0∨f.worth=1)∧zcu fs∧zcu gs∧fs.length≤1000∧gs.length≤1000∧
 ∀ (v:V) (H':Hp),Same H H'→zgX H H' (zaG w fs gs) v→Q v H'
noncomputable def zfg (H':Hp) (o:Option (List Int)) (v:V):Prop:=match o with
 | none=>v= .non
 | some row=>∃ q,v= .ref q∧H' q=some (.lst (row.map V.int))
theorem zfg.mono {H H':Hp}{o:Option (List Int)}{v:V}(h:zfg H o v)(s:Same H H'):zfg H' o v:=by
 unfold zfg at *
 cases o with
 | none=>exact h
 | some row=>
  obtain ⟨q,a,b⟩:=h
  exact ⟨q,a,s _ _ b⟩
noncomputable def sp_ft (K:PySem.W.Frag):Sp:=fun vs H Q _=>∃ (x y:V) (w:zat) (fs:List Flt),vs= [x,y]∧Rep K H x (zbl w)∧WF 20 w∧Rep K H y (.list (fs.map fltD))∧(∀ f∈fs,zb2 w f)∧zcu fs∧fs.length≤1000∧
 ∀ (v:V) (H':Hp),Same H H'→zgX H H' (zaG w fs []) v→Q v H'
theorem zgX.any {G H':Hp}{o:Option (List Int)}{v:V}{H:Hp}(h:zgX H H' o v)(s:Same G H):zgX G H' o v:=by
 unfold zgX at *
 cases o with
 | none=>exact h
 | some row=>
  obtain ⟨q,a,b,c⟩:=h
  exact ⟨q,a,s.free b,c⟩
noncomputable def PL (H:Hp) (v:V) (cs:List Nat):Prop:=∃ (l:Addr) (ps:List (Nat×Addr)),v= .ref l∧H l=some (.lst (ps.map fun p=>V.ref p.2))∧ps.map Prod.fst=cs∧∀ p∈ps,p.1 < 4∧H p.2=some (zeQ p.1)
theorem PL.mono {H H':Hp}{v:V}{cs:List Nat}(h:PL H v cs)(s:Same H H'):PL H' v cs:=by
 obtain ⟨l,ps,a,b,c,d⟩:=h
 exact ⟨l,ps,a,s _ _ b,c,fun p hp=>⟨(d p hp).1,s _ _ (d p hp).2⟩⟩
noncomputable def inP:Option Int→List Nat
 | none=>[0,3]
 | some b=>[zb3 b b]
noncomputable def optV:Option Int→V
 | none=>.non
 | some b=>.int b
theorem hpO (c:Nat):zeQ c= .tup [.int (hiV c),.int (loV c)]:=rfl
theorem zlf:zeQ 0= .tup [.int 0,.int 0]:=rfl
theorem zk7:zeQ 3= .tup [.int 1,.int 1]:=rfl
noncomputable def PLn (H H':Hp) (v:V) (cs:List Nat):Prop:=∃ (l:Addr) (ps:List (Nat×Addr)),v= .ref l∧H l=none∧H' l=some (.lst (ps.map fun p=>V.ref p.2))∧ps.map Prod.fst=cs∧∀ p∈ps,p.1 < 4∧H p.2=none∧H' p.2=some (zeQ p.1)
noncomputable def sp_ip:Sp:=fun vs H Q _=>∃ (o:Option Int),vs= [optV o]∧(∀ b,o=some b→b=0∨b=1)∧∀ (v:V) (H':Hp),Same H H'→PLn H H' v (inP o)→Q v H'
noncomputable def sp_cp (K:PySem.W.Frag):Sp:=fun vs H Q _=>∃ (k:Str) (l:Addr) (ps:List (Nat×Addr)),vs= [.str k,.ref l]∧H l=some (.lst (ps.map fun p=>V.ref p.2))∧(∀ p∈ps,p.1 < 4∧H p.2=some (zeQ p.1))∧zbJ k ps.length∧
 ∀ (r:Addr) (H':Hp),Same H H'→H r=none→H' r=some (zeQ (zcq k (ps.map Prod.fst)))→Q (.ref r) H'
noncomputable def zfQ:Option Int→List Nat→List Nat
 | none,cs=>cs
 | some b,cs=>zbj (cs.map fun c=>zb3 (hiV c) b)
noncomputable def zeD (G H H':Hp):Hp:=fun b=>match H b with
 | none=>H' b
 | some _=>G b
theorem zee {G H H':Hp}{b:Addr}(h:H b=none):zeD G H H' b=H' b:=by unfold zeD;rw [h]
theorem zc1 {G H H':Hp}(f:Same G H):Same G (zeD G H H'):=fun b o e=>by unfold zeD;rw [f _ _ e];exact e
theorem zdv {M:List Addr}{G H H':Hp}(f:Off M G H)(s:Same H H'):Off M (zeD G H H') H':=by
 refine ⟨fun b o e=>?_,fun m hm=>?_,fun m hm=>?_⟩
 ·unfold zeD at e
  cases hb:H b with
  | none=>rw [hb] at e;exact e
  | some u=>rw [hb] at e;exact s _ _ (f.same _ _ e)
 ·obtain ⟨o,e⟩:=f.there m hm
  unfold zeD
  rw [e]
  exact f.out m hm
 ·obtain ⟨o,e⟩:=f.there m hm
  exact ⟨o,s _ _ e⟩
theorem PLn.pl {G H H':Hp}{v:V}{cs:List Nat}(h:PLn H H' v cs):PL (zeD G H H') v cs:=by
 obtain ⟨l,ps,a,b,c,d,e⟩:=h
 exact ⟨l,ps,a,by rw [zee b];exact c,d,fun p hp=>⟨(e p hp).1,by rw [zee (e p hp).2.1];exact (e p hp).2.2⟩⟩
theorem PLn.here {H H':Hp}{v:V}{cs:List Nat}(h:PLn H H' v cs):PL H' v cs:=by
 obtain ⟨l,ps,a,b,c,d,e⟩:=h
 exact ⟨l,ps,a,c,d,fun p hp=>⟨(e p hp).1,(e p hp).2.2⟩⟩
noncomputable def sp_ws:Sp:=fun vs H Q _=>∃ (v:V) (d pl:Addr) (cs:List Nat) (fs:List Flt) (place:List Key),vs= [v,.ref d,.ref pl]∧PL H v cs∧cs.length≤16∧H d=some (.dT (tabV fs))∧H pl=some (.tup (place.map kV))∧(∀ f∈fs,f.worth=0∨f.worth=1)∧
 ∀ (v':V) (H':Hp),Same H H'→(v'=v∧look fs place=none∨PLn H H' v' (zfQ (look fs place) cs))→Q v' H'
noncomputable abbrev PLs (H:Hp):List V→List (List Nat)→Prop:=Paired fun x cs=>PL H x cs
theorem PLs.mono {H H':Hp}(s:Same H H'):∀ {xs:List V} {css:List (List Nat)},PLs H xs css→PLs H' xs css
 | _,_,.nil=>.nil
 | _,_,.cons h t=>.cons (PL.mono h s) (PLs.mono s t)
theorem PLs.append {H:Hp}:∀ {xs ys:List V} {as bs:List (List Nat)},PLs H xs as→PLs H ys bs→PLs H (xs++ys) (as++bs)
 | _,_,_,_,.nil,h=>h
 | _,_,_,_,.cons a t,h=>.cons a (PLs.append t h)
theorem PLs.get {H:Hp}:∀ {xs:List V} {css:List (List Nat)} {i:Nat} {x:V},PLs H xs css→xs[i]? =some x→∃ cs,css[i]? =some cs∧PL H x cs
 | _,_,0,_,.cons (b:=c) h _,e=>by cases e;exact ⟨c,rfl,h⟩
 | _,_,i+1,_,.cons _ t,e=>PLs.get (i:=i) t e
theorem PLs.len {H:Hp}{xs:List V}{css:List (List Nat)}(h:PLs H xs css):xs.length=css.length:=Paired.length h
theorem zi3 {cs:List Nat}(h:cs.length≤4):∀ rows:List (List Nat),(rows.flatMap fun r=>cs.map fun p=>r++ [p]).length≤rows.length * 4
 | []=>Nat.le_refl _
 | r::rows=>by
  have:=zi3 h rows
  rw [List.flatMap_cons,List.length_append,List.length_map,List.length_cons]
  omega
theorem zdF:∀ (legs acc:List (List Nat)),(∀ l∈legs,l.length≤4)→(zbM acc legs).length≤acc.length * 4 ^ legs.length
 | [],acc,_=>by show acc.length≤acc.length * 1;omega
 | l::ls,acc,h=>by
  have h1:=zdF ls (acc.flatMap fun r=>l.map fun p=>r++ [p]) fun m hm=>h m (.tail _ hm)
  have h2:=zi3 (h l (.head _)) acc
  have h3:=Nat.mul_le_mul_right (4 ^ ls.length) h2
  rw [Nat.mul_assoc,← Nat.pow_succ'] at h3
  exact Nat.le_trans h1 h3
theorem zhw (acc legs:List (List Nat))(l:List Nat):zbM acc (legs++ [l])=(zbM acc legs).flatMap fun r=>l.map fun p=>r++ [p]:=by
 unfold zbM
 rw [List.foldl_append]
 rfl
noncomputable def NewR (H:Hp) (y:V):Prop:=∃ l,y= .ref l∧H l=none
noncomputable def sp_ec:Sp:=fun vs H Q _=>∃ (a:Addr) (xs:List V) (css:List (List Nat)),vs= [.ref a]∧H a=some (.lst xs)∧PLs H xs css∧css.length≤4∧(∀ cs∈css,cs.length≤4)∧
 ∀ (R:Addr) (ys:List V) (H':Hp),Same H H'→H R=none→H' R=some (.lst ys)→PLs H' ys (choices css)→(∀ y∈ys,NewR H y)→Q (.ref R) H'
noncomputable def zer (fs:List Flt) (k:Int) (css:List (List Nat)):List (List Nat):=css.mapIdx fun i cs=>zfQ (look fs (legK k i)) cs
theorem zkk (fs:List Flt)(k:Int)(css:List (List Nat))(cs:List Nat):zer fs k (css++ [cs])=zer fs k css++ [zfQ (look fs (legK k css.length)) cs]:=by
 unfold zer
 rw [List.mapIdx_concat]
noncomputable def sp_lp:Sp:=fun vs H Q _=>∃ (d p:Addr) (k:Int) (fs:List Flt) (xs:List V) (css:List (List Nat)),vs= [.ref d,.int k,.ref p]∧H d=some (.dT (tabV fs))∧(∀ f∈fs,f.worth=0∨f.worth=1)∧H p=some (.lst xs)∧PLs H xs css∧css.length≤4∧(∀ cs∈css,cs.length≤4)∧
 ∀ (R:Addr) (ys:List V) (H':Hp),Same H H'→H R=none→H' R=some (.lst ys)→PLs H' ys (zer fs k css)→Q (.ref R) H'
noncomputable def zns (m:Nat):Sp:=fun vs H Q _=>∃ (k:Str) (a:Addr) (xs:List V) (css:List (List Nat)),vs= [.str k,.ref a]∧H a=some (.lst xs)∧PLs H xs css∧zbJ k css.length∧(zfJ k→css.length≤m)∧(∀ cs∈css,cs.length≤4)∧∀ (v':V) (H':Hp),Same H H'→PLn H H' v' (zfS k css)→Q v' H'
noncomputable def zlX (m:Nat):Sp:=fun vs H Q _=>∃ (k:Str) (a:Addr) (xs:List V) (css:List (List Nat)),vs= [.str k,.ref a]∧H a=some (.lst xs)∧PLs H xs css∧zfJ k∧2≤css.length∧css.length≤m∧css.length≤4∧(∀ cs∈css,cs.length≤4)∧∀ (v':V) (H':Hp),Same H H'→PLn H H' v' (zfS k css)→Q v' H'
theorem zkK {k:Str}(h:zfJ k){n:Nat}(a: 2≤n)(b:n≤4):zbJ k n:=.inl ⟨h,a,b⟩
theorem znn {m:Nat}{vs:List V}{H:Hp}{Q:VK}{E:XK}(h:zlX m vs H Q E):zns m vs H Q E:=by
 obtain ⟨k,a,xs,css,e,ha,hx,fk,l2,lm,l4,c4,q⟩:=h
 exact ⟨k,a,xs,css,e,ha,hx,zkK fk l2 l4,fun _=>lm,c4,q⟩
noncomputable def sp_gp:Sp:=fun vs H Q _=>∃ (k:Str) (a:Addr) (xs:List V) (css:List (List Nat)),vs= [.str k,.ref a]∧H a=some (.lst xs)∧PLs H xs css∧zbJ k css.length∧(∀ cs∈css,cs.length≤4)∧∀ (v':V) (H':Hp),Same H H'→PLn H H' v' (zfS k css)→Q v' H'
theorem zlP (k:Str):inV (.str k) ((["and","or","odd"]:List Str).map V.str)=true↔zfJ k:=by
 unfold inV zfJ
 rw [List.any_eq_true]
 constructor
 ·rintro ⟨y,hy,e⟩
  have hy':y= .str "and"∨y= .str "or"∨y= .str "odd" :=by simpa using hy
  rcases hy' with rfl | rfl | rfl
  ·exact .inl (eq_of_beq (show (("and" :Str)==k)=true from e)).symm
  ·exact .inr (.inl (eq_of_beq (show (("or" :Str)==k)=true from e)).symm)
  ·exact .inr (.inr (eq_of_beq (show (("odd" :Str)==k)=true from e)).symm)
 ·rintro (rfl | rfl | rfl)
  ·exact ⟨.str "and",by simp,by decide+kernel⟩
  ·exact ⟨.str "or",by simp,by decide+kernel⟩
  ·exact ⟨.str "odd",by simp,by decide+kernel⟩
theorem PL.codes {H:Hp}{v:V}{cs:List Nat}(h:PL H v cs):zcR cs:=by
 obtain ⟨l,ps,_,_,rfl,d⟩:=h
 intro c hc
 obtain ⟨p,hp,rfl⟩:=List.mem_map.mp hc
 exact (d p hp).1
theorem PLs.codes {H:Hp}:∀ {xs:List V} {css:List (List Nat)},PLs H xs css→∀ cs∈css,zcR cs
 | _,_,.cons h t,cs,hc=>by
  rcases List.mem_cons.mp hc with rfl | hc
  ·exact PL.codes h
  ·exact PLs.codes t cs hc
theorem PLs.split {H:Hp}:∀ {xs:List V} {as:List (List Nat)} {b:List Nat},PLs H xs (as++ [b])→∃ ys y,xs=ys++ [y]∧PLs H ys as∧PL H y b
 | _,[],_,.cons h .nil=>⟨[],_,rfl,.nil,h⟩
 | _,a::as,_,.cons h t=>by
  obtain ⟨ys,y,rfl,h1,h2⟩:=PLs.split t
  exact ⟨_::ys,y,rfl,.cons h h1,h2⟩
theorem PLn.older {H0 H H':Hp}{v:V}{cs:List Nat}(s:Same H0 H)(h:PLn H H' v cs):PLn H0 H' v cs:=by
 obtain ⟨l,ps,a,b,c,d,e⟩:=h
 exact ⟨l,ps,a,s.free b,c,d,fun p hp=>⟨(e p hp).1,s.free (e p hp).2.1,(e p hp).2.2⟩⟩
theorem zgh {k:Str}{r:List Nat}(hr:zcR r)(lk:zbJ k r.length):zcq k r < 4:=
 zds (zda hr.hi (by rw [List.length_map];exact lk)) (zda hr.lo (by rw [List.length_map];exact lk))
theorem zdD (cs:List Nat):(zbj cs).length≤4:=by
 unfold zbj
 exact Nat.le_trans (List.length_filter_le _ _) (by decide)
theorem PLn.mono {H G G':Hp}{v:V}{cs:List Nat}(h:PLn H G v cs)(s:Same G G'):PLn H G' v cs:=by
 obtain ⟨l,ps,a,b,c,d,e⟩:=h
 exact ⟨l,ps,a,b,s _ _ c,d,fun p hp=>⟨(e p hp).1,(e p hp).2.1,s _ _ (e p hp).2.2⟩⟩
theorem PLn.news {H0 G H H':Hp}{v:V}{cs:List Nat}(s:Same H0 H)(h:PLn H H' v cs):PLn H0 (zeD G H H') v cs:=by
 obtain ⟨l,ps,a,b,c,d,e⟩:=h
 exact ⟨l,ps,a,s.free b,by rw [zee b];exact c,d,fun p hp=>⟨(e p hp).1,s.free (e p hp).2.1,by rw [zee (e p hp).2.1];exact (e p hp).2.2⟩⟩
noncomputable abbrev PLN (H G:Hp):List V→List (List Nat)→Prop:=Paired fun x cs=>PLn H G x cs
theorem PLN.mono {H G G':Hp}(s:Same G G'):∀ {xs:List V} {css:List (List Nat)},PLN H G xs css→PLN H G' xs css
 | _,_,.nil=>.nil
 | _,_,.cons h t=>.cons (PLn.mono h s) (PLN.mono s t)
theorem PLN.append {H G:Hp}:∀ {xs ys:List V} {as bs:List (List Nat)},PLN H G xs as→PLN H G ys bs→PLN H G (xs++ys) (as++bs)
 | _,_,_,_,.nil,h=>h
 | _,_,_,_,.cons a t,h=>.cons a (PLN.append t h)
theorem PLN.get {H G:Hp}:∀ {xs:List V} {css:List (List Nat)} {i:Nat} {x:V},PLN H G xs css→xs[i]? =some x→∃ cs,css[i]? =some cs∧PLn H G x cs
 | _,_,0,_,.cons (b:=c) h _,e=>by cases e;exact ⟨c,rfl,h⟩
 | _,_,i+1,_,.cons _ t,e=>PLN.get (i:=i) t e
theorem PLN.len {H G:Hp}{xs:List V}{css:List (List Nat)}(h:PLN H G xs css):xs.length=css.length:=Paired.length h
theorem PLN.pls {H G:Hp}:∀ {xs:List V} {css:List (List Nat)},PLN H G xs css→PLs G xs css
 | _,_,.nil=>.nil
 | _,_,.cons h t=>.cons (PLn.here h) (PLN.pls t)
theorem PLs.pick {G:Hp}{ys:List V}{css:List (List Nat)}(h:PLs G ys css):∀ {ls:List Int},(∀ l∈ls,0≤l∧l < ys.length)→PLs G (ls.map fun l=>ys.getD l.toNat V.non) (ls.map fun l=>css.getD l.toNat [])
 | [],_=>.nil
 | l::ls,hl=>by
  have b:=hl l (.head _)
  have hy:ys[l.toNat]? =some (ys.getD l.toNat V.non):=by rw [List.getD_eq_getElem?_getD,List.getElem?_eq_getElem (by omega)];rfl
  obtain ⟨cs,hc,hp⟩:=h.get hy
  refine .cons ?_ (PLs.pick h fun z hz=>hl z (.tail _ hz))
  have e:css.getD l.toNat []=cs:=by rw [List.getD_eq_getElem?_getD,hc];rfl
  show PL G _ (css.getD l.toNat [])
  rw [e]
  exact hp
noncomputable def rowP (fs:List Flt) (ks:List (Option Int)):List (List Nat):=ks.mapIdx fun i o=>zfQ (look fs (zbn i)) (inP o)
theorem zl2 (fs:List Flt)(ks:List (Option Int))(o:Option Int):rowP fs (ks++ [o])=rowP fs ks++ [zfQ (look fs (zbn ks.length)) (inP o)]:=by unfold rowP;rw [List.mapIdx_concat]
theorem zj2 (fs:List Flt)(ks:List (Option Int)):(rowP fs ks).length=ks.length:=by unfold rowP;rw [List.length_mapIdx]
noncomputable def za9 (fs:List Flt) (gs:List (Str×List Int)) (ks:List (Option Int)):Nat→List (List Nat)
 | 0=>rowP fs ks
 | n+1=>za9 fs gs ks n++ [zfQ (look fs (zbn ((ks.length+n:Nat):Int))) (match gs[n]? with
   | some g=>zfS g.1 (zer fs n (g.2.map fun l=>(za9 fs gs ks n).getD l.toNat []))
   | none=>[])]
theorem zec (fs:List Flt)(gs:List (Str×List Int))(ks:List (Option Int)):∀ n,(za9 fs gs ks n).length=ks.length+n
 | 0=>zj2 fs ks
 | n+1=>by rw [za9,List.length_append,zec fs gs ks n];simp;omega
theorem zhJ {o:Option Int}{cs:List Nat}(h:cs.length≤4):(zfQ o cs).length≤4:=by
 cases o with
 | none=>exact h
 | some b=>exact zdD _
theorem znv (o:Option Int):(inP o).length≤4:=by cases o <;> simp [inP]
theorem zgo (fs:List Flt)(gs:List (Str×List Int))(ks:List (Option Int)):∀ n,∀ cs∈za9 fs gs ks n,cs.length≤4
 | 0=>fun cs hc=>by
  obtain ⟨i,h,e⟩:=List.mem_mapIdx.mp (show cs∈ks.mapIdx _ from hc)
  rw [← e]
  exact zhJ (znv _)
 | n+1=>fun cs hc=>by
  rw [za9] at hc
  rcases List.mem_append.mp hc with hc | hc
  ·exact zgo fs gs ks n cs hc
  ·rw [List.mem_singleton.mp hc]
   refine zhJ ?_
   split
   ·exact zdD _
   ·exact Nat.zero_le _
theorem zh3 (fs:List Flt)(k:Int)(css:List (List Nat)):(zer fs k css).length=css.length:=by unfold zer;rw [List.length_mapIdx]
theorem zmI {fs:List Flt}{k:Int}{css:List (List Nat)}(h:∀ cs∈css,cs.length≤4):∀ cs∈zer fs k css,cs.length≤4:=fun cs hc=>by
 obtain ⟨i,hi,e⟩:=List.mem_mapIdx.mp (show cs∈css.mapIdx _ from hc)
 rw [← e]
 exact zhJ (h _ (List.getElem_mem hi))
noncomputable def sp_ep (K:PySem.W.Frag):Sp:=fun vs H Q _=>∃ (x:V) (d p:Addr) (w:zat) (fs:List Flt) (ks:List (Option Int)),vs= [x,.ref d,.ref p]∧Rep K H x (zbl w)∧WF 20 w∧H d=some (.dT (tabV fs))∧(∀ f∈fs,f.worth=0∨f.worth=1)∧H p=some (.lst (ks.map optV))∧(ks.length:Int)=w.ins∧(∀ o∈ks,∀ b,o=some b→b=0∨b=1)∧
 ∀ (R:Addr) (ys:List V) (H':Hp),Same H H'→H R=none→H' R=some (.lst ys)→PLN H H' ys (za9 fs w.gates ks w.gates.length)→Q (.ref R) H'
theorem zjK {fs:List Flt}{k:List Key}{b:Int}(fb:∀ f∈fs,f.worth=0∨f.worth=1)(h:look fs k=some b):b=0∨b=1:=by
 unfold look at h
 obtain ⟨f,hf,rfl⟩:=Option.map_eq_some_iff.mp h
 exact fb f (List.mem_of_find?_eq_some hf)
theorem zgj {fs:List Flt}{key:List Key}{cs:List Nat}(fb:∀ f∈fs,f.worth=0∨f.worth=1)(hc:zcR cs){c:Nat}(h:c∈cs):zb3 (hiV c) (pick fs key (loV c))∈zfQ (look fs key) cs:=by
 unfold pick
 cases e:look fs key with
 | none=>
  show zb3 (hiV c) (loV c)∈cs
  rw [znZ (hc c h)]
  exact h
 | some v=>
  have hv:=zjK fb e
  show zb3 (hiV c) v∈zbj (cs.map fun c=>zb3 (hiV c) v)
  rw [zep]
  ·exact List.mem_map.mpr ⟨c,h,rfl⟩
  ·intro d hd
   obtain ⟨c2,h2,rfl⟩:=List.mem_map.mp hd
   exact zds (zg8 (hc c2 h2)) hv
theorem zdS (cs:List Nat):zcR (zbj cs):=fun c hc=>by
 unfold zbj at hc
 have:=(List.mem_filter.mp hc).1
 simp at this
 omega
theorem zfm {o:Option Int}{cs:List Nat}(h:zcR cs):zcR (zfQ o cs):=by
 cases o with
 | none=>exact h
 | some b=>exact zdS _
theorem zj4 {o:Option Int}(h:∀ b,o=some b→b=0∨b=1):zcR (inP o):=by
 cases o with
 | none=>
  intro c hc
  have:c=0∨c=3:=by simpa [inP] using hc
  omega
 | some b=>
  intro c hc
  rw [List.mem_singleton.mp hc]
  exact zds (h b rfl) (h b rfl)
theorem zfz {fs:List Flt}{gs:List (Str×List Int)}{ks:List (Option Int)}(kb:∀ o∈ks,∀ b,o=some b→b=0∨b=1):∀ n,∀ cs∈za9 fs gs ks n,zcR cs
 | 0=>fun cs hc=>by
  obtain ⟨i,h,e⟩:=List.mem_mapIdx.mp (show cs∈ks.mapIdx _ from hc)
  rw [← e]
  exact zfm (zj4 (kb _ (List.getElem_mem h)))
 | n+1=>fun cs hc=>by
  rw [za9] at hc
  rcases List.mem_append.mp hc with hc | hc
  ·exact zfz kb n cs hc
  ·rw [List.mem_singleton.mp hc]
   refine zfm ?_
   split
   ·exact zdS _
   ·exact fun _ z=>(List.not_mem_nil z).elim
theorem zhe {α :Type}:∀ (ls:List α) (f:Nat→α→Nat) (g:Nat→α→List Nat),(∀ i a,a∈ls→f i a∈g i a)→zcr (ls.mapIdx f) (ls.mapIdx g)
 | [],_,_,_=>.nil
 | a::ls,f,g,h=>by
  rw [List.mapIdx_cons,List.mapIdx_cons]
  exact .cons (h 0 a (.head _)) (zhe ls _ _ fun i b hb=>h (i+1) b (.tail _ hb))
theorem zgi {α β γ :Type}(f:Nat→β→γ)(F: α→β)(ls:List α):(ls.map F).mapIdx f=ls.mapIdx fun i a=>f i (F a):=by
 refine List.ext_getElem? fun i=>?_
 rw [List.getElem?_mapIdx,List.getElem?_mapIdx,List.getElem?_map]
 cases ls[i]? <;> rfl
theorem zgR {α β γ :Type}(f:Nat→α→β)(F: β→γ)(ls:List α):(ls.mapIdx f).map F=ls.mapIdx fun i a=>F (f i a):=by
 refine List.ext_getElem? fun i=>?_
 rw [List.getElem?_map,List.getElem?_mapIdx,List.getElem?_mapIdx]
 cases ls[i]? <;> rfl
theorem zh6 {α β :Type}(F: α→β)(ls:List α):ls.mapIdx (fun _ a=>F a)=ls.map F:=by
 refine List.ext_getElem? fun i=>?_
 rw [List.getElem?_mapIdx,List.getElem?_map]
theorem zeX {α β :Type}{f g:Nat→α→β}{ls:List α}(h:∀ i a,a∈ls→f i a=g i a):ls.mapIdx f=ls.mapIdx g:=by
 refine List.ext_getElem? fun i=>?_
 rw [List.getElem?_mapIdx,List.getElem?_mapIdx]
 cases e:ls[i]? with
 | none=>rfl
 | some a=>exact congrArg some (h i a (List.mem_of_getElem? e))
theorem zgd {α :Type}{xs:List α}{y d: α}{i:Nat}(h:i < xs.length):(xs++ [y]).getD i d=xs.getD i d:=by
 rw [List.getD_eq_getElem?_getD,List.getD_eq_getElem?_getD,List.getElem?_append_left h]
theorem zgN {α :Type}{xs:List α}{y d: α}{i:Nat}(h:i=xs.length):(xs++ [y]).getD i d=y:=by
 subst h
 rw [List.getD_eq_getElem?_getD,List.getElem?_append_right (Nat.le_refl _),Nat.sub_self]
 rfl
noncomputable def Agree (row:List Int) (ks:List (Option Int)):Prop:=∀ (i:Nat) b,ks[i]? =some (some b)→row[i]? =some b
theorem zgm {fs:List Flt}(fb:∀ f∈fs,f.worth=0∨f.worth=1){m:Nat}{w:zat}{row:List Int}{ks:List (Option Int)}(wf:WF m w)(hl:(row.length:Int)=w.ins)(lk:ks.length=row.length)(b:Bits row)(kb:∀ o∈ks,∀ b,o=some b→b=0∨b=1)(ag:Agree row ks):
  ∀ n,n≤w.gates.length→∀ i,i < row.length+n→zb3 ((zcD w.gates row n).getD i 0) ((zan fs w.gates row n).getD i 0)∈(za9 fs w.gates ks n).getD i []
 | 0,_,i,hi=>by
  have hi':i < row.length:=hi
  have hk:i < ks.length:=by omega
  have bi:=b _ (List.getElem_mem hi')
  have e1:(zcD w.gates row 0).getD i 0=row[i]:=by show row.getD i 0=_;rw [List.getD_eq_getElem?_getD,List.getElem?_eq_getElem hi'];rfl
  have e2:(zan fs w.gates row 0).getD i 0=pick fs (zbn (i:Int)) row[i]:=by
   show (row.mapIdx _).getD i 0=_
   rw [List.getD_eq_getElem?_getD,List.getElem?_mapIdx,List.getElem?_eq_getElem hi']
   rfl
  have e3:(za9 fs w.gates ks 0).getD i []=zfQ (look fs (zbn (i:Int))) (inP ks[i]):=by
   show (ks.mapIdx _).getD i []=_
   rw [List.getD_eq_getElem?_getD,List.getElem?_mapIdx,List.getElem?_eq_getElem hk]
   rfl
  have hm:zb3 row[i] row[i]∈inP ks[i]:=by
   cases e:ks[i] with
   | none=>
    show _∈[0,3]
    rcases bi with z | z <;> rw [z] <;> decide
   | some v=>
    have:=ag i v (by rw [List.getElem?_eq_getElem hk,e])
    rw [List.getElem?_eq_getElem hi'] at this
    rw [Option.some.inj this]
    exact List.mem_singleton.mpr rfl
  have z:=zgj (key:=zbn (i:Int)) fb (zj4 (kb _ (List.getElem_mem hk))) hm
  rw [zdV bi bi,zdN bi bi] at z
  rw [e1,e2,e3]
  exact z
 | n+1,hn,i,hi=>by
  have ih:=zgm fb wf hl lk b kb ag n (by omega)
  have l1:=zd9 w.gates row n
  have l2:=zbZ fs w.gates row n
  have l3:=zec fs w.gates ks n
  rw [zcD,zan,za9]
  by_cases hlt:i < row.length+n
  ·rw [zgd (by omega),zgd (by omega),zgd (by omega)]
   exact ih i hlt
  have hi':i=row.length+n:=by omega
  obtain ⟨g,hg⟩:∃ g,w.gates[n]? =some g:=⟨_,List.getElem?_eq_getElem (by omega)⟩
  obtain ⟨lkg,lb⟩:=wf.legs n g hg
  rw [zgN (by omega),zgN (by omega),zgN (by omega),hg,lk]
  have bV:=zeq wf hl b n (by omega)
  have bS:=zcX fb wf hl b n (by omega)
  have cQ:=zfz (fs:=fs) (gs:=w.gates) kb n
  have hk:∀ l∈g.2,l.toNat < row.length+n:=fun l hl'=>by have:=lb l hl';omega
  have bv:∀ l∈g.2,(zcD w.gates row n).getD l.toNat 0=0∨(zcD w.gates row n).getD l.toNat 0=1:=fun l hl'=>zbD bV (by have:=hk l hl';omega)
  have bs:∀ l∈g.2,(zan fs w.gates row n).getD l.toNat 0=0∨(zan fs w.gates row n).getD l.toNat 0=1:=fun l hl'=>zbD bS (by have:=hk l hl';omega)
  have cq:∀ l∈g.2,zcR ((za9 fs w.gates ks n).getD l.toNat []):=fun l hl'=>by
   have h1:l.toNat < (za9 fs w.gates ks n).length:=by have:=hk l hl';omega
   rw [List.getD_eq_getElem?_getD,List.getElem?_eq_getElem h1]
   exact cQ _ (List.getElem_mem h1)
  have bp:∀ (i:Nat) l,l∈g.2→pick fs (legK (n:Int) (i:Int)) ((zan fs w.gates row n).getD l.toNat 0)=0∨pick fs (legK (n:Int) (i:Int)) ((zan fs w.gates row n).getD l.toNat 0)=1:=fun i l hl'=>zf3 fb (bs l hl')
  obtain ⟨rl,erl⟩:∃ rl,g.2.mapIdx (fun i l=>zb3 ((zcD w.gates row n).getD l.toNat 0) (pick fs (legK (n:Int) (i:Int)) ((zan fs w.gates row n).getD l.toNat 0)))=rl:=⟨_,rfl⟩
  have ch:zcr rl (zer fs n (g.2.map fun l=>(za9 fs w.gates ks n).getD l.toNat [])):=by
   unfold zer
   rw [zgi,← erl]
   refine zhe _ _ _ fun i l hl'=>?_
   have z:=zgj (key:=legK (n:Int) (i:Int)) fb (cq l hl') (ih l.toNat (hk l hl'))
   rw [zdV (bv l hl') (bs l hl'),zdN (bv l hl') (bs l hl')] at z
   exact z
  have h1:rl.map hiV=g.2.map fun l=>(zcD w.gates row n).getD l.toNat 0:=by
   rw [← erl,zgR,← zh6]
   exact zeX fun i l hl'=>zdV (bv l hl') (bp i l hl')
  have h2:rl.map loV=zcS fs n (g.2.map fun l=>(zan fs w.gates row n).getD l.toNat 0):=by
   unfold zcS
   rw [← erl,zgR,zgi]
   exact zeX fun i l hl'=>zdN (bv l hl') (bp i l hl')
  have cl:∀ cs∈zer fs n (g.2.map fun l=>(za9 fs w.gates ks n).getD l.toNat []),zcR cs:=fun cs hc=>by
   obtain ⟨i,hi2,e⟩:=List.mem_mapIdx.mp (show cs∈(g.2.map _).mapIdx _ from hc)
   rw [← e]
   refine zfm ?_
   obtain ⟨l,hl',e2⟩:=List.mem_map.mp (List.getElem_mem hi2)
   rw [← e2]
   exact cq l hl'
  have lkr:∀ r,zcr r (zer fs n (g.2.map fun l=>(za9 fs w.gates ks n).getD l.toNat []))→zbJ g.1 r.length:=fun r hr=>by
   rw [hr.length,zh3,List.length_map]
   exact lkg
  have hmem:zb3 (zb0 g.1 (rl.map hiV)) (zb0 g.1 (rl.map loV))∈zfS g.1 (zer fs n (g.2.map fun l=>(za9 fs w.gates ks n).getD l.toNat [])):=by
   unfold zfS
   rw [zep]
   ·exact List.mem_map.mpr ⟨rl,za8.mpr ch,rfl⟩
   ·intro c hc
    obtain ⟨r,hr,rfl⟩:=List.mem_map.mp hc
    exact zgh ((za8.mp hr).codes cl) (lkr r (za8.mp hr))
  have crl:=ch.codes cl
  have g1:=zda crl.hi (by rw [List.length_map];exact lkr rl ch)
  have g2:=zda crl.lo (by rw [List.length_map];exact lkr rl ch)
  have z:=zgj (key:=zbn ((row.length+n:Nat):Int)) fb (zdS _) hmem
  rw [zdV g1 g2,zdN g1 g2,h1,h2] at z
  exact z
theorem zhf {cs:List Nat}(h:cs.length≤1):(zbj cs).length≤1:=by
 match cs,h with
 | [],_=>decide
 | [x],_=>
  unfold zbj
  by_cases h0:x=0
  ·subst h0;decide
  by_cases h1:x=1
  ·subst h1;decide
  by_cases h2:x=2
  ·subst h2;decide
  by_cases h3:x=3
  ·subst h3;decide
  rw [List.filter_eq_nil_iff.mpr]
  ·exact Nat.zero_le _
  ·intro y hy z
   rw [List.contains_iff_mem,List.mem_singleton] at z
   have:y=0∨y=1∨y=2∨y=3:=by simpa using hy
   omega
theorem zhT {o:Option Int}{cs:List Nat}(h:cs.length≤1):(zfQ o cs).length≤1:=by
 cases o with
 | none=>exact h
 | some b=>exact zhf (by rw [List.length_map];exact h)
theorem zjM {cs:List Nat}(h:cs.length≤1):∀ rows:List (List Nat),(rows.flatMap fun r=>cs.map fun p=>r++ [p]).length≤rows.length
 | []=>Nat.le_refl _
 | r::rows=>by
  have:=zjM h rows
  rw [List.flatMap_cons,List.length_append,List.length_map,List.length_cons]
  omega
theorem zgO:∀ (legs acc:List (List Nat)),(∀ l∈legs,l.length≤1)→(zbM acc legs).length≤acc.length
 | [],acc,_=>Nat.le_refl _
 | l::ls,acc,h=>Nat.le_trans (zgO ls (acc.flatMap fun r=>l.map fun p=>r++ [p]) fun m hm=>h m (.tail _ hm)) (zjM (h l (.head _)) acc)
theorem zhb {fs:List Flt}{m:Nat}{w:zat}{row:List Int}:∀ n,∀ cs∈za9 fs w.gates (row.map some) n,cs.length≤1
 | 0=>fun cs hc=>by
  obtain ⟨i,h,e⟩:=List.mem_mapIdx.mp (show cs∈(row.map some).mapIdx _ from hc)
  rw [← e]
  refine zhT ?_
  rw [List.getElem_map]
  exact Nat.le_refl _
 | n+1=>fun cs hc=>by
  rw [za9] at hc
  have ih:=zhb (fs:=fs) (m:=m) (w:=w) (row:=row) n
  rcases List.mem_append.mp hc with hc | hc
  ·exact ih cs hc
  ·rw [List.mem_singleton.mp hc]
   refine zhT ?_
   split
   ·refine zhf ?_
    rw [List.length_map]
    refine zgO _ [[]] fun l hl=>?_
    obtain ⟨i,hi,e⟩:=List.mem_mapIdx.mp (show l∈List.mapIdx _ _ from hl)
    rw [← e]
    refine zhT ?_
    obtain ⟨l2,hl2,e2⟩:=List.mem_map.mp (List.getElem_mem hi)
    rw [← e2,List.getD_eq_getElem?_getD]
    cases hz:(za9 fs w.gates (row.map some) n)[l2.toNat]? with
    | none=>exact Nat.zero_le _
    | some c2=>exact ih c2 (List.mem_of_getElem? hz)
   ·exact Nat.zero_le _
theorem zjv {fs:List Flt}(fb:∀ f∈fs,f.worth=0∨f.worth=1){m:Nat}{w:zat}{row:List Int}(wf:WF m w)(hl:(row.length:Int)=w.ins)(b:Bits row){i:Nat}(hi:i < row.length+w.gates.length):
  (za9 fs w.gates (row.map some) w.gates.length).getD i []= [zb3 ((zcD w.gates row w.gates.length).getD i 0) ((zan fs w.gates row w.gates.length).getD i 0)]:=by
 have h1:=zgm fb wf hl (ks:=row.map some) (by rw [List.length_map]) b (fun o ho v hv=>by obtain ⟨n,hn,rfl⟩:=List.mem_map.mp ho;cases hv;exact b _ hn) (fun i v h=>by rw [List.getElem?_map] at h;cases hz:row[i]? with | none=>rw [hz] at h;cases h | some n=>rw [hz] at h;cases h;rfl) w.gates.length (Nat.le_refl _) i hi
 have h2:((za9 fs w.gates (row.map some) w.gates.length).getD i []).length≤1:=by
  rw [List.getD_eq_getElem?_getD]
  cases hz:(za9 fs w.gates (row.map some) w.gates.length)[i]? with
  | none=>exact Nat.zero_le _
  | some cs=>exact zhb (m:=m) _ cs (List.mem_of_getElem? hz)
 generalize (za9 fs w.gates (row.map some) w.gates.length).getD i []=cs at h1 h2
 match cs,h2,h1 with
 | [x],_,h=>rw [List.mem_singleton.mp h]
noncomputable def zj3 (w:zat) (fs:List Flt) (ks:List (Option Int)):Bool:=w.outs.all fun o=>((za9 fs w.gates ks w.gates.length).getD o.toNat []).all fun c=>decide (hiV c=loV c)
inductive Ppr where
 | same:Ppr
 | split:Int→Ppr→Ppr→Ppr
noncomputable def pprD:Ppr→Dat
 | .same=>.tuple [.str "same"]
 | .split i l h=>.tuple [.str "split",.int i,pprD l,pprD h]
noncomputable def zkx (w:zat) (fs:List Flt):List (Option Int)→Ppr→Bool
 | ks,.same=>zj3 w fs ks
 | ks,.split i l h=>decide (0≤i∧i < w.ins∧ks.getD i.toNat none=none) && (zkx w fs (ks.set i.toNat (some 0)) l && zkx w fs (ks.set i.toNat (some 1)) h)
noncomputable def zkI (ks:List (Option Int)):Prop:=∀ o∈ks,∀ b,o=some b→b=0∨b=1
theorem zkI.set {ks:List (Option Int)}(h:zkI ks){b:Int}(hb:b=0∨b=1)(i:Nat):zkI (ks.set i (some b)):=fun o ho v hv=>by
 rcases List.mem_or_eq_of_mem_set ho with z | z
 ·exact h o z v hv
 ·rw [z] at hv
  cases hv
  exact hb
theorem zof {a b:Int}(ha:a=0∨a=1)(hb:b=0∨b=1):hiV (zb3 a b)=loV (zb3 a b)↔a=b:=by
 rw [zdV ha hb,zdN ha hb]
noncomputable def zeY:List Int→Ppr
 | []=>.same
 | i::is=>.split i (zeY is) (zeY is)
theorem zin {fs:List Flt}(fb:∀ f∈fs,f.worth=0∨f.worth=1){m:Nat}{w:zat}(wf:WF m w)(never:∀ row:List Int,(row.length:Int)=w.ins→Bits row→zaQ w (zan fs w.gates row w.gates.length)=zaQ w (zcD w.gates row w.gates.length)):
  ∀ (is:List Int) (ks:List (Option Int)),(ks.length:Int)=w.ins→zkI ks→(∀ i∈is,0≤i∧i < w.ins∧ks.getD i.toNat none=none)→is.Nodup→(∀ i:Nat,i < ks.length→ks.getD i none=none→(i:Int)∈is)→zkx w fs ks (zeY is)=true
 | [],ks,lk,kb,_,_,al=>by
  have e:ks=(ks.map fun o=>o.getD 0).map some:=by
   refine List.ext_getElem? fun i=>?_
   rw [List.getElem?_map,List.getElem?_map]
   cases hz:ks[i]? with
   | none=>rfl
   | some o=>
    cases o with
    | some v=>rfl
    | none=>
     have:=al i (List.getElem?_eq_some_iff.mp hz).1 (by rw [List.getD_eq_getElem?_getD,hz];rfl)
     cases this
  have br:Bits (ks.map fun o=>o.getD 0):=fun v hv=>by
   obtain ⟨o,ho,rfl⟩:=List.mem_map.mp hv
   cases o with
   | none=>exact .inl rfl
   | some v=>exact kb _ ho v rfl
  have lr:(((ks.map fun o=>o.getD 0).length:Nat):Int)=w.ins:=by rw [List.length_map];exact lk
  generalize (ks.map fun o=>o.getD 0)=row at e br lr
  subst e
  have nv:=never row lr br
  refine List.all_eq_true.mpr fun o ho=>List.all_eq_true.mpr fun c hc=>?_
  obtain ⟨o0,o1⟩:=wf.outs o ho
  have hi:o.toNat < row.length+w.gates.length:=by omega
  rw [zjv fb wf lr br hi] at hc
  rw [List.mem_singleton.mp hc]
  have lV:=zd9 w.gates row w.gates.length
  have lS:=zbZ fs w.gates row w.gates.length
  have bV:=zbD (zeq wf lr br w.gates.length (Nat.le_refl _)) (i:=o.toNat) (by omega)
  have bS:=zbD (zcX fb wf lr br w.gates.length (Nat.le_refl _)) (i:=o.toNat) (by omega)
  refine decide_eq_true ((zof bV bS).mpr ?_)
  have:=(List.map_inj_left.mp nv) o ho
  exact this.symm
 | i::is,ks,lk,kb,ok,nd,al=>by
  obtain ⟨i0,i1,ik⟩:=ok i (.head _)
  obtain ⟨ni,nd'⟩:=List.nodup_cons.mp nd
  have rest:∀ b:Int,b=0∨b=1→zkx w fs (ks.set i.toNat (some b)) (zeY is)=true:=fun b hb=>by
   refine zin fb wf never is _ (by rw [List.length_set];exact lk) (kb.set hb _) (fun j hj=>?_) nd' (fun j hj hn=>?_)
   ·obtain ⟨j0,j1,jk⟩:=ok j (.tail _ hj)
    have ne:i.toNat≠j.toNat:=fun e=>ni (by rw [show i=j by omega];exact hj)
    refine ⟨j0,j1,?_⟩
    rw [List.getD_eq_getElem?_getD,List.getElem?_set_ne ne,← List.getD_eq_getElem?_getD]
    exact jk
   ·rw [List.length_set] at hj
    by_cases e:i.toNat=j
    ·subst e
     rw [List.getD_eq_getElem?_getD,List.getElem?_set_self hj] at hn
     cases hn
    ·rw [List.getD_eq_getElem?_getD,List.getElem?_set_ne e,← List.getD_eq_getElem?_getD] at hn
     rcases List.mem_cons.mp (al j hj hn) with z | z
     ·omega
     ·exact z
  show (decide (0≤i∧i < w.ins∧ks.getD i.toNat none=none) && (zkx w fs (ks.set i.toNat (some 0)) (zeY is) && zkx w fs (ks.set i.toNat (some 1)) (zeY is)))=true
  rw [rest 0 (.inl rfl),rest 1 (.inr rfl),decide_eq_true ⟨i0,i1,ik⟩]
  rfl
theorem zh1:∀ (r:List Int),Bits r→r∈zaI r.length
 | [],_=>List.mem_singleton.mpr rfl
 | x::r,b=>by
  have ih:=zh1 r fun n hn=>b n (.tail _ hn)
  rcases b x (.head _) with rfl | rfl
  ·exact List.mem_append.mpr (.inl (List.mem_map.mpr ⟨r,ih,rfl⟩))
  ·exact List.mem_append.mpr (.inr (List.mem_map.mpr ⟨r,ih,rfl⟩))
theorem zlg {m:Nat}{w:zat}(wf:WF m w){fs:List Flt}:zaG w fs []=none↔∀ row:List Int,(row.length:Int)=w.ins→Bits row→zaQ w (zan fs w.gates row w.gates.length)=zaQ w (zcD w.gates row w.gates.length):=by
 have i1:=wf.i1
 constructor
 ·intro h row hl b
  have hm:=zh1 row b
  rw [show row.length=w.ins.toNat by omega] at hm
  have:=List.find?_eq_none.mp h row hm
  rw [← ze4]
  by_cases e:zaQ w (zan fs w.gates row w.gates.length)=zaQ w (zan [] w.gates row w.gates.length)
  ·exact e
  ·exact absurd (decide_eq_true e) this
 ·intro h
  refine zgy fun row hl b=>?_
  rw [ze4]
  exact h row (by omega) b
noncomputable def sp_aa:Sp:=fun vs H Q _=>∃ (v:V) (cs:List Nat),vs= [v]∧PL H v cs∧cs.length≤16∧∀ H',Same H H'→Q (.bl (cs.all fun c=>decide (hiV c=loV c))) H'
noncomputable def sp_oal (K:PySem.W.Frag):Sp:=fun vs H Q _=>∃ (x:V) (d p:Addr) (w:zat) (fs:List Flt) (ks:List (Option Int)),vs= [x,.ref d,.ref p]∧Rep K H x (zbl w)∧WF 20 w∧H d=some (.dT (tabV fs))∧(∀ f∈fs,f.worth=0∨f.worth=1)∧H p=some (.lst (ks.map optV))∧(ks.length:Int)=w.ins∧zkI ks∧
 ∀ H',Same H H'→Q (.bl (zj3 w fs ks)) H'
noncomputable def pad (n:Nat) (bs:List Int):List (Option Int):=bs.map some++List.replicate n none
theorem zk4 (n:Nat)(bs:List Int):(pad n bs).length=bs.length+n:=by
 unfold pad
 rw [List.length_append,List.length_map,List.length_replicate]
theorem zj1 {n:Nat}{bs:List Int}(b:Bits bs):zkI (pad n bs):=fun o ho v hv=>by
 unfold pad at ho
 rcases List.mem_append.mp ho with h | h
 ·obtain ⟨z,hz,rfl⟩:=List.mem_map.mp h
  cases hv
  exact b _ hz
 ·rw [(List.mem_replicate.mp h).2] at hv
  cases hv
theorem ziy {bs:List Int}{b:Int}(h:Bits bs)(hb:b=0∨b=1):Bits (bs++ [b]):=fun z hz=>by
 rcases List.mem_append.mp hz with h' | h'
 ·exact h z h'
 ·rw [List.mem_singleton.mp h']
  exact hb
noncomputable def zdf (w:zat) (fs:List Flt):Nat→List Int→Ppr
 | 0,_=>.same
 | n+1,bs=>if zj3 w fs (pad (n+1) bs)=true then .same else .split bs.length (zdf w fs n (bs++ [0])) (zdf w fs n (bs++ [1]))
theorem zjp {fs:List Flt}(fb:∀ f∈fs,f.worth=0∨f.worth=1){m:Nat}{w:zat}(wf:WF m w)(nv:zaG w fs []=none){bs:List Int}(b:Bits bs)(hl:(bs.length:Int)=w.ins):zj3 w fs (pad 0 bs)=true:=by
 refine zin fb wf ((zlg wf).mp nv) [] (pad 0 bs) (by rw [zk4];exact hl) (zj1 b) (fun _ z=>nomatch z) List.nodup_nil (fun i hi hn=>?_)
 unfold pad at hn hi
 rw [List.replicate_zero,List.append_nil] at hn hi
 rw [List.length_map] at hi
 rw [List.getD_eq_getElem?_getD,List.getElem?_map,List.getElem?_eq_getElem hi] at hn
 cases hn
theorem zjh (bs:List Int):bs.map V.int=(bs.map some).map optV:=by
 rw [List.map_map]
 rfl
theorem zne (n:Nat):(List.replicate n [V.non]).flatten=(List.replicate n (none:Option Int)).map optV:=by
 rw [List.map_replicate]
 induction n with
 | zero=>rfl
 | succ n ih=>rw [List.replicate_succ,List.flatten_cons,ih,List.replicate_succ];rfl
noncomputable def zjO (K:PySem.W.Frag) (m:Nat):Sp:=fun vs H Q _=>∃ (x:V) (d p:Addr) (w:zat) (fs:List Flt) (bs:List Int) (n:Nat),vs= [x,.ref d,.ref p]∧Rep K H x (zbl w)∧WF 20 w∧H d=some (.dT (tabV fs))∧(∀ f∈fs,f.worth=0∨f.worth=1)∧zaG w fs []=none∧H p=some (.lst (bs.map V.int))∧Bits bs∧((bs.length+n:Nat):Int)=w.ins∧n < m∧
 ∀ (v:V) (H':Hp),Same H H'→Rep K H' v (pprD (zdf w fs n bs))→Q v H'
noncomputable def ToldAt (K:PySem.W.Frag) (H H':Hp) (w:zat) (fs:List Flt) (t:Addr):Prop:=
 (zaG w fs []=none∧∃ v,H' t=some (.tup [.str "paper",v])∧Rep K H' v (pprD (zdf w fs w.ins.toNat [])))∨
 ∃ row q,zaG w fs []=some row∧H' t=some (.tup [.str "row",.ref q])∧H q=none∧H' q=some (.lst (row.map V.int))
noncomputable def sp_tt (K:PySem.W.Frag):Sp:=fun vs H Q _=>∃ (x y:V) (w:zat) (fs:List Flt),vs= [x,y]∧Rep K H x (zbl w)∧WF 20 w∧Rep K H y (.list (fs.map fltD))∧(∀ f∈fs,zb2 w f)∧zcu fs∧fs.length≤1000∧
 ∀ (t:Addr) (H':Hp),Same H H'→H t=none→ToldAt K H H' w fs t→Q (.ref t) H'
noncomputable def sp_du (K:PySem.W.Frag):Sp:=fun vs H Q _=>∃ (x y:V) (w:zat) (fs:List Flt),vs= [x,y]∧Rep K H x (zbl w)∧WF 20 w∧Rep K H y (.list (fs.map fltD))∧(∀ f∈fs,zb2 w f)∧zcu fs∧fs.length≤1000∧
 ∀ (v:V) (H':Hp),Same H H'→zfg H' (zaG w fs []) v→Q v H'
noncomputable def sp_paT (K:PySem.W.Frag):Sp:=fun vs H Q _=>∃ (x y z:V) (w:zat) (fs gs:List Flt),vs= [x,y,z]∧Rep K H x (zbl w)∧WF 20 w∧Rep K H y (.list (fs.map fltD))∧(∀ f∈fs,zb2 w f)∧zcu fs∧fs.length≤1000∧Rep K H z (.list (gs.map fltD))∧(∀ f∈gs,zb2 w f)∧zcu gs∧gs.length≤1000∧
 ∀ (v:V) (H':Hp),Same H H'→zgX H H' (zaG w fs gs) v→Q v H'
noncomputable def sp_mw (K:PySem.W.Frag):Sp:=fun vs H Q _=>∃ (i:Int) (x y:V) (a b:zat),vs= [.int i,x,y]∧Rep K H x (zbl a)∧Rep K H y (zbl b)∧Q (.int (mv2 a b i)) H
noncomputable def sp_tg (K:PySem.W.Frag):Sp:=fun vs H Q _=>∃ (x y:V) (a b:zat),vs= [x,y]∧Rep K H x (zbl a)∧WF 20 a∧Rep K H y (zbl b)∧WF 20 b∧∀ (r:Addr) (H':Hp),Same H H'→Rep K H' (.ref r) (zbl (zce a b))→Q (.ref r) H'
noncomputable def mvF (c:Bool) (a b:zat):Flt→Flt:=if c=true then mvF2 a b else mvF1 a b
noncomputable def sp_mvd (K:PySem.W.Frag):Sp:=fun vs H Q _=>∃ (x y z:V) (a b:zat) (fs:List Flt) (c:Bool),vs= [x,y,z,.bl c]∧Rep K H x (zbl a)∧Rep K H y (zbl b)∧Rep K H z (.list (fs.map fltD))∧(∀ f∈fs,zb2 (if c=true then b else a) f)∧fs.length≤1000∧∀ (r:Addr) (us:List V) (H':Hp),Same H H'→H' r=some (.lst us)→Reps K H' us ((fs.map (mvF c a b)).map fltD)→Q (.ref r) H'
noncomputable def zoD (K:PySem.W.Frag):Sp:=fun vs H Q _=>∃ (x y z u:V) (a b:zat) (fs gs:List Flt),vs= [x,y,z,u]∧Rep K H x (zbl a)∧WF 20 a∧Rep K H y (zbl b)∧WF 20 b∧Rep K H z (.list (fs.map fltD))∧(∀ f∈fs,zb2 a f)∧zcu fs∧fs.length≤1000∧Rep K H u (.list (gs.map fltD))∧(∀ f∈gs,zb2 b f)∧zcu gs∧gs.length≤1000∧
 ∀ (v:V) (H':Hp),Same H H'→zfg H' (dueV a.ins.toNat b.ins.toNat (zaG a fs []) (zaG b gs [])) v→Q v H'
theorem zoz (a b:zat)(l:Int):l+b.ins * (if decide (a.ins≤l)=true then (1:Int) else 0)=mv1 a b l:=by
 unfold mv1
 by_cases c:a.ins≤l
 ·rw [if_pos c,if_pos (decide_eq_true c)]
 ·rw [if_neg c,if_neg (by rw [decide_eq_false c];decide)]
noncomputable def ug1 (a b:zat) (g:Str×List Int):Str×List Int:=(g.1,g.2.map (mv1 a b))
noncomputable def ug2 (a b:zat) (g:Str×List Int):Str×List Int:=(g.1,g.2.map (mv2 a b))
theorem zll {b:zat}(i1: 1≤b.ins)(i6:b.ins≤6)(j:Int):CMul b.ins j:=.inl ⟨by omega,by omega⟩
theorem zeG:∀ n:Nat,(List.replicate n [V.int 0]).flatten=(List.replicate n (0:Int)).map V.int
 | 0=>rfl
 | n+1=>by
  rw [List.replicate_succ,List.flatten_cons,zeG n]
  rfl
theorem zjB {q:Addr}{A B:Prop}(h:A):if (!decide (V.ref q=V.non))=true then A else B:=by
 rw [if_pos (by simp)]
 exact h
theorem isNone {A B:Prop}(h:B):if (!decide (V.non=V.non))=true then A else B:=by
 rw [if_neg (by simp)]
 exact h
theorem zgX.at {H H':Hp}{o:Option (List Int)}{v:V}(h:zgX H H' o v):zfg H' o v:=by
 unfold zgX at h
 unfold zfg
 cases o with
 | none=>exact h
 | some row=>
  obtain ⟨q,a,_,c⟩:=h
  exact ⟨q,a,c⟩
theorem zm3 (xs:List V)(hi:Option Int):cutV xs none hi=cutV xs (some 0) hi:=by
 unfold cutV
 simp [HT.sIx]
theorem zol (xs:List V)(lo:Option Int):cutV xs lo none=cutV xs lo (some (xs.length:Int)):=by
 unfold cutV
 have:HT.sIx xs.length xs.length (some (xs.length:Int))=xs.length:=by
  rw [HT.sIx_nat,Nat.min_self]
 rw [this]
 rfl
theorem zm7 (ns:List Int){h:Int}(h1: 1≤h)(l:ns.length≤63):∃ ms:List Int,cutV (ns.map V.int) (some h) none=ms.map V.int∧ms.length≤62:=by
 obtain ⟨k,rfl⟩:∃ k:Nat,h=k:=⟨h.toNat,by omega⟩
 refine ⟨ns.drop (min k ns.length),?_,by rw [List.length_drop];omega⟩
 unfold cutV
 rw [HT.sIx_nat,HT.sIx_none,List.length_map,List.map_drop,List.take_of_length_le]
 rw [List.length_drop,List.length_map]
 omega
noncomputable def rowO:Option (List Int)→Dat
 | none=>.none
 | some r=>.list (r.map .int)
theorem zfg.rep {K:PySem.W.Frag}{H:Hp}{o:Option (List Int)}{v:V}(h:zfg H o v):Rep K H v (rowO o):=by
 unfold zfg at h
 cases o with
 | none=>subst h;exact .non
 | some row=>
  obtain ⟨q,rfl,c⟩:=h
  exact .lst (.of c) (Reps.ints _)
theorem zdM (o:Option (List Int)):kqdOk 8 (rowO o)=true:=by
 cases o with
 | none=>rfl
 | some r=>exact zf4 r
section
variable {P:Program} {w:World} {K:PySem.W.Frag} {mg:Str→Option Value} {base:Heap} {t:Adr}
theorem zcd:zay ["kind","worths","ones","told","worth"] ["kind","worths","ones"] (zah zb5):=⟨rfl,rfl,rfl,by decide+kernel,rfl,by decide+kernel,by decide+kernel⟩
theorem zeh (T:Txt K mg t):FnOk P w K mg base CX0 1 t.f_gate_worth t.fd_gate_worth ["kind","worths","ones"] (sp_gwI K):=by
 refine T.d_gate_worth.F.okB zcd (fun vs H Q E h=>?_) (fun cdv A outer s H vs Q E hr h=>?_)
 ·obtain ⟨x,p,ns,o,rfl,_⟩:=h
  rfl
 obtain ⟨x,p,ns,o,rfl,hS,lk,q⟩:=h
 refine ⟨_,(zad (zbd (zaA zc3 (bpv 0) zav (za1 _)) (zag (zaq (zak zjW (bpv 2) (zao zaN (bpv 1) zaf (fun _ _=>rfl))))) zaF)
  (zad (zbd (zaA zc3 (bpv 0) zav (za1 _)) (zag (zaq (zak zoA (zak zjG (zao zaN (bpv 1) zaf (fun _ _=>rfl)) (zao zaN (bpv 1) zaf (fun _ _=>rfl))) (zak zjG (zak zjW (bpv 2) (zao zaN (bpv 1) zaf (fun _ _=>rfl))) (zao zaN (bpv 1) zaf (fun _ _=>rfl)))))) zaF)
  (zad (zaj (k:=3) zcd.nd rfl (Or.inl rfl) (zhY (zaA zi2 (bpv 0) (zaB (zaa zav (zaa zav (zac)))) rfl) (bpv 2) zaf))
  (zad (zaS PassesOwn.never rfl (zaD (bpv 1)) (zai (k:=4) zcd.nd rfl (Or.inl rfl)) (zag (zbd (zaA zc3 (bpv 0) zav (za1 _)) (zag (zaj (k:=3) zcd.nd rfl (Or.inl rfl) (zak zjG (bpv 3) (bpv 4)))) (zag (zbd (zaA zc3 (bpv 0) zav (za1 _)) (zag (zaj (k:=3) zcd.nd rfl (Or.inl rfl) (zak zoA (bpv 3) (bpv 4)))) (zag (zaj (k:=3) zcd.nd rfl (Or.inl rfl) (zak zjW (bpv 3) (bpv 4)))))))))
  (zag (zaq (bpv 3))))))),?_⟩
 by_cases hn:x="not"
 ·subst hn
  have l1:=zmy lk
  refine ⟨_,rfl,rfl,_,rfl,ifY rfl ⟨_,rfl,_,rfl,p,_,0,_,rfl,rfl,hS,zb1 (Int.le_refl 0) (by omega),_,_,rfl,rfl,?_⟩⟩
  rw [gi_not] at q
  exact q H (.refl H)
 refine ⟨_,rfl,rfl,_,rfl,ifN hn ?_⟩
 by_cases hc:x="choose"
 ·subst hc
  have l1:=zju lk
  refine ⟨_,rfl,rfl,_,rfl,ifY rfl ?_⟩
  rw [zlG] at q
  exact ⟨_,rfl,p,_,0,_,rfl,rfl,hS,zb1 (Int.le_refl 0) (by omega),_,rfl,p,_,1,_,rfl,rfl,hS,zb1 (by decide) (by omega),_,_,rfl,rfl,_,rfl,_,rfl,p,_,0,_,rfl,rfl,hS,zb1 (Int.le_refl 0) (by omega),_,_,rfl,rfl,
   _,rfl,p,_,2,_,rfl,rfl,hS,zb1 (by decide) (by omega),_,_,rfl,rfl,_,_,rfl,rfl,q H (.refl H)⟩
 refine ⟨_,rfl,rfl,_,rfl,ifN hc ?_⟩
 rw [znD hn hc] at q
 refine ⟨_,rfl,(by show 2≤sizeLine;decide),fun T1 h1=>⟨T1,_,rfl,.inr (.of zab),rfl,rfl,?_⟩⟩
 have s1:=zae h1 (.tup [.str "and",.str "one"])
 refine ⟨_,rfl,?_⟩
 have hin:(if false=true then !inV (V.str x) [.str "and",.str "one"] else inV (V.str x) [.str "and",.str "one"])=decide (x="and"∨x="one"):=in_two x "and" "one"
 rw [hin]
 generalize hf:(fun a b:Int=>if x="and" then Builtin.bitAnd a b else if x="or" then Builtin.bitOr a b else Builtin.bitXor a b)=f at q
 have hf1:x="and"→∀ a b,f a b=Builtin.bitAnd a b:=fun e a b=>by rw [← hf];exact if_pos e
 have hf2:x≠"and"→x="or"→∀ a b,f a b=Builtin.bitOr a b:=fun e e2 a b=>by rw [← hf];show (if x="and" then _ else _)=_;rw [if_neg e,if_pos e2]
 have hf3:x≠"and"→x≠"or"→∀ a b,f a b=Builtin.bitXor a b:=fun e e2 a b=>by rw [← hf];show (if x="and" then _ else _)=_;rw [if_neg e,if_neg e2]
 refine ite2 (fun c=>?_) (fun c=>?_)
 ·rw [if_pos (of_decide_eq_true c)] at q
  refine ⟨_,rfl,?_⟩
  refine ⟨_,rfl,p,rfl,⟨_,s1.seq hS⟩,zbN (K:=K) (a:=p) (xs:=ns.map V.int)
   (fun i σ H3=>∃ o4:Option V,σ = [some (.str x),some (.ref p),some (.int o),some (.int ((ns.take i).foldl f o)),o4]∧Same H H3) ⟨_,rfl,s1⟩ (fun i σ H3 _ ⟨_,_,s3⟩=>s3.seq hS) ?_ ?_⟩
  ·rintro i y σ H3 hy ⟨o4,rfl,s3⟩
   rw [List.getElem?_map] at hy
   cases hz:ns[i]? with
   | none=>rw [hz] at hy;cases hy
   | some n=>
    rw [hz] at hy
    cases hy
    have ef:(ns.take (i+1)).foldl f o=f ((ns.take i).foldl f o) n:=by rw [List.take_add_one,hz];show (ns.take i++ [n]).foldl f o=_;rw [List.foldl_append];rfl
    rw [ef]
    refine ⟨_,rfl,rfl,_,rfl,?_⟩
    by_cases e1:x="and"
    ·rw [hf1 e1]
     exact ifY e1 ⟨_,rfl,_,rfl,_,_,rfl,rfl,_,rfl,s3⟩
    ·refine ifN e1 ⟨_,rfl,rfl,_,rfl,?_⟩
     by_cases e2:x="or"
     ·rw [hf2 e1 e2]
      exact ifY e2 ⟨_,rfl,_,rfl,_,_,rfl,rfl,_,rfl,s3⟩
     ·rw [hf3 e1 e2]
      exact ifN e2 ⟨_,rfl,_,rfl,_,_,rfl,rfl,_,rfl,s3⟩
  ·rintro σ H3 ⟨o4,rfl,s3⟩
   have et:ns.take (ns.map V.int).length=ns:=by rw [List.length_map,List.take_length]
   rw [et]
   exact ⟨_,rfl,q H3 s3⟩
 ·rw [if_neg (fun z=>c (decide_eq_true z))] at q
  refine ⟨_,rfl,p,rfl,⟨_,s1.seq hS⟩,zbN (K:=K) (a:=p) (xs:=ns.map V.int)
   (fun i σ H3=>∃ o4:Option V,σ = [some (.str x),some (.ref p),some (.int o),some (.int ((ns.take i).foldl f 0)),o4]∧Same H H3) ⟨_,rfl,s1⟩ (fun i σ H3 _ ⟨_,_,s3⟩=>s3.seq hS) ?_ ?_⟩
  ·rintro i y σ H3 hy ⟨o4,rfl,s3⟩
   rw [List.getElem?_map] at hy
   cases hz:ns[i]? with
   | none=>rw [hz] at hy;cases hy
   | some n=>
    rw [hz] at hy
    cases hy
    have ef:(ns.take (i+1)).foldl f 0=f ((ns.take i).foldl f 0) n:=by rw [List.take_add_one,hz];show (ns.take i++ [n]).foldl f 0=_;rw [List.foldl_append];rfl
    rw [ef]
    refine ⟨_,rfl,rfl,_,rfl,?_⟩
    by_cases e1:x="and"
    ·rw [hf1 e1]
     exact ifY e1 ⟨_,rfl,_,rfl,_,_,rfl,rfl,_,rfl,s3⟩
    ·refine ifN e1 ⟨_,rfl,rfl,_,rfl,?_⟩
     by_cases e2:x="or"
     ·rw [hf2 e1 e2]
      exact ifY e2 ⟨_,rfl,_,rfl,_,_,rfl,rfl,_,rfl,s3⟩
     ·rw [hf3 e1 e2]
      exact ifN e2 ⟨_,rfl,_,rfl,_,_,rfl,rfl,_,rfl,s3⟩
  ·rintro σ H3 ⟨o4,rfl,s3⟩
   have et:ns.take (ns.map V.int).length=ns:=by rw [List.length_map,List.take_length]
   rw [et]
   exact ⟨_,rfl,q H3 s3⟩
theorem zeM (T:Txt K mg t):FnOk P w K mg base CX0 1 t.f_gate_worth t.fd_gate_worth ["kind","worths","ones"] (sp_gw K):=(zeh T).imp fun vs H Q E ⟨x,p,ns,e,hS,b,lk,q⟩=>⟨x,p,ns,1,e,hS,lk,by rw [ziG b lk];exact q⟩
theorem zc8:zay ["works","rows","place"] ["works"] (zah zco):=⟨rfl,rfl,rfl,by decide+kernel,rfl,by decide+kernel,by decide+kernel⟩
theorem ziO (T:Txt K mg t):FnOk P w K mg base CX0 1 t.f_every_row t.fd_every_row ["works"] (sp_er K):=by
 refine T.d_every_row.F.okB zc8 (fun vs H Q E h=>?_) (fun cdv A outer s H vs Q E hr h=>?_)
 ·obtain ⟨a,ga,oa,i,rfl,_⟩:=h
  rfl
 obtain ⟨a,ga,oa,i,rfl,ha,i0,i6,q⟩:=h
 refine ⟨_,(zad (zaj (k:=1) zc8.nd rfl (Or.inl rfl) (zax (zaa (zax zac) (zac))))
  (zad (zaS PassesOwn.never rfl (zaZ rfl T.z_range (zaa (zao zaC (bpv 0) zaf (fun _ _=>rfl)) (zac))) (zai (k:=2) zc8.nd rfl (Or.inl rfl)) (zag (zaj (k:=1) zc8.nd rfl (Or.inl rfl) (zak zcO (zaV rfl (N:=["row"]) (n:=1) (cap:=[]) (zbG rfl rfl) (zaD (bpv 1)) (zaL (by decide)) (fun _ _ _ _=>(zai (k:=0) (show (["row"]:List Str).Nodup by decide+kernel) rfl (Or.inl rfl))) (fun _ _ _ _=>zaJ) (fun _ _ _ _=>(zak zcO (zax (zaa zaf (zac))) (bpv 0)))) (zaV rfl (N:=["row"]) (n:=1) (cap:=[]) (zbG rfl rfl) (zaD (bpv 1)) (zaL (by decide)) (fun _ _ _ _=>(zai (k:=0) (show (["row"]:List Str).Nodup by decide+kernel) rfl (Or.inl rfl))) (fun _ _ _ _=>zaJ) (fun _ _ _ _=>(zak zcO (zax (zaa zaf (zac))) (bpv 0))))))))
  (zag (zaq (bpv 1))))),?_⟩
 refine ⟨(by show 0≤sizeLine;decide),fun e0 he0=>⟨(by show 1≤sizeLine;decide),fun R0 hR0=>?_⟩⟩
 have s0:Same H (upd H e0 (.lst [])):=zae he0 _
 have start:Rows H R0 [e0] (zaI 0) (upd (upd H e0 (.lst [])) R0 (.lst [.ref e0])):=by
  have ne:e0≠R0:=zap zab hR0
  refine ⟨s0.upd hR0 _,s0.free hR0,zab,.cons (by rw [zam ne,zab];rfl) .nil,List.nodup_cons.mpr ⟨(fun z=>nomatch z),List.nodup_nil⟩,fun z hz=>?_⟩
  rw [List.mem_singleton.mp hz]
  exact ⟨he0,ne⟩
 refine ⟨_,rfl,a,_,_,_,rfl,rfl,start.same.seqT ha,rfl,_,rfl,by omega,by omega,zcb (fun j σ H3=>∃ (R:Addr) (qs:List Addr) (o2:Option V),σ = [some (.ref a),some (.ref R),o2]∧Rows H R qs (zaI j) H3) ⟨_,_,_,rfl,start⟩ ?_ ?_⟩
 ·rintro i σ H3 hi ⟨R,qs,o2,rfl,rw3⟩
  have few:(zaI i).length≤64:=zj0 (by omega)
  have lq:=rw3.rows.len
  have comp:∀ (c:Int) (Ha:Hp) (D:Addr) (j:Nat) (x:V) (H4:Hp),Same H3 Ha→(qs.map V.ref)[j]? =some x→(∃ ps,Rows Ha D ps (((zaI i).take j).map (c:: ·)) H4)→∃ (q:Addr) (row:List Int) (ps:List Addr),x= .ref q∧H4 q=some (.lst (row.map V.int))∧row.length=i∧Rows Ha D ps (((zaI i).take j).map (c:: ·)) H4∧ps.length≤64∧(∀ (T r':Addr) (vs:List V),H4 T=none→(upd H4 T (.lst [.int c])) r'=none→vs= .int c::row.map V.int→Rows Ha D (ps++ [r']) (((zaI i).take (j+1)).map (c:: ·)) (upd (upd (upd H4 T (.lst [.int c])) r' (.lst vs)) D (.lst (ps.map V.ref++ [.ref r'])))):=by
   rintro c Ha D j x H4 sa hx ⟨ps,rw4⟩
   rw [List.getElem?_map] at hx
   cases hz:qs[j]? with
   | none=>rw [hz] at hx;cases hx
   | some q=>
    rw [hz] at hx
    cases hx
    obtain ⟨row,hrow,hq⟩:=rw3.rows.get hz
    have lp:=rw4.rows.len
    refine ⟨q,row,ps,rfl,rw4.same _ _ (sa _ _ hq),(zar i row (List.mem_of_getElem? hrow)).1,rw4,?_,fun T r' vs hT hr' e=>?_⟩
    ·rw [lp,List.length_map,List.length_take]
     omega
    ·rw [zhR _ hrow]
     exact rw4.push hT hr' e
  refine ⟨_,rfl,R,rfl,⟨_,rw3.sq⟩,fun D hD=>zba (K:=K) (a:=R) (xs:=qs.map V.ref) (fun j H4=>∃ ps,Rows H3 D ps (((zaI i).take j).map (0:: ·)) H4) ⟨[],Rows.start (Same.refl _) hD⟩ (fun j H4 _ ⟨ps,z⟩=>z.same.seq rw3.sq) ?_ ?_⟩
  ·intro j x H4 hx h4
   obtain ⟨q,row,ps,rfl,hq,lr,rw4,lp,push⟩:=comp 0 H3 D j x H4 (Same.refl _) hx h4
   refine ⟨(by show 1≤sizeLine;decide),fun T hT=>⟨_,rfl,T,q,_,_,rfl,rfl,zab,by rw [zam (zap hq hT)];exact hq,bigE (by rw [List.length_singleton,List.length_map];omega),fun r' hr'=>?_⟩⟩
   have eD:(upd (upd H4 T (.lst [.int 0])) r' (.lst ([.int 0]++row.map V.int))) D=some (.lst (ps.map V.ref)):=(((zae hT _).upd hr' _) _ _ rw4.at_)
   exact ⟨_,eD,big (by rw [List.length_map];omega),_,push T r' _ hT hr' rfl⟩
  rintro H4 ⟨ps,rw4⟩
  have et:(zaI i).take (qs.map V.ref).length=zaI i:=by rw [List.length_map,lq,List.take_length]
  rw [et] at rw4
  refine ⟨_,rfl,R,rfl,⟨_,rw4.same.seq rw3.sq⟩,fun D2 hD2=>zba (K:=K) (a:=R) (xs:=qs.map V.ref) (fun j H5=>∃ ps',Rows H4 D2 ps' (((zaI i).take j).map (1:: ·)) H5) ⟨[],Rows.start (Same.refl _) hD2⟩ (fun j H5 _ ⟨ps',z⟩=>(rw4.same.trans z.same).seq rw3.sq) ?_ ?_⟩
  ·intro j x H5 hx h5
   obtain ⟨q,row,ps',rfl,hq,lr,rw5,lp,push⟩:=comp 1 H4 D2 j x H5 rw4.same hx h5
   refine ⟨(by show 1≤sizeLine;decide),fun T hT=>⟨_,rfl,T,q,_,_,rfl,rfl,zab,by rw [zam (zap hq hT)];exact hq,bigE (by rw [List.length_singleton,List.length_map];omega),fun r' hr'=>?_⟩⟩
   have eD:(upd (upd H5 T (.lst [.int 1])) r' (.lst ([.int 1]++row.map V.int))) D2=some (.lst (ps'.map V.ref)):=(((zae hT _).upd hr' _) _ _ rw5.at_)
   exact ⟨_,eD,big (by rw [List.length_map];omega),_,push T r' _ hT hr' rfl⟩
  rintro H5 ⟨ps',rw5⟩
  rw [et] at rw5
  have l1:=rw4.rows.len
  have l2:=rw5.rows.len
  rw [List.length_map] at l1 l2
  refine ⟨D,D2,_,_,rfl,rfl,rw5.same _ _ rw4.at_,rw5.at_,bigE (by rw [List.length_map,List.length_map];omega),fun R' hR'=>?_⟩
  have c:=rw4.cat rw5 hR'
  exact ⟨R',ps++ps',_,rfl,⟨rw3.same.trans c.same,rw3.same.free c.out,c.at_,c.rows,c.nd,fun q hq=>⟨rw3.same.free (c.new q hq).1,(c.new q hq).2⟩⟩⟩
 ·rintro σ H3 ⟨R,qs,o2,rfl,rw3⟩
  exact ⟨_,rfl,q R qs H3 rw3⟩
theorem zbw:zay ["works","places","faults","place","gate","body","leg"] ["works"] (zah zbU):=⟨rfl,rfl,rfl,by decide+kernel,rfl,by decide+kernel,by decide+kernel⟩
theorem zg3 (T:Txt K mg t):FnOk P w K mg base CX0 1 t.f_every_fault t.fd_every_fault ["works"] (zlW K):=by
 refine T.d_every_fault.F.okB zbw (fun vs H Q E h=>?_) (fun cdv A outer s H vs Q E hr h=>?_)
 ·obtain ⟨x,w,rfl,_⟩:=h
  rfl
 obtain ⟨x,w,rfl,hx,wf,q⟩:=h
 obtain ⟨a,ga,oa,gs,os,rfl,ha,hg,ho,rg,ro⟩:=za2 hx
 have lg:gs.length=w.gates.length:=by rw [rg.length,List.length_map]
 have i1:=wf.i1
 have i6:=wf.i6
 have few:=wf.few
 refine ⟨_,(zad (zfV (k:=1) rfl (N:=["wire"]) (n:=1) (cap:=[]) (zbG rfl rfl) zbw.nd rfl rfl (zaZ rfl T.z_range (zaa (zak zbc (zao zaC (bpv 0) zaf (fun _ _=>rfl)) (zaE zaz rfl T.z_len PySem.boot_len (zaa (zao zaC (bpv 0) zaf (fun _ _=>rfl)) (zac)))) (zac))) (zaL (by decide)) (fun _ _ _ _=>(zai (k:=0) (show (["wire"]:List Str).Nodup by decide+kernel) rfl (Or.inl rfl))) (fun _ _ _ _=>zaJ) (fun _ _ _ _=>(zaB (zaa zav (zaa (bpv 0) (zac))))) rfl)
  (zad (zaS PassesOwn.never rfl (zdz rfl T.z_enumerate (zaa (zao zaC (bpv 0) zaf (fun _ _=>rfl)) (zac))) (zcY rfl (zas (zai (k:=4) zbw.nd rfl (Or.inl rfl)) (zas (zai (k:=5) zbw.nd rfl (Or.inl rfl)) zbq))) (zag (zaS PassesOwn.never rfl (zaZ rfl T.z_range (zaa (zaE zaz rfl T.z_len PySem.boot_len (zaa (zao zaC (bpv 5) zaf (fun _ _=>rfl)) (zac))) (zac))) (zai (k:=6) zbw.nd rfl (Or.inl rfl)) (zag (zaR (zb4 PySem.F.plainAttrs_list PySem.F.slot_list_append PySem.F.type_list_append zaM (bpv 1) (zaa (zaB (zaa zav (zaa (bpv 4) (zaa (bpv 6) (zac))))) (zac))))))))
  (zad (zaj (k:=2) zbw.nd rfl (Or.inl rfl) (zax zac))
  (zad (zaS PassesOwn.never rfl (zaD (bpv 1)) (zai (k:=3) zbw.nd rfl (Or.inl rfl)) (zad (zaR (zb4 PySem.F.plainAttrs_list PySem.F.slot_list_append PySem.F.type_list_append zaM (bpv 2) (zaa (zak zi7 (bpv 3) (zaB (zaa zaf (zac)))) (zac))))
  (zag (zaR (zb4 PySem.F.plainAttrs_list PySem.F.slot_list_append PySem.F.type_list_append zaM (bpv 2) (zaa (zak zi7 (bpv 3) (zaB (zaa zaf (zac)))) (zac)))))))
  (zag (zaq (bpv 2))))))),?_⟩
 refine ⟨_,rfl,a,_,_,_,rfl,rfl,ha,rfl,_,rfl,a,_,_,_,rfl,rfl,ha,rfl,ga,_,rfl,.inl hg,_,_,rfl,rfl,_,rfl,by omega,by omega,fun pl hpl=>?_⟩
 refine zd6 (fun i H2=>∃ xs,Bld K H pl xs ((zdb i).map .tuple) H2) ⟨[],.start hpl⟩ ?_ ?_
 ·rintro i H2 hi ⟨xs,b⟩
  rw [Int.zero_add]
  have lx:=b.len
  rw [List.length_map,zd5] at lx
  refine ⟨_,rfl,(by show 2≤sizeLine;decide),fun T1 h1=>⟨xs,(b.new h1 _).at_,big (by omega),xs++ [.ref T1],?_⟩⟩
  have:=b.pushT (es:=[.str "wire",.int i]) h1 (.cons (.str _) (.cons (.int _) .nil))
  simpa [zdb,zlk] using this
 rintro H2 ⟨xs,b⟩
 have e2:(w.ins+(gs.length:Int)).toNat=w.ins.toNat+w.gates.length:=by omega
 rw [e2] at b
 refine ⟨_,rfl,a,_,_,_,rfl,rfl,b.same.seqT ha,rfl,ga,rfl,⟨_,b.same.seq hg⟩,zf7 (K:=K) (a:=ga) (xs:=gs)
  (fun i σ H2=>∃ (xs:List V) (o1 o2 o3 o4 o5:Option V),σ = [some (.ref a),some (.ref pl),o1,o2,o3,o4,o5]∧Bld K H pl xs ((zdb (w.ins.toNat+w.gates.length)++zc7 w.gates i).map .tuple) H2)
  ⟨xs,_,_,_,_,_,rfl,by simpa [zc7] using b⟩ (fun i σ H2 _ ⟨_,_,_,_,_,_,_,b⟩=>b.same.seq hg) ?_ ?_⟩
 ·rintro i x σ H2 T1 hx ⟨xs,o1,o2,o3,o4,o5,rfl,b⟩ h1
  have hi:i < gs.length:=(List.getElem?_eq_some_iff.mp hx).1
  obtain ⟨g,hgk⟩:∃ g,w.gates[i]? =some g:=⟨_,List.getElem?_eq_getElem (by omega)⟩
  obtain ⟨d,hd,rv⟩:=rg.get hx
  rw [List.getElem?_map,hgk] at hd
  cases hd
  obtain ⟨a1,la,rfl,hA,hL⟩:=zel rv
  have lk:=(wf.legs i g hgk).1.le
  have ll:((g.2.map V.int).length:Int)=g.2.length:=by rw [List.length_map]
  have b':=b.new h1 (.tup [.int i,.ref a1])
  refine ⟨T1,_,rfl,.of zab,rfl,_,_,rfl,_,_,rfl,rfl,?_⟩
  refine ⟨_,rfl,a1,_,_,_,rfl,rfl,b'.same.seqT hA,rfl,la,_,rfl,.inr (b'.same.seqT hL),_,rfl,by omega,by omega,?_⟩
  refine zcb (fun j σ H3=>∃ (xs:List V) (o1 o2 o5:Option V),σ = [some (.ref a),some (.ref pl),o1,o2,some (.int i),some (.ref a1),o5]∧
   Bld K H pl xs ((zdb (w.ins.toNat+w.gates.length)++zc7 w.gates i++ze6 i j).map .tuple) H3) ⟨xs,_,_,_,rfl,by simpa [ze6] using b'⟩ ?_ ?_
  ·rintro j σ H3 hj ⟨xs,o1,o2,o5,rfl,b⟩
   rw [Int.zero_add]
   have lx:=b.len
   have g1:=ze1 wf i
   rw [List.length_map,List.length_append,List.length_append,zgH,zd5] at lx
   refine ⟨_,rfl,.inl ⟨rfl,_,b.sq⟩,_,rfl,_,rfl,(by show 3≤sizeLine;decide),fun T2 h2=>?_⟩
   refine ⟨pl,xs,_,rfl,rfl,(b.new h2 _).at_,big (by omega),xs++ [.ref T2],_,_,_,rfl,?_⟩
   have:=b.pushT (es:=[.str "leg",.int i,.int j]) h2 (.cons (.str _) (.cons (.int _) (.cons (.int _) .nil)))
   simpa [ze6,legP] using this
  ·rintro σ H3 ⟨xs,o1,o2,o5,rfl,b⟩
   have e3:((g.2.map V.int).length:Int).toNat=g.2.length:=by omega
   rw [e3] at b
   exact ⟨xs,_,_,_,_,_,rfl,by simpa [zc7,hgk,List.append_assoc] using b⟩
 rintro σ H2 ⟨xs,o1,o2,o3,o4,o5,rfl,b⟩
 rw [lg] at b
 have lp:(zbF w).length≤200:=by
  have g1:=ze1 wf w.gates.length
  unfold zbF
  rw [List.length_append,zd5]
  omega
 have rp:Reps K H2 xs ((zbF w).map .tuple):=b.reps
 refine ⟨(by show 0≤sizeLine;decide),fun f hf=>?_⟩
 have s1:Same H2 (upd H2 f (.lst [])):=zae hf _
 refine ⟨_,rfl,pl,rfl,⟨_,s1.seq b.sq⟩,zbN (K:=K) (a:=pl) (xs:=xs)
  (fun i σ H3=>∃ (ys:List V) (o2 o3 o4 o5:Option V),σ = [some (.ref a),some (.ref pl),some (.ref f),o2,o3,o4,o5]∧Bld K H2 f ys (zef ((zbF w).take i)) H3)
  ⟨[],_,_,_,_,rfl,.start hf⟩ (fun i σ H3 _ ⟨_,_,_,_,_,_,b3⟩=>b3.same.seq b.sq) ?_ ?_⟩
 ·rintro i x σ H3 hx ⟨ys,o2,o3,o4,o5,rfl,b3⟩
  obtain ⟨d,hd,rx⟩:=rp.get hx
  rw [List.getElem?_map] at hd
  cases hp:(zbF w)[i]? with
  | none=>rw [hp] at hd;cases hd
  | some p=>
   rw [hp] at hd
   cases hd
   cases rx with
   | @tup a1 vs _ h1 r1=>
    have hi:i < (zbF w).length:=(List.getElem?_eq_some_iff.mp hp).1
    have et:(zbF w).take (i+1)=(zbF w).take i++ [p]:=by
     rw [List.take_add_one,hp]
     rfl
    have pne:vs≠[]:=by
     intro z
     subst z
     cases r1
     exact zl5 hp
    have lv:vs.length≤3:=by
     rw [r1.length]
     exact zk9 hp
    have ly:=b3.len
    rw [ziP,List.length_take] at ly
    refine ⟨_,rfl,.inl ⟨rfl,_,b3.sq⟩,_,rfl,(by show 1≤sizeLine;decide),fun T1 n1=>?_⟩
    have c1:=b3.new n1 (.tup [.int 0])
    refine ⟨a1,T1,vs,_,rfl,rfl,c1.same.seqT h1,.of zab,pne,bigE (by simp;omega),(fun z=>nomatch z),fun _ T2 n2=>?_⟩
    have c2:=c1.pushT n2 (r1.snoc (.int 0))
    refine ⟨f,ys,_,rfl,rfl,(c1.new n2 _).at_,big (by omega),?_⟩
    refine ⟨_,rfl,.inl ⟨rfl,_,c2.sq⟩,_,rfl,(by show 1≤sizeLine;decide),fun T3 n3=>?_⟩
    have c3:=c2.new n3 (.tup [.int 1])
    refine ⟨a1,T3,vs,_,rfl,rfl,c3.same.seqT h1,.of zab,pne,bigE (by simp;omega),(fun z=>nomatch z),fun _ T4 n4=>?_⟩
    have c4:=c3.pushT n4 (r1.snoc (.int 1))
    refine ⟨f,_,_,rfl,rfl,(c3.new n4 _).at_,big (by simp;omega),ys++ [.ref T2]++ [.ref T4],_,_,_,_,rfl,?_⟩
    rw [et,zct,zez]
    simpa [List.append_assoc] using c4
 ·rintro σ H3 ⟨ys,o2,o3,o4,o5,rfl,b3⟩
  have e5:(zbF w).take xs.length=zbF w:=by
   rw [b.len]
   show (zbF w).take ((zbF w).map Dat.tuple).length=_
   rw [List.length_map,List.take_length]
  rw [e5,zc6] at b3
  exact ⟨_,rfl,q f ys H3 ⟨by
   obtain ⟨G,g1,g2,g3,g4⟩:=b3.ex
   exact ⟨G,b.same.trans g1,g2,g3,g4⟩,b3.at_⟩⟩
theorem zhU:zay ["stuck","gate","worths"] ["stuck","gate","worths"] (zah zcc):=⟨rfl,rfl,rfl,by decide+kernel,rfl,by decide+kernel,by decide+kernel⟩
theorem zhs (T:Txt K mg t):FnOk P w K mg base CX0 1 t.f_leg_worths t.fd_leg_worths ["stuck","gate","worths"] (sp_lgw K):=by
 refine T.d_leg_worths.F.okB zhU (fun vs H Q E h=>?_) (fun cdv A outer s H vs Q E hr h=>?_)
 ·obtain ⟨d,p,k,fs,ns,rfl,_⟩:=h
  rfl
 obtain ⟨d,p,k,fs,ns,rfl,hd,hS,l4,q⟩:=h
 have hu1:=zhV hr
 refine ⟨_,(zag (zaq (zaV rfl (N:=["leg","worth","stuck","gate"]) (n:=2) (cap:=[0,1]) (zbG rfl rfl) (zdz rfl T.z_enumerate (zaa (bpv 2) (zac))) (zdi (by decide) (by decide)) (fun _ _ _ _=>(zd7 (K:=K) (n:=2) rfl (zas (zai (k:=0) (show (["leg","worth","stuck","gate"]:List Str).Nodup by decide+kernel) rfl (Or.inl rfl)) (zas (zai (k:=1) (show (["leg","worth","stuck","gate"]:List Str).Nodup by decide+kernel) rfl (Or.inl rfl)) zbq)))) (fun _ _ _ _=>zaJ) (fun _ _ _ _=>(zdj hu1 (bpv 2) (zaB (zaa zav (zaa (bpv 3) (zaa (bpv 0) (zac))))) (bpv 1) ⟨rfl,rfl,rfl,rfl⟩))))),?_⟩
 refine ⟨_,rfl,p,rfl,⟨_,hS⟩,fun D hD=>zgn (K:=K) (a:=p) (xs:=ns.map V.int) (fun j H2=>Same H H2∧H2 D=some (.lst ((zcS fs k (ns.take j)).map V.int))) ⟨zae hD _,zab⟩ (fun j H2 _ z=>z.1.seq hS) ?_ ?_⟩
 ·rintro j y H2 T1 hy ⟨s2,eD⟩ h1
  rw [List.getElem?_map] at hy
  cases hz:ns[j]? with
  | none=>rw [hz] at hy;cases hy
  | some n=>
   rw [hz] at hy
   cases hy
   have lj:j < ns.length:=(List.getElem?_eq_some_iff.mp hz).1
   have s3:=s2.upd h1 (.tup [.int j,.int n])
   refine ⟨T1,_,rfl,.of zab,rfl,_,_,rfl,_,_,rfl,rfl,?_⟩
   refine ⟨_,rfl,d,rfl,.inr ⟨_,.inl (s3 _ _ hd)⟩,_,rfl,_,rfl,(by show 3≤sizeLine;decide),fun T2 h2=>?_⟩
   have s4:=s3.upd h2 (.tup [.str "leg",.int k,.int j])
   refine ⟨_,rfl,_,DGet.t (k:=legK k j) (s4 _ _ hd) zab,?_⟩
   have eD4:=((zae h1 (.tup [.int j,.int n])).upd h2 (.tup [.str "leg",.int k,.int j])) _ _ eD
   refine ⟨_,eD4,big (by rw [List.length_map,zdu,List.length_take];omega),s4.write hD _,?_⟩
   have lt:(ns.take j).length=j:=by rw [List.length_take];omega
   rw [zab,List.take_add_one,hz]
   show _=some (HO.lst ((zcS fs k (ns.take j++ [n])).map V.int))
   rw [zho,List.map_append,lt,zd1]
   rfl
 ·rintro H2 ⟨s2,eD⟩
  have et:ns.take (ns.map V.int).length=ns:=by rw [List.length_map,List.take_length]
  rw [et] at eD
  exact q D H2 s2 hD eD
theorem zbY:zay ["works","stuck","row","ones","worths","gate","body","read","worth"] ["works","stuck","row","ones"] (zah zbP):=⟨rfl,rfl,rfl,by decide+kernel,rfl,by decide+kernel,by decide+kernel⟩
theorem zgP (T:Txt K mg t):FnOk P w K mg base CX0 2 t.f_worths_with t.fd_worths_with ["works","stuck","row","ones"] (sp_wwG K):=by
 refine T.d_worths_with.F.okB zbY (fun vs H Q E h=>?_) (fun cdv A outer s H vs Q E hr h=>?_)
 ·obtain ⟨x,d,p,w,fs,row,o,rfl,_⟩:=h
  rfl
 obtain ⟨x,d,p,w,fs,row,o,rfl,hx,wf,hd,hS,hl,q⟩:=h
 obtain ⟨a,ga,oa,gs,os,rfl,ha,hg,ho,rg,ro⟩:=za2 hx
 have hu1:=zhV hr
 have lg:gs.length=w.gates.length:=by rw [rg.length,List.length_map]
 have i1:=wf.i1
 have i6:=wf.i6
 have few:=wf.few
 refine ⟨_,(zad (zaj (k:=4) zbY.nd rfl (Or.inr rfl) (zaV rfl (N:=["wire","worth","stuck"]) (n:=2) (cap:=[1]) (zbG rfl rfl) (zdz rfl T.z_enumerate (zaa (bpv 2) (zac))) (zdi (by decide) (by decide)) (fun _ _ _ _=>(zd7 (K:=K) (n:=2) rfl (zas (zai (k:=0) (show (["wire","worth","stuck"]:List Str).Nodup by decide+kernel) rfl (Or.inl rfl)) (zas (zai (k:=1) (show (["wire","worth","stuck"]:List Str).Nodup by decide+kernel) rfl (Or.inl rfl)) zbq)))) (fun _ _ _ _=>zaJ) (fun _ _ _ _=>(zdj hu1 (bpv 2) (zaB (zaa zav (zaa (bpv 0) (zac)))) (bpv 1) ⟨rfl,rfl,rfl,rfl⟩))))
  (zad (zaS PassesOwn.never rfl (zdz rfl T.z_enumerate (zaa (zao zaC (bpv 0) zaf (fun _ _=>rfl)) (zac))) (zcY rfl (zas (zai (k:=5) zbY.nd rfl (Or.inl rfl)) (zas (zai (k:=6) zbY.nd rfl (Or.inl rfl)) zbq))) (zad (zaj (k:=7) zbY.nd rfl (Or.inl rfl) (zal (zhs T) (hr.mono (by decide)) rfl T.d_leg_worths.m T.d_leg_worths.F.kp T.d_leg_worths.b .nil zaH (zaa (bpv 1) (zaa (bpv 5) (zaa (zaV rfl (N:=["leg","worths"]) (n:=1) (cap:=[4]) (zbG rfl rfl) (zhS (zao zaC (bpv 6) zaf (fun _ _=>rfl))) (zaL (by decide)) (fun _ _ _ _=>(zai (k:=0) (show (["leg","worths"]:List Str).Nodup by decide+kernel) rfl (Or.inl rfl))) (fun _ _ _ _=>zaJ) (fun _ _ _ _=>(zao (zed (K:=K)) (bpv 1) (bpv 0) (fun _ _=>rfl)))) (zac))))))
  (zad (zaj (k:=8) zbY.nd rfl (Or.inl rfl) (zal (zeh T) (hr.mono (by decide)) rfl T.d_gate_worth.m T.d_gate_worth.F.kp T.d_gate_worth.b .nil zaH (zaa (zao zaC (bpv 6) zaf (fun _ _=>rfl)) (zaa (bpv 7) (zaa (bpv 3) (zac))))))
  (zag (zaR (zb4 PySem.F.plainAttrs_list PySem.F.slot_list_append PySem.F.type_list_append zaM (bpv 4) (zaa (zdj hu1 (bpv 1) (zaB (zaa zav (zaa (zak zbc (zao zaC (bpv 0) zaf (fun _ _=>rfl)) (bpv 5)) (zac)))) (bpv 8) ⟨rfl,rfl,rfl,rfl⟩) (zac))))))))
  (zag (zaq (bpv 4))))),?_⟩
 refine ⟨_,rfl,p,rfl,⟨_,hS⟩,fun r hr1=>zgn (K:=K) (a:=p) (xs:=row.map V.int) (fun j H2=>Same H H2∧H2 r=some (.lst ((rowS fs (row.take j)).map V.int))) ⟨zae hr1 _,zab⟩ (fun j H2 _ z=>z.1.seq hS) ?_ ?_⟩
 ·rintro j y H2 T1 hy ⟨s2,eD⟩ h1
  rw [List.getElem?_map] at hy
  cases hz:row[j]? with
  | none=>rw [hz] at hy;cases hy
  | some n=>
   rw [hz] at hy
   cases hy
   have lj:j < row.length:=(List.getElem?_eq_some_iff.mp hz).1
   have s3:=s2.upd h1 (.tup [.int j,.int n])
   refine ⟨T1,_,rfl,.of zab,rfl,_,_,rfl,_,_,rfl,rfl,?_⟩
   refine ⟨_,rfl,d,rfl,.inr ⟨_,.inl (s3 _ _ hd)⟩,_,rfl,(by show 2≤sizeLine;decide),fun T2 h2=>?_⟩
   have s4:=s3.upd h2 (.tup [.str "wire",.int j])
   refine ⟨_,rfl,_,DGet.t (k:=zbn j) (s4 _ _ hd) zab,?_⟩
   have eD4:=((zae h1 (.tup [.int j,.int n])).upd h2 (.tup [.str "wire",.int j])) _ _ eD
   refine ⟨_,eD4,big (by rw [List.length_map,zfX,List.length_take];omega),s4.write hr1 _,?_⟩
   have lt:(row.take j).length=j:=by rw [List.length_take];omega
   rw [zab,List.take_add_one,hz]
   show _=some (HO.lst ((rowS fs (row.take j++ [n])).map V.int))
   rw [ziI,List.map_append,lt,zd1]
   rfl
 rintro H1 ⟨s1,e1⟩
 have et:row.take (row.map V.int).length=row:=by rw [List.length_map,List.take_length]
 rw [et] at e1
 refine ⟨_,rfl,a,_,_,_,rfl,rfl,s1.seqT ha,rfl,ga,rfl,⟨_,s1.seq hg⟩,zf7 (K:=K) (a:=ga) (xs:=gs)
  (fun i σ H3=>∃ (o4 o5 o6 o7:Option V),σ = [some (.ref a),some (.ref d),some (.ref p),some (.int o),some (.ref r),o4,o5,o6,o7]∧Same H H3∧H3 r=some (.lst ((zcN o fs w.gates row i).map V.int)))
  ⟨_,_,_,_,rfl,s1,e1⟩ (fun i σ H3 _ ⟨_,_,_,_,_,s3,_⟩=>s3.seq hg) ?_ ?_⟩
 ·rintro i x σ H3 T1 hx ⟨o4,o5,o6,o7,rfl,s3,e3⟩ h1
  have hi:i < gs.length:=(List.getElem?_eq_some_iff.mp hx).1
  obtain ⟨g,hgk⟩:∃ g,w.gates[i]? =some g:=⟨_,List.getElem?_eq_getElem (by omega)⟩
  obtain ⟨dd,hdd,rv⟩:=rg.get hx
  rw [List.getElem?_map,hgk] at hdd
  cases hdd
  obtain ⟨a1,la,rfl,hA,hL⟩:=zel rv
  obtain ⟨lk,lb⟩:=wf.legs i g hgk
  have lw:=ze9 o fs w.gates row i
  have l4:=lk.le
  refine ⟨T1,_,rfl,.of zab,rfl,_,_,rfl,_,_,rfl,rfl,?_⟩
  have k1:=zae h1 (.tup [.int i,.ref a1])
  have s4:=s3.trans k1
  have e4:=k1 _ _ e3
  generalize upd H3 T1 (.tup [.int i,.ref a1])=H4 at k1 s4 e4
  refine ⟨_,rfl,_,rfl,_,rfl,a1,_,_,_,rfl,rfl,s4.seqT hA,rfl,la,rfl,⟨_,s4.seqT hL⟩,fun D hD=>zfY (K:=K) (a:=la) (xs:=g.2.map V.int)
   (fun j H5=>Same H4 H5∧H5 D=some (.lst (((g.2.take j).map fun l=>(zcN o fs w.gates row i).getD l.toNat 0).map V.int))) ⟨zae hD _,zab⟩ (fun j H5 _ z=>(s4.trans z.1).seqT hL) ?_ ?_⟩
  ·rintro j y H5 hy ⟨s5,eD⟩
   rw [List.getElem?_map] at hy
   cases hz:g.2[j]? with
   | none=>rw [hz] at hy;cases hy
   | some l=>
    rw [hz] at hy
    cases hy
    have lj:j < g.2.length:=(List.getElem?_eq_some_iff.mp hz).1
    have bl:=lb l (List.mem_of_getElem? hz)
    refine ⟨_,rfl,_,rfl,r,_,_,_,rfl,rfl,.of (s5 _ _ e4),zb1 bl.1 (by rw [lw];omega),?_⟩
    refine ⟨_,eD,big (by simp;omega),s5.write hD _,?_⟩
    rw [zab,List.take_add_one,hz]
    simp
  rintro H5 ⟨s5,eD⟩
  have et:g.2.take (g.2.map V.int).length=g.2:=by rw [List.length_map,List.take_length]
  rw [et] at eD
  have s45:=s4.trans s5
  refine ⟨d,D,_,fs,g.2.map fun l=>(zcN o fs w.gates row i).getD l.toNat 0,rfl,s45 _ _ hd,.of eD,by rw [List.length_map];exact l4,fun R H6 s6 nR eR=>?_⟩
  have s46:=s45.trans s6
  refine ⟨_,rfl,a1,_,_,_,rfl,rfl,s46.seqT hA,rfl,_,rfl,_,rfl,g.1,R,_,o,rfl,.of eR,by rw [zdu,List.length_map];exact lk,fun H7 s7=>?_⟩
  replace s46:=s46.trans s7
  have e6:=((s5.trans s6).trans s7) _ _ e4
  refine ⟨_,rfl,.inl ⟨rfl,_,.of e6⟩,_,rfl,d,rfl,.inr ⟨_,.inl (s46 _ _ hd)⟩,_,rfl,a,_,_,_,rfl,rfl,s46.seqT ha,rfl,_,rfl,_,_,rfl,rfl,(by show 2≤sizeLine;decide),fun T2 h2=>?_⟩
  have rT:r≠T2:=zap e6 h2
  have ei:w.ins+(i:Int)=((row.length+i:Nat):Int):=by omega
  refine ⟨_,rfl,_,DGet.t (k:=zbn ((row.length+i:Nat):Int)) ((s46.upd h2 _) _ _ hd) (by rw [zab];show some (HO.tup [V.str "wire",V.int (w.ins+(i:Int))])=_;rw [ei];rfl),?_⟩
  refine ⟨r,_,_,rfl,rfl,by rw [zam rT];exact e6,big (by rw [List.length_map,lw];omega),_,_,_,_,rfl,(s46.upd h2 _).write hr1 _,?_⟩
  rw [zab,zcN,hgk,List.map_append,zd1]
  rfl
 ·rintro σ H3 ⟨o4,o5,o6,o7,rfl,s3,e3⟩
  rw [lg] at e3
  exact ⟨_,rfl,q r H3 s3 hr1 e3⟩
theorem zdQ:zay ["works","stuck","row","ones","worths"] ["works","stuck","row","ones"] (zah zbB):=⟨rfl,rfl,rfl,by decide+kernel,rfl,by decide+kernel,by decide+kernel⟩
theorem zfK (T:Txt K mg t):FnOk P w K mg base CX0 3 t.f_outputs_with t.fd_outputs_with ["works","stuck","row","ones"] (sp_owG K):=by
 refine T.d_outputs_with.F.okB zdQ (fun vs H Q E h=>?_) (fun cdv A outer s H vs Q E hr h=>?_)
 ·obtain ⟨x,d,p,w,fs,row,o,rfl,_⟩:=h
  rfl
 obtain ⟨x,d,p,w,fs,row,o,rfl,hx,wf,hd,hS,hl,q⟩:=h
 refine ⟨_,(zad (zaj (k:=4) zdQ.nd rfl (Or.inr rfl) (zal (zgP T) (hr.mono (by decide)) rfl T.d_worths_with.m T.d_worths_with.F.kp T.d_worths_with.b .nil zaH (zaa (bpv 0) (zaa (bpv 1) (zaa (bpv 2) (zaa (bpv 3) (zac)))))))
  (zag (zaq (zaV rfl (N:=["wire","worths"]) (n:=1) (cap:=[4]) (zbG rfl rfl) (zaD (zao zaC (bpv 0) zaf (fun _ _=>rfl))) (zaL (by decide)) (fun _ _ _ _=>(zai (k:=0) (show (["wire","worths"]:List Str).Nodup by decide+kernel) rfl (Or.inl rfl))) (fun _ _ _ _=>zaJ) (fun _ _ _ _=>(zao (zed (K:=K)) (bpv 1) (bpv 0) (fun _ _=>rfl))))))),?_⟩
 refine ⟨_,rfl,_,rfl,_,rfl,_,rfl,x,d,p,w,fs,row,o,rfl,hx,wf,hd,hS,hl,fun r H1 s1 n1 e1=>?_⟩
 obtain ⟨a,ga,oa,gs,os,rfl,ha,hg,ho,rg,ro⟩:=za2 (hx.mono s1)
 have eo:=zdr ro
 subst eo
 have lw:=ze9 o fs w.gates row w.gates.length
 have o3:=wf.o3
 refine ⟨_,rfl,a,_,_,_,rfl,rfl,ha,rfl,oa,rfl,⟨_,ho⟩,fun D hD=>zba (K:=K) (a:=oa) (xs:=w.outs.map V.int)
   (fun j H4=>Same H1 H4∧H4 D=some (.lst (((w.outs.take j).map fun u=>(zcN o fs w.gates row w.gates.length).getD u.toNat 0).map V.int))) ⟨zae hD _,zab⟩ (fun j H4 _ z=>z.1.seq ho) ?_ ?_⟩
 ·rintro j y H4 hy ⟨s4,eD⟩
  rw [List.getElem?_map] at hy
  cases hz:w.outs[j]? with
  | none=>rw [hz] at hy;cases hy
  | some ou=>
   rw [hz] at hy
   cases hy
   have lj:j < w.outs.length:=(List.getElem?_eq_some_iff.mp hz).1
   have bo:=wf.outs ou (List.mem_of_getElem? hz)
   refine ⟨_,rfl,_,rfl,r,_,_,_,rfl,rfl,.of (s4 _ _ e1),zb1 bo.1 (by rw [lw];omega),?_⟩
   refine ⟨_,eD,big (by simp;omega),s4.write hD _,?_⟩
   rw [zab,List.take_add_one,hz]
   simp
 ·rintro H4 ⟨s4,eD⟩
  have et:w.outs.take (w.outs.map V.int).length=w.outs:=by rw [List.length_map,List.take_length]
  rw [et] at eD
  exact q D H4 (s1.trans s4) (s1.free hD) eD
theorem zb9:zay ["works","faults","known_faults","stuck","fault","place"] ["works","faults"] (zah zbz):=⟨rfl,rfl,rfl,by decide+kernel,rfl,by decide+kernel,by decide+kernel⟩
theorem zcw (T:Txt K mg t):FnOk P w K mg base CX0 2 t.f_stuck_places t.fd_stuck_places ["works","faults"] (sp_spl K):=by
 refine T.d_stuck_places.F.okB zb9 (fun vs H Q E h=>?_) (fun cdv A outer s H vs Q E hr h=>?_)
 ·obtain ⟨x,y,w,fs,rfl,_⟩:=h
  rfl
 obtain ⟨x,y,w,fs,rfl,hx,wf,hy,gd,ap,lf,q⟩:=h
 have hu1:=zhV hr
 have hu64:=hr.units
 refine ⟨_,(zad (zaj (k:=2) zb9.nd rfl (Or.inl rfl) (zal (zg3 T) (hr.mono (by decide)) rfl T.d_every_fault.m T.d_every_fault.F.kp T.d_every_fault.b .nil zaH (zaa (bpv 0) (zac))))
  (zad (zaj (k:=3) zb9.nd rfl (Or.inl rfl) zeF)
  (zad (zaS PassesOwn.never rfl (zaD (bpv 1)) (zai (k:=4) zb9.nd rfl (Or.inl rfl)) (zad (zbd (zaA (zio hu64) (bpv 4) (bpv 2) rfl) (zag ziF) zaF)
  (zad (zaj (k:=5) zb9.nd rfl (Or.inl rfl) (zbs ziY (bpv 4) zcC (zbt (zfv zfE zaf))))
  (zad (zbd (zeZ (znN hu1 (bpv 5) (bpv 3))) (zag ziF) zaF)
  (zag (zjX hu1 (bpv 3) (bpv 5) (zao zaC (bpv 4) (zfv zfE zaf) (fun _ _=>rfl)) rfl))))))
  (zag (zaq (bpv 3)))))),?_⟩
 refine ⟨_,rfl,x,w,rfl,hx,wf,fun kr xs H1 bk=>?_⟩
 refine fun d hd=>?_
 have s1:=bk.same.upd hd (.dT [])
 have hd0:=bk.same.free hd
 have okk:∀ e∈zcI w,kqdOk 8 e=true:=fun e he=>zjU 7 he
 cases hy with
 | @lst fa ys _ hq rq=>
  have ly:ys.length=fs.length:=by rw [rq.length,List.length_map]
  refine ⟨_,rfl,fa,rfl,⟨_,s1.seq hq⟩,zbN (K:=K) (a:=fa) (xs:=ys)
   (fun i σ H3=>∃ (o4 o5:Option V),σ = [some x,some (.ref fa),some (.ref kr),some (.ref d),o4,o5]∧Same H1 H3∧H3 d=some (.dT (tabV (fs.take i))))
   ⟨_,_,rfl,zae hd _,zab⟩ (fun i σ H3 _ ⟨_,_,_,s3,_⟩=>(bk.same.trans s3).seq hq) ?_ ?_⟩
  ·rintro i v σ H3 hv ⟨o4,o5,rfl,s13,e3⟩
   have s3:=bk.same.trans s13
   obtain ⟨dd,hdd,rv⟩:=rq.get hv
   rw [List.getElem?_map] at hdd
   cases hz:fs[i]? with
   | none=>rw [hz] at hdd;cases hdd
   | some f=>
    rw [hz] at hdd
    cases hdd
    have gf:=gd f (List.mem_of_getElem? hz)
    obtain ⟨fa1,rfl,hf⟩:=ziS rv
    have li:i < fs.length:=(List.getElem?_eq_some_iff.mp hz).1
    have et:fs.take (i+1)=fs.take i++ [f]:=by rw [List.take_add_one,hz];rfl
    have nl:look (fs.take i) f.place=none:=zdP fun z=>by
     unfold zcu at ap
     have e1:fs.map (·.place)=(fs.take (i+1)).map (·.place)++(fs.drop (i+1)).map (·.place):=by rw [← List.map_append,List.take_append_drop]
     rw [e1,et,List.map_append] at ap
     exact (List.nodup_append.mp (List.nodup_append.mp ap).1).2.2 _ z _ (List.mem_singleton.mpr rfl) rfl
    have nv:valV (tabV (fs.take i)) f.place=none:=by rw [zen,nl];rfl
    refine ⟨_,rfl,_,rfl,fltD f,zcI w,rv.mono s3,bk.rep.mono s13,zjU 7 (zjD gf),okk,fun _=>⟨_,rfl,iteF ?_⟩,fun z=>absurd (zjD gf) z⟩
    refine ⟨_,rfl,_,rfl,_,rfl,fa1,_,rfl,s3.seqT hf,zf1 _ _,fun T1 h1=>?_⟩
    rw [show (-(1:Int))= -1 from rfl,zeJ]
    have k1:=zae h1 (.tup (f.place.map kV))
    have s4:=s3.trans k1
    refine ⟨_,rfl,_,rfl,d,_,rfl,DGet.t (k:=f.place) (k1 _ _ e3) zab,_,rfl,?_⟩
    rw [nv]
    refine iteF ?_
    have lt:(tabV (fs.take i)).length≤1000:=by unfold tabV;rw [List.length_map,List.length_take];omega
    refine ⟨_,rfl,_,rfl,fa1,_,_,_,rfl,rfl,s4.seqT hf,zjn _ _,_,rfl,_,rfl,d,_,rfl,DPut.t (k:=f.place) (k1 _ _ e3) zab (big (by omega)),?_⟩
    refine ⟨_,_,rfl,(s13.trans k1).write hd _,?_⟩
    rw [zab,zhD _ nv,et]
    unfold tabV
    rw [List.map_append]
    rfl
  ·rintro σ H3 ⟨o4,o5,rfl,s13,e3⟩
   rw [ly,List.take_length] at e3
   exact ⟨_,rfl,q d H3 (bk.same.trans s13) hd0 e3⟩
theorem zgZ:zay ["script","k"] ["script","k"] (zah zbQ):=⟨rfl,rfl,rfl,by decide+kernel,rfl,by decide+kernel,by decide+kernel⟩
theorem zcK (T:Txt K mg t):FnOk P w K mg base CX0 1 t.f_law_cell_at t.fd_law_cell_at ["script","k"] (sp_ca K):=by
 refine T.d_law_cell_at.F.okB zgZ (fun vs H Q E h=>?_) (fun cdv A outer s H vs Q E hr h=>?_)
 ·obtain ⟨a,ns,k,rfl,_⟩:=h
  rfl
 obtain ⟨a,ns,k,rfl,hS,q⟩:=h
 refine ⟨_,(zad (zbd (zaA op_lt (bpv 1) (zaE zaz rfl T.z_len PySem.boot_len (zaa (bpv 0) (zac))) (za1 _)) (zag (zaq (zao zaN (bpv 0) (bpv 1) (fun _ _=>rfl)))) zaF)
  (zag (zaq zaf))),?_⟩
 refine ⟨_,rfl,_,rfl,a,_,rfl,.inl hS,_,_,rfl,rfl,_,rfl,ite2 (fun c=>?_) (fun c=>q _)⟩
 have c':=of_decide_eq_true c
 rw [List.length_map] at c'
 exact ⟨_,rfl,_,rfl,a,_,_,_,rfl,rfl,hS,zb1 (by omega) (by omega),q _⟩
theorem zaU:zay ["cell","many","base","row","rest","k","stir"] ["cell","many","base"] (zah zbT):=⟨rfl,rfl,rfl,by decide+kernel,rfl,by decide+kernel,by decide+kernel⟩
theorem bits40 {n:Int}(h: 0≤n∧n < 2 ^ 40):Builtin.Int.intBits n≤2 ^ 20:=zgk (k:=40) (by decide) (by omega) (by omega)
noncomputable def cM (c:Int):Int:=c % (10 ^ (45:Int).toNat * 10 ^ (45:Int).toNat)
noncomputable def zm1 (cc j:Int):Int:=(cc+977 * j+1) * 48271 % 2147483647
noncomputable def stir3 (cc j:Int):Int:=(zm1 cc j * zm1 cc j % 2147483629+40692 * (j+3)) * 69621 % 2147483563 / 8
theorem zdh (T:Txt K mg t):FnOk P w K mg base CX0 1 t.f_law_numbers t.fd_law_numbers ["cell","many","base"] sp_nu:=by
 refine T.d_law_numbers.F.okB zaU (fun vs H Q E h=>?_) (fun cdv A outer s H vs Q E hr h=>?_)
 ·obtain ⟨c,many,b,rfl,_⟩:=h
  rfl
 obtain ⟨c,many,b,rfl,hm,b0,b1,q⟩:=h
 refine ⟨_,(zad (zaj (k:=0) zaU.nd rfl (Or.inl rfl) (zak zcs (bpv 0) (zak zfo (zak zh2 zaf zaf) (zak zh2 zaf zaf))))
  (zad (zaj (k:=3) zaU.nd rfl (Or.inl rfl) (zax zac))
  (zad (zaj (k:=4) zaU.nd rfl (Or.inl rfl) (zak zfC (bpv 0) (zak zh2 zaf zaf)))
  (zad (zaS PassesOwn.never rfl (zaZ rfl T.z_range (zaa (bpv 1) (zac))) (zai (k:=5) zaU.nd rfl (Or.inl rfl)) (zad (zaj (k:=6) zaU.nd rfl (Or.inl rfl) (zak zcs (zak zdL (zak zbc (zak zbc (bpv 0) (zak zdL zaf (bpv 5))) zaf) zaf) zaf))
  (zad (zaj (k:=6) zaU.nd rfl (Or.inl rfl) (zak zcs (zak zfo (bpv 6) (bpv 6)) zaf))
  (zad (zaj (k:=6) zaU.nd rfl (Or.inl rfl) (zak ze0 (zak zcs (zak zdL (zak zbc (bpv 6) (zak zdL zaf (zak zbc (bpv 5) zaf))) zaf) zaf) zaf))
  (zad (zbd (zaA zm0 (bpv 0) (zak zh2 zaf zaf) (za1 _)) (zad (zaj (k:=6) zaU.nd rfl (Or.inl rfl) (bpv 4))
  (zag (zaj (k:=4) zaU.nd rfl (Or.inl rfl) (zak ze0 (bpv 4) (bpv 2))))) zaF)
  (zag (zaR (zb4 PySem.F.plainAttrs_list PySem.F.slot_list_append PySem.F.type_list_append zaM (bpv 3) (zaa (zak zcs (bpv 6) (bpv 2)) (zac))))))))))
  (zag (zaq (bpv 3))))))),?_⟩
 have pw:∀ i j:Int,i.natAbs < 2 ^ 64→0≤j→j≤1000000→CPow i j:=fun i j a b c=>⟨b,c,a⟩
 have b45:Builtin.Int.intBits ((10:Int) ^ (45:Int).toNat)≤2 ^ 20:=zgk (k:=160) (by decide) (by decide) (by decide)
 refine ⟨_,rfl,_,_,rfl,rfl,pw _ _ (by decide) (by decide) (by decide),_,_,rfl,rfl,pw _ _ (by decide) (by decide) (by decide),_,_,rfl,rfl,⟨b45,b45⟩,_,_,rfl,rfl,(by show (0:Int) < 10 ^ (45:Int).toNat * 10 ^ (45:Int).toNat;decide),?_⟩
 refine ⟨(by show 0≤sizeLine;decide),fun R hR=>?_⟩
 refine ⟨_,rfl,_,_,rfl,rfl,pw _ _ (by decide) (by decide) (by decide),_,_,rfl,rfl,?_⟩
 refine ⟨_,rfl,_,rfl,by omega,by omega,zcb (fun j σ H2=>∃ (rest:Int) (o5 o6:Option V) (row:List Int),σ = [some (.int (cM c)),some (.int many),some (.int b),some (.ref R),some (.int rest),o5,o6]∧row.length=j∧(∀ z∈row,0≤z∧z < b)∧Same H H2∧H2 R=some (.lst (row.map V.int)))
  ⟨_,_,_,[],rfl,rfl,(fun _ z=>nomatch z),zae hR _,zab⟩ ?_ ?_⟩
 ·rintro j σ H2 hj ⟨rest,o5,o6,row,rfl,lr,br,s2,eR⟩
  rw [Int.zero_add]
  have j100:j < many:=by omega
  generalize cM c=cc
  have last:∀ (st:Int),(∀ z∈row++ [st % b],0≤z∧z < b):=fun st z hz=>by
   rcases List.mem_append.mp hz with hz | hz
   ·exact br z hz
   ·rw [List.mem_singleton.mp hz]
    exact ⟨Int.emod_nonneg _ (by omega),Int.emod_lt_of_pos _ b0⟩
  refine ⟨_,rfl,_,rfl,_,_,rfl,rfl,.inl ⟨by decide,by decide⟩,_,_,rfl,rfl,_,_,rfl,rfl,_,_,rfl,rfl,.inr ⟨by decide,by decide⟩,_,_,rfl,rfl,(by show (0:Int) < 2147483647;decide),?_⟩
  have bs1:Builtin.Int.intBits (zm1 cc j)≤2 ^ 20:=bits40 (by unfold zm1;omega)
  refine ⟨_,rfl,_,rfl,_,_,rfl,rfl,⟨bs1,bs1⟩,_,_,rfl,rfl,(by show (0:Int) < 2147483629;decide),?_⟩
  refine ⟨_,rfl,_,rfl,_,_,rfl,rfl,_,_,rfl,rfl,.inl ⟨by decide,by decide⟩,_,_,rfl,rfl,_,_,rfl,rfl,.inr ⟨by decide,by decide⟩,_,_,rfl,rfl,(by show (0:Int) < 2147483563;decide),_,_,rfl,rfl,⟨by decide,by decide⟩,?_⟩
  refine ⟨_,rfl,_,_,rfl,rfl,pw _ _ (by decide) (by decide) (by decide),_,_,rfl,rfl,_,rfl,ite2 (fun _=>?_) (fun _=>?_)⟩
  ·refine ⟨_,rfl,_,rfl,_,rfl,_,_,rfl,rfl,⟨b0,b1⟩,?_⟩
   refine ⟨_,rfl,.inl ⟨rfl,_,.of eR⟩,_,rfl,_,rfl,_,_,rfl,rfl,b0,R,_,_,rfl,rfl,eR,big (by rw [List.length_map];omega),?_⟩
   exact ⟨_,_,_,row++ [rest % b],rfl,by simp [lr],last rest,s2.write hR _,by rw [zab,List.map_append];rfl⟩
  ·refine ⟨_,rfl,.inl ⟨rfl,_,.of eR⟩,_,rfl,_,rfl,_,_,rfl,rfl,b0,R,_,_,rfl,rfl,eR,big (by rw [List.length_map];omega),?_⟩
   exact ⟨_,_,_,row++ [stir3 cc j % b],rfl,by simp [lr],last _,s2.write hR _,by rw [zab,List.map_append];rfl⟩
 ·rintro σ H2 ⟨rest,o5,o6,row,rfl,lr,br,s2,eR⟩
  exact ⟨_,rfl,q R row H2 s2 hR eR (by omega) br⟩
theorem zbh:zay ["row","wires","two","kinds","kind","many","legs","number","leg"] ["row","wires","two"] (zah zcF):=⟨rfl,rfl,rfl,by decide+kernel,rfl,by decide+kernel,by decide+kernel⟩
theorem zn3 {c:Int}(h0: 0≤c)(h1:c < 10):∃ x,atI [V.str "and",V.str "or",V.str "odd",V.str "not",V.str "choose",V.str "and",V.str "or",V.str "zero",V.str "one",V.str "odd"] c=some (.str x)∧zmf x:=by
 have:c=0∨c=1∨c=2∨c=3∨c=4∨c=5∨c=6∨c=7∨c=8∨c=9:=by omega
 unfold zmf
 rcases this with rfl | rfl | rfl | rfl | rfl | rfl | rfl | rfl | rfl | rfl
 ·exact ⟨_,rfl,.inl rfl⟩
 ·exact ⟨_,rfl,.inr (.inl rfl)⟩
 ·exact ⟨_,rfl,.inr (.inr (.inl rfl))⟩
 ·exact ⟨_,rfl,.inr (.inr (.inr (.inl rfl)))⟩
 ·exact ⟨_,rfl,.inr (.inr (.inr (.inr (.inl rfl))))⟩
 ·exact ⟨_,rfl,.inl rfl⟩
 ·exact ⟨_,rfl,.inr (.inl rfl)⟩
 ·exact ⟨_,rfl,.inr (.inr (.inr (.inr (.inr (.inl rfl)))))⟩
 ·exact ⟨_,rfl,.inr (.inr (.inr (.inr (.inr (.inr rfl)))))⟩
 ·exact ⟨_,rfl,.inr (.inr (.inl rfl))⟩
theorem znG {x:Str}(k:zmf x){m0 m1 m2 m3:Int}(h0: 2≤m0∧m0≤4)(e1:m1=if x="not" then 1 else m0)(e2:m2=if x="choose" then 3 else m1)(e3:m3=if x="zero"∨x="one" then 0 else m2):∃ n:Nat,m3=(n:Int)∧zbJ x n:=by
 unfold zbJ
 rcases k with rfl | rfl | rfl | rfl | rfl | rfl | rfl
 ·refine ⟨m3.toNat,?_⟩
  rw [if_neg (by decide+kernel)] at e1 e2 e3
  exact ⟨by omega,.inl ⟨.inl rfl,by omega,by omega⟩⟩
 ·refine ⟨m3.toNat,?_⟩
  rw [if_neg (by decide+kernel)] at e1 e2 e3
  exact ⟨by omega,.inl ⟨.inr (.inl rfl),by omega,by omega⟩⟩
 ·refine ⟨m3.toNat,?_⟩
  rw [if_neg (by decide+kernel)] at e1 e2 e3
  exact ⟨by omega,.inl ⟨.inr (.inr rfl),by omega,by omega⟩⟩
 ·refine ⟨1,?_,.inr (.inl ⟨rfl,rfl⟩)⟩
  rw [if_pos rfl] at e1
  rw [if_neg (by decide+kernel)] at e2 e3
  omega
 ·refine ⟨3,?_,.inr (.inr (.inl ⟨rfl,rfl⟩))⟩
  rw [if_pos rfl] at e2
  rw [if_neg (by decide+kernel)] at e3
  omega
 ·refine ⟨0,?_,.inr (.inr (.inr ⟨.inl rfl,rfl⟩))⟩
  rw [if_pos (.inl rfl)] at e3
  omega
 ·refine ⟨0,?_,.inr (.inr (.inr ⟨.inr rfl,rfl⟩))⟩
  rw [if_pos (.inr rfl)] at e3
  omega
theorem zjt (T:Txt K mg t):FnOk P w K mg base CX0 1 t.f_law_gate t.fd_law_gate ["row","wires","two"] (sp_ga K):=by
 refine T.d_law_gate.F.okB zbh (fun vs H Q E h=>?_) (fun cdv A outer s H vs Q E hr h=>?_)
 ·obtain ⟨p,row,wires,two,rfl,_⟩:=h
  rfl
 obtain ⟨p,row,wires,two,rfl,hS,lr,br,w1,w2,q⟩:=h
 refine ⟨_,(zad (zaj (k:=3) zbh.nd rfl (Or.inl rfl) (zax (zaa zav (zaa zav (zaa zav (zaa zav (zaa zav (zaa zav (zaa zav (zaa zav (zaa zav (zaa zav (zac)))))))))))))
  (zad (zaj (k:=4) zbh.nd rfl (Or.inl rfl) (zao zaN (bpv 3) (zak zcs (zao zaN (bpv 0) zaf (fun _ _=>rfl)) zaf) (fun _ _=>rfl)))
  (zad (zaj (k:=5) zbh.nd rfl (Or.inl rfl) (zak zbc zaf (zak zdL (zak zcs (zao zaN (bpv 0) zaf (fun _ _=>rfl)) zaf) (zbo zcM rfl T.z_int PyProof.Rows.boot_int (zaa (zoq (bpv 2)) (zac))))))
  (zad (zbd (zaA zc3 (bpv 4) zav (za1 _)) (zag (zaj (k:=5) zbh.nd rfl (Or.inl rfl) zaf)) zaF)
  (zad (zbd (zaA zc3 (bpv 4) zav (za1 _)) (zag (zaj (k:=5) zbh.nd rfl (Or.inl rfl) zaf)) zaF)
  (zad (zbd (zkf (znh (zaA zc3 (bpv 4) zav (za1 _)) (zli (zaA zc3 (bpv 4) zav (za1 _))))) (zag (zaj (k:=5) zbh.nd rfl (Or.inl rfl) zaf)) zaF)
  (zad (zaj (k:=6) zbh.nd rfl (Or.inl rfl) (zax zac))
  (zad (zaS PassesOwn.never rfl (zaD (zbs zdy (bpv 0) (zbt zaf) (zbt (zak zbc zaf (bpv 5))))) (zai (k:=7) zbh.nd rfl (Or.inl rfl)) (zad (zaj (k:=8) zbh.nd rfl (Or.inl rfl) (zak zcs (zak ze0 (bpv 7) zaf) (bpv 1)))
  (zad (zbd (zaA zc3 (zak zcs (bpv 7) zaf) zaf (za1 _)) (zag (zaj (k:=8) zbh.nd rfl (Or.inl rfl) (zak zfC (zak zfC (bpv 1) zaf) (zak zcs (zak ze0 (bpv 7) zaf) (zaE (zlO rfl) rfl T.z_min PyProof.Rows.boot_min (zaa (bpv 1) (zaa zaf (zac)))))))) zaF)
  (zag (zaR (zb4 PySem.F.plainAttrs_list PySem.F.slot_list_append PySem.F.type_list_append zaM (bpv 6) (zaa (bpv 8) (zac))))))))
  (zag (zaq (zaB (zaa (bpv 4) (zaa (zbo zdE rfl T.z_tuple PyProof.Rows.boot_tuple (zaa (bpv 6) (zac))) (zac)))))))))))))),?_⟩
 refine ⟨(by show 10≤sizeLine;decide),fun Kd hK=>?_⟩
 have s1:=zae hK (.lst [.str "and",.str "or",.str "odd",.str "not",.str "choose",.str "and",.str "or",.str "zero",.str "one",.str "odd"])
 have eK:(upd H Kd (.lst [.str "and",.str "or",.str "odd",.str "not",.str "choose",.str "and",.str "or",.str "zero",.str "one",.str "odd"])) Kd=some (.lst [.str "and",.str "or",.str "odd",.str "not",.str "choose",.str "and",.str "or",.str "zero",.str "one",.str "odd"]):=zab
 generalize upd H Kd (.lst [.str "and",.str "or",.str "odd",.str "not",.str "choose",.str "and",.str "or",.str "zero",.str "one",.str "odd"])=H1 at s1 eK
 obtain ⟨x,hx,kx⟩:=zn3 (c:=row.getD (0:Int).toNat 0 % 10) (by omega) (by omega)
 refine ⟨_,rfl,_,rfl,p,_,_,_,rfl,rfl,s1.seq hS,zb1 (by decide) (by rw [lr];decide),_,_,rfl,rfl,(by show (0:Int) < 10;decide),Kd,_,_,_,rfl,rfl,.of eK,hx,?_⟩
 obtain ⟨r1,er1⟩:∃ r1,row.getD (1:Int).toNat 0=r1:=⟨_,rfl⟩
 have h20: 2≤2+r1 % 3 * (if (!two)=true then 1 else 0)∧2+r1 % 3 * (if (!two)=true then 1 else 0)≤4:=by
  split <;> omega
 refine ⟨_,rfl,p,_,_,_,rfl,rfl,s1.seq hS,zb1 (by decide) (by rw [lr];decide),_,_,rfl,rfl,(by show (0:Int) < 3;decide),_,rfl,_,rfl,.inr ⟨_,rfl,_,_,rfl,rfl,.inr (by split <;> exact ⟨by decide,by decide⟩),_,_,rfl,rfl,?_⟩⟩
 rw [er1]
 refine' znY (C:=fun v=>∃ m:Int,v= .int m∧m=if x="not" then 1 else 2+r1 % 3 * (if (!two)=true then 1 else 0)) (st:=fun v=>[some (.ref p),some (.int wires),some (.bl two),some (.ref Kd),some (.str x),some v,none,none,none]) (H:=H1) (fun rest=>_) _
 rotate_left
 ·refine ⟨_,rfl,rfl,_,rfl,ite2 (fun c=>?_) (fun c=>rest (.int (2+r1 % 3 * (if (!two)=true then 1 else 0))) ⟨_,rfl,(if_neg (fun z=>c (decide_eq_true (congrArg V.str z)))).symm⟩)⟩
  exact rest (.int 1) ⟨_,rfl,(if_pos (V.str.inj (of_decide_eq_true c))).symm⟩
 rintro _ ⟨m1,rfl,e1⟩
 refine' znY (C:=fun v=>∃ m:Int,v= .int m∧m=if x="choose" then 3 else m1) (st:=fun v=>[some (.ref p),some (.int wires),some (.bl two),some (.ref Kd),some (.str x),some v,none,none,none]) (H:=H1) (fun rest=>_) _
 rotate_left
 ·refine ⟨_,rfl,rfl,_,rfl,ite2 (fun c=>?_) (fun c=>rest (.int m1) ⟨_,rfl,(if_neg (fun z=>c (decide_eq_true (congrArg V.str z)))).symm⟩)⟩
  exact rest (.int 3) ⟨_,rfl,(if_pos (V.str.inj (of_decide_eq_true c))).symm⟩
 rintro _ ⟨m2,rfl,e2⟩
 refine' znY (C:=fun v=>∃ m:Int,v= .int m∧m=if x="zero"∨x="one" then 0 else m2) (st:=fun v=>[some (.ref p),some (.int wires),some (.bl two),some (.ref Kd),some (.str x),some v,none,none,none]) (H:=H1) (fun rest=>_) _
 rotate_left
 ·refine ⟨_,rfl,rfl,_,rfl,ite2 (fun c=>iteT ?_) (fun c=>⟨_,rfl,rfl,_,rfl,ite2 (fun c2=>?_) (fun c2=>rest (.int m2) ⟨_,rfl,(if_neg (fun z=>z.elim (fun z=>c (decide_eq_true (congrArg V.str z))) (fun z=>c2 (decide_eq_true (congrArg V.str z))))).symm⟩)⟩)⟩
  ·exact rest (.int 0) ⟨_,rfl,(if_pos (.inl (V.str.inj (of_decide_eq_true c)))).symm⟩
  ·exact rest (.int 0) ⟨_,rfl,(if_pos (.inr (V.str.inj (of_decide_eq_true c2)))).symm⟩
 rintro _ ⟨m3,rfl,e3⟩
 obtain ⟨n,rfl,lk⟩:=znG kx h20 e1 e2 e3
 have n4:=lk.le
 refine ⟨(by show 0≤sizeLine;decide),fun L hL=>?_⟩
 have s2:=s1.upd hL (.lst [])
 refine ⟨_,rfl,_,rfl,_,rfl,_,_,rfl,rfl,_,rfl,p,_,rfl,s2.seq hS,fun S hS2=>?_⟩
 rw [zjl row (by decide) (by omega) (by omega)]
 have s3:=s2.upd hS2 (.lst (((row.drop (2:Int).toNat).take (2+(n:Int) - 2).toNat).map V.int))
 have eL:=zae hS2 (.lst (((row.drop (2:Int).toNat).take (2+(n:Int) - 2).toNat).map V.int)) _ _ (zab (H:=H1) (a:=L) (o:=.lst []))
 have eS:=zab (H:=upd H1 L (.lst [])) (a:=S) (o:=.lst (((row.drop (2:Int).toNat).take (2+(n:Int) - 2).toNat).map V.int))
 obtain ⟨zs,ezs⟩:∃ zs,(row.drop (2:Int).toNat).take (2+(n:Int) - 2).toNat=zs:=⟨_,rfl⟩
 have lz:zs.length=n:=by
  rw [← ezs,List.length_take,List.length_drop,lr]
  have:(2:Int).toNat=2:=rfl
  omega
 have bz:∀ z∈zs,0≤z:=fun z hz=>br z (by rw [← ezs] at hz;exact List.mem_of_mem_drop (List.mem_of_mem_take hz))
 rw [ezs] at s3 eL eS ⊢
 generalize upd (upd H1 L (.lst [])) S (.lst (zs.map V.int))=H2 at s3 eL eS
 have hL0:H L=none:=s1.free hL
 refine ⟨S,rfl,⟨_,.of eS⟩,zbN (K:=K) (a:=S) (xs:=zs.map V.int)
  (fun i σ H5=>∃ (ls:List Int) (o7 o8:Option V),σ = [some (.ref p),some (.int wires),some (.bl two),some (.ref Kd),some (.str x),some (.int n),some (.ref L),o7,o8]∧ls.length=i∧(∀ l∈ls,0≤l∧l < wires)∧Same H H5∧H5 S=some (.lst (zs.map V.int))∧S≠L∧H5 L=some (.lst (ls.map V.int)))
  ⟨[],_,_,rfl,rfl,(fun _ z=>nomatch z),s3,eS,(by rintro rfl;rw [zab] at hS2;cases hS2),eL⟩ (fun i σ H5 _ ⟨_,_,_,_,_,_,_,e,_⟩=>.of e) ?_ ?_⟩
 ·rintro i y σ H5 hy ⟨ls,o7,o8,rfl,lls,bl,s5,eS5,SL,eL5⟩
  rw [List.getElem?_map] at hy
  cases hz:zs[i]? with
  | none=>rw [hz] at hy;cases hy
  | some z=>
   rw [hz] at hy
   cases hy
   have z0:=bz z (List.mem_of_getElem? hz)
   have iz:i < zs.length:=(List.getElem?_eq_some_iff.mp hz).1
   have fin:∀ v:Int,0≤v∧v < wires→∀ l∈ls++ [v],0≤l∧l < wires:=fun v hv l hl=>by
    rcases List.mem_append.mp hl with hl | hl
    ·exact bl l hl
    ·rw [List.mem_singleton.mp hl];exact hv
   refine ⟨_,rfl,_,_,rfl,rfl,⟨by decide,by decide⟩,_,rfl,_,_,rfl,rfl,(by show 0 < wires;omega),?_⟩
   refine ⟨_,rfl,_,_,rfl,rfl,(by show (0:Int) < 2;decide),rfl,_,rfl,ite2 (fun c=>?_) (fun c=>?_)⟩
   ·refine ⟨_,rfl,_,_,rfl,rfl,_,rfl,_,_,rfl,rfl,⟨by decide,by decide⟩,_,rfl,_,_,rfl,_,_,rfl,rfl,(by show (0:Int) < if (3:Int) < wires then 3 else wires;split <;> omega),_,_,rfl,rfl,?_⟩
    refine ⟨_,rfl,.inl ⟨rfl,_,.of eL5⟩,_,rfl,L,_,_,rfl,rfl,eL5,big (by rw [List.length_map];omega),?_⟩
    refine ⟨ls++ [wires - 1 - z / 2 % (if (3:Int) < wires then 3 else wires)],_,_,rfl,by simp [lls],fin _ ?_,s5.write hL0 _,by rw [zam SL];exact eS5,SL,by rw [zab,List.map_append];rfl⟩
    split
    ·omega
    ·have:=Int.emod_nonneg (z / 2) (show wires≠0 by omega)
     have:=Int.emod_lt_of_pos (z / 2) (show 0 < wires by omega)
     omega
   ·refine ⟨_,rfl,.inl ⟨rfl,_,.of eL5⟩,_,rfl,L,_,_,rfl,rfl,eL5,big (by rw [List.length_map];omega),?_⟩
    exact ⟨ls++ [z / 2 % wires],_,_,rfl,by simp [lls],fin _ ⟨Int.emod_nonneg _ (by omega),Int.emod_lt_of_pos _ (by omega)⟩,s5.write hL0 _,by rw [zam SL];exact eS5,SL,by rw [zab,List.map_append];rfl⟩
 ·rintro σ H5 ⟨ls,o7,o8,rfl,lls,bl,s5,eS5,SL,eL5⟩
  rw [List.length_map,lz] at lls
  refine ⟨_,rfl,_,rfl,L,_,rfl,.inl ⟨.of eL5,fun T1 h1=>⟨(by show 2≤sizeLine;decide),fun T2 h2=>?_⟩⟩⟩
  have k1:=zae h1 (.tup (ls.map V.int))
  have k2:=zae h2 (.tup [.str x,.ref T1])
  exact q T2 T1 x ls _ ((s5.trans k1).trans k2) ((s5.trans k1).free h2) (s5.free h1) zab (k2 _ _ zab) (by rw [lls];exact lk) bl
theorem zaO:zay ["script","most_inputs","most_gates","most_of_two","first","row","inputs","two","most","cells","gates","cell","wires","outputs","far"] ["script","most_inputs","most_gates","most_of_two"] (zah zcj):=⟨rfl,rfl,rfl,by decide+kernel,rfl,by decide+kernel,by decide+kernel⟩
theorem zfy (T:Txt K mg t):FnOk P w K mg base CX0 2 t.f_law_works t.fd_law_works ["script","most_inputs","most_gates","most_of_two"] (sp_wk K):=by
 refine T.d_law_works.F.okB zaO (fun vs H Q E h=>?_) (fun cdv A outer s H vs Q E hr h=>?_)
 ·obtain ⟨a,ns,mi,mg,mt,rfl,_⟩:=h
  rfl
 obtain ⟨a,ns,mi,mg',mt,rfl,hS,h63,m1,m6,g20,t20,q⟩:=h
 have hu64:=hr.units
 refine ⟨_,(zad (zaj (k:=4) zaO.nd rfl (Or.inl rfl) (zal (zcK T) (hr.mono (by decide)) rfl T.d_law_cell_at.m T.d_law_cell_at.F.kp T.d_law_cell_at.b .nil zaH (zaa (bpv 0) (zaa zaf (zac)))))
  (zad (zaj (k:=5) zaO.nd rfl (Or.inr rfl) (zal (zdh T) (hr.mono (by decide)) rfl T.d_law_numbers.m T.d_law_numbers.F.kp T.d_law_numbers.b .nil zaH (zaa (bpv 4) (zaa zaf (zaa zaf (zac))))))
  (zad (zaj (k:=6) zaO.nd rfl (Or.inl rfl) (zak zbc zaf (zak zcs (zao zaN (bpv 5) zaf (fun _ _=>rfl)) (bpv 1))))
  (zad (zaj (k:=7) zaO.nd rfl (Or.inl rfl) (zcU zc3 (zak zcs (zao zaN (bpv 5) zaf (fun _ _=>rfl)) zaf) zaf (za1 _)))
  (zad (zaj (k:=8) zaO.nd rfl (Or.inl rfl) (zao zaN (zax (zaa (bpv 2) (zaa (bpv 3) (zac)))) (zbo zcM rfl T.z_int PyProof.Rows.boot_int (zaa (bpv 7) (zac))) (fun _ _=>rfl)))
  (zad (zaj (k:=9) zaO.nd rfl (Or.inl rfl) (zbs zdy (bpv 0) (zbt zaf) (zbt (zak zbc zaf (bpv 8)))))
  (zad (zbd (zaA (zny hu64) (bpv 9) (zax zac) (za1 _)) (zad (zaj (k:=14) zaO.nd rfl (Or.inr rfl) (zak zcs (bpv 4) (zak zh2 zaf zaf)))
  (zag (zfV (k:=9) rfl (N:=["k","far"]) (n:=1) (cap:=[14]) (zbG rfl rfl) zaO.nd rfl rfl (zaZ rfl T.z_range (zaa (zak zcs (zao zaN (bpv 5) zaf (fun _ _=>rfl)) (zak zbc (bpv 8) zaf)) (zac))) (zaL (by decide)) (fun _ _ _ _=>(zai (k:=0) (show (["k","far"]:List Str).Nodup by decide+kernel) rfl (Or.inl rfl))) (fun _ _ _ _=>zaJ) (fun _ _ _ _=>(zak zbc (bpv 1) (zak zdL zaf (bpv 0)))) rfl))) zaF)
  (zad (zaj (k:=10) zaO.nd rfl (Or.inl rfl) (zax zac))
  (zad (zaS PassesOwn.never rfl (zaD (bpv 9)) (zai (k:=11) zaO.nd rfl (Or.inl rfl)) (zag (zaR (zb4 PySem.F.plainAttrs_list PySem.F.slot_list_append PySem.F.type_list_append zaM (bpv 10) (zaa (zal (zjt T) (hr.mono (by decide)) rfl T.d_law_gate.m T.d_law_gate.F.kp T.d_law_gate.b .nil zaH (zaa (zal (zdh T) (hr.mono (by decide)) rfl T.d_law_numbers.m T.d_law_numbers.F.kp T.d_law_numbers.b .nil zaH (zaa (bpv 11) (zaa zaf (zaa zaf (zac))))) (zaa (zak zbc (bpv 6) (zaE zaz rfl T.z_len PySem.boot_len (zaa (bpv 10) (zac)))) (zaa (bpv 7) (zac))))) (zac))))))
  (zad (zaj (k:=12) zaO.nd rfl (Or.inr rfl) (zak zbc (bpv 6) (zaE zaz rfl T.z_len PySem.boot_len (zaa (bpv 10) (zac)))))
  (zad (zfV (k:=13) rfl (N:=["k","wires","row"]) (n:=1) (cap:=[12,5]) (zbG rfl rfl) zaO.nd rfl rfl (zaZ rfl T.z_range (zaa (zao zaN (zax (zaa zaf (zaa zaf (zaa zaf (zaa zaf (zac)))))) (zak zcs (zao zaN (bpv 5) zaf (fun _ _=>rfl)) zaf) (fun _ _=>rfl)) (zac))) (zaL (by decide)) (fun _ _ _ _=>(zai (k:=0) (show (["k","wires","row"]:List Str).Nodup by decide+kernel) rfl (Or.inl rfl))) (fun _ _ _ _=>zaJ) (fun _ _ _ _=>(zak zfC (zak zfC (bpv 1) zaf) (zak zcs (zao (zed (K:=K)) (bpv 2) (zak zbc zaf (bpv 0)) (fun _ _=>rfl)) (bpv 1)))) rfl)
  (zag (zaq (zaB (zaa (bpv 6) (zaa (bpv 10) (zaa (zak zcO (bpv 13) (zbs zdy (bpv 13) zcC (zbt (zbo zcM rfl T.z_int PyProof.Rows.boot_int (zaa (zcU zc3 (zak zcs (zak ze0 (zao zaN (bpv 5) zaf (fun _ _=>rfl)) zaf) zaf) zaf (za1 _)) (zac)))))) (zac)))))))))))))))))),?_⟩
 have pw:∀ i j:Int,i.natAbs < 2 ^ 64→0≤j→j≤1000000→CPow i j:=fun i j a b c=>⟨b,c,a⟩
 refine ⟨_,rfl,a,ns,0,rfl,hS,fun first=>?_⟩
 refine ⟨_,rfl,first,12,60,rfl,by decide,by decide,by decide,fun R row H1 s1 nR eR lr br=>?_⟩
 have b0:∀ i:Nat,0≤row.getD i 0:=fun i=>by
  rw [List.getD_eq_getElem?_getD]
  cases e:row[i]? with
  | none=>exact Int.le_refl 0
  | some z=>exact (br z (List.mem_of_getElem? e)).1
 have atR:∀ (i:Nat),i < 12→atI (row.map V.int) (i:Int)=some (.int (row.getD i 0)):=fun i hi=>by
  have:=zb1 (ns:=row) (i:=(i:Int)) (by omega) (by omega)
  simpa using this
 refine ⟨_,rfl,R,_,_,_,rfl,rfl,.of eR,atR 0 (by decide),_,rfl,_,_,rfl,rfl,(by show (0:Int) < (mi:Int);omega),_,_,rfl,rfl,?_⟩
 obtain ⟨inp,einp,i1,i6⟩:∃ inp:Int,1+row.getD 0 0 % (mi:Int)=inp∧1≤inp∧inp≤mi:=by
  have:=Int.emod_nonneg (row.getD 0 0) (show (mi:Int)≠0 by omega)
  have:=Int.emod_lt_of_pos (row.getD 0 0) (show 0 < (mi:Int) by omega)
  exact ⟨_,rfl,by omega,by omega⟩
 refine ⟨_,rfl,R,_,_,_,rfl,rfl,.of eR,atR 11 (by decide),_,_,rfl,rfl,(by show (0:Int) < 4;decide),rfl,?_⟩
 obtain ⟨two,etwo⟩:∃ two:Bool,decide (V.int (row.getD 11 0 % 4)=V.int 1)=two:=⟨_,rfl⟩
 refine ⟨_,rfl,_,rfl,(by show 2≤sizeLine;decide),fun L hL=>?_⟩
 have s2:=s1.upd hL (.lst [.int mg',.int mt])
 have eR2:=zae hL (.lst [.int mg',.int mt]) _ _ eR
 obtain ⟨most,emost,hmost⟩:∃ most:Nat,atI [V.int mg',.int mt] (if two=true then 1 else 0)=some (.int most)∧(most=mg'∨most=mt):=by
  cases two
  ·exact ⟨mg',rfl,.inl rfl⟩
  ·exact ⟨mt,rfl,.inr rfl⟩
 refine ⟨_,rfl,.inr ⟨two,congrArg (fun z=>[V.bl z]) etwo,L,_,_,_,rfl,rfl,.of zab,emost,?_⟩⟩
 have most20:most≤20:=by omega
 refine ⟨_,rfl,_,rfl,_,rfl,_,_,rfl,rfl,_,rfl,a,_,rfl,s2.seq hS,fun C hC=>?_⟩
 obtain ⟨cs,ecs,lcs⟩:=zou ns (m:=most)
 rw [ecs]
 have s3:=s2.upd hC (.lst (cs.map V.int))
 have eR3:=zae hC (.lst (cs.map V.int)) _ _ eR2
 have eC:=zab (H:=upd H1 L (.lst [.int mg',.int mt])) (a:=C) (o:=.lst (cs.map V.int))
 generalize upd (upd H1 L (.lst [.int mg',.int mt])) C (.lst (cs.map V.int))=H3 at s3 eR3 eC
 refine' joinX (α :=Addr×Option V) (C:=fun v H4=>Same H H4∧H4 R=some (.lst (row.map V.int))∧∃ ds:List Int,H4 v.1=some (.lst (ds.map V.int))∧ds.length≤most) (st:=fun v=>[some (.ref a),some (.int mi),some (.int mg'),some (.int mt),some (.int first),some (.ref R),some (.int (1+row.getD 0 0 % (mi:Int))),some (.bl (decide (V.int (row.getD 11 0 % 4)=V.int 1))),some (.int most),some (.ref v.1),none,none,none,none,v.2]) (fun rest=>_) _
 rotate_left
 ·refine ⟨_,rfl,(by show 0≤sizeLine;decide),fun E0 hE0=>?_⟩
  have k4:=zae hE0 (.lst [])
  refine ⟨.list (cs.map Dat.int),.list [],.lst (.of (k4 _ _ eC)) (Reps.ints _),.lst (.of zab) .nil,zf4 _,rfl,fun z=>⟨_,rfl,iteT ?_⟩,fun z=>⟨_,rfl,iteF (rest (C,none) _ ⟨s3.trans k4,k4 _ _ eR3,cs,k4 _ _ eC,lcs⟩)⟩⟩
  have s4:=s3.trans k4
  have eR4:=k4 _ _ eR3
  generalize upd H3 E0 (.lst [])=H4 at s4 eR4
  refine ⟨_,rfl,_,_,rfl,rfl,pw _ _ (by decide) (by decide) (by decide),_,_,rfl,rfl,(by show (0:Int) < 10 ^ (17:Int).toNat;decide),?_⟩
  have e1:=Int.emod_nonneg (row.getD 1 0) (show (most:Int)+1≠0 by omega)
  have e2:=Int.emod_lt_of_pos (row.getD 1 0) (show 0 < (most:Int)+1 by omega)
  refine ⟨_,rfl,R,_,_,_,rfl,rfl,.of eR4,atR 1 (by decide),_,rfl,_,_,rfl,rfl,_,_,rfl,rfl,(by show (0:Int) < (most:Int)+1;omega),_,rfl,(by omega),(by omega),fun D hD=>?_⟩
  refine zd6 (fun j H5=>∃ ds:List Int,Same H4 H5∧H5 D=some (.lst (ds.map V.int))∧ds.length=j) ⟨[],zae hD _,zab,rfl⟩ ?_ ?_
  ·rintro j H5 hj ⟨ds,s5,eD,ld⟩
   refine ⟨_,rfl,_,rfl,_,_,rfl,rfl,.inl ⟨by decide,by decide⟩,_,_,rfl,rfl,?_⟩
   exact ⟨_,eD,big (by rw [List.length_map];omega),ds++ [first % 10 ^ (17:Int).toNat+101 * (0+(j:Int))],s5.write hD _,by rw [zab,List.map_append];rfl,by simp [ld]⟩
  ·rintro H5 ⟨ds,s5,eD,ld⟩
   exact rest (D,some (.int (first % 10 ^ (17:Int).toNat))) H5 ⟨s4.trans s5,s5 _ _ eR4,ds,eD,by omega⟩
 rintro ⟨C',far⟩ H4 ⟨s4,eR4,ds,eC4,lds⟩
 rw [einp,etwo]
 refine ⟨(by show 0≤sizeLine;decide),fun g hg=>?_⟩
 have eC5:=zae hg (.lst []) _ _ eC4
 have Cg:C'≠g:=zap eC4 hg
 have Rg:R≠g:=zap eR4 hg
 refine ⟨_,rfl,C',rfl,⟨_,.of eC5⟩,zbN (K:=K) (a:=C') (xs:=ds.map V.int)
  (fun i σ H6=>∃ (G:Hp) (gs:List (Str×List Int)) (vs:List V) (o11:Option V),σ = [some (.ref a),some (.int mi),some (.int mg'),some (.int mt),some (.int first),some (.ref R),some (.int inp),some (.bl two),some (.int most),some (.ref C'),some (.ref g),o11,none,none,far]∧
   Off [g] G H6∧Same H4 G∧H6 g=some (.lst vs)∧Reps K G vs (gs.map zhA)∧gs.length=i∧∀ (k:Nat) gt,gs[k]? =some gt→zbJ gt.1 gt.2.length∧∀ l∈gt.2,0≤l∧l < inp+k)
  ⟨H4,[],[],_,rfl,Off.start hg _,Same.refl _,zab,.nil,rfl,(fun k gt e=>by simp at e)⟩ (fun i σ H6 _ ⟨_,_,_,_,_,o,s,_⟩=>.of ((s.trans o.same) _ _ eC4)) ?_ ?_⟩
 ·rintro i y σ H6 hy ⟨G,gs,vs,o11,rfl,off,sG,eg,rgs,lgs,gd⟩
  rw [List.getElem?_map] at hy
  cases hz:ds[i]? with
  | none=>rw [hz] at hy;cases hy
  | some z=>
   rw [hz] at hy
   cases hy
   have iz:i < ds.length:=(List.getElem?_eq_some_iff.mp hz).1
   have lv:vs.length=i:=by rw [rgs.length,List.length_map,lgs]
   refine ⟨_,rfl,.inl ⟨rfl,_,.of eg⟩,_,rfl,z,6,60,rfl,by decide,by decide,by decide,fun P rowp H7 s7 nP eP lp bp=>?_⟩
   have eg7:=s7 _ _ eg
   refine ⟨_,rfl,_,rfl,g,_,rfl,.inl (.of eg7),_,_,rfl,rfl,_,rfl,P,rowp,_,two,rfl,.of eP,lp,fun z hz=>(bp z hz).1,(by omega),(by omega),fun r la x ls H8 s8 nr nla er ela lk bl=>?_⟩
   have s68:=s7.trans s8
   have of8:=off.grow s68
   have nla6:H6 la=none:=s7.free nla
   have nr6:H6 r=none:=s7.free nr
   obtain ⟨of9,k9⟩:=of8.take ela (off.ne nla6)
   obtain ⟨ofa,ka⟩:=of9.take er (off.ne nr6)
   refine ⟨g,vs,_,rfl,rfl,s68 _ _ eg,big (by omega),_,gs++ [(x,ls)],vs++ [.ref r],_,rfl,ofa.write (.head _) _,sG.trans (k9.trans ka),zab,?_,by simp [lgs],fun k gt e=>?_⟩
   ·rw [List.map_append]
    exact (rgs.mono (k9.trans ka)).snoc (.tup (.of zab) (.cons (.str x) (.cons (Rep.tup (.of (ka _ _ zab)) (Reps.ints ls)) .nil)))
   ·by_cases hk:k < gs.length
    ·rw [List.getElem?_append_left hk] at e
     exact gd k gt e
    ·have hk2:k=gs.length:=by
      have:=(List.getElem?_eq_some_iff.mp e).1
      simp at this
      omega
     subst hk2
     rw [List.getElem?_append_right (Nat.le_refl _),Nat.sub_self] at e
     cases e
     refine ⟨lk,fun l hl=>?_⟩
     have:=bl l hl
     rw [lv] at this
     show 0≤l∧l < inp+((gs.length:Nat):Int)
     omega
 rintro σ H6 ⟨G,gs,vs,o11,rfl,off,sG,eg,rgs,lgs,gd⟩
 rw [List.length_map] at lgs
 have lv:vs.length=gs.length:=by rw [rgs.length,List.length_map]
 have of7:=off.close eg (fun z=>nomatch z)
 have kG:=off.cadd (.lst vs)
 have gg:(upd G g (.lst vs)) g=some (.lst vs):=zab
 have sG7:=sG.trans kG
 have rgs7:=rgs.mono kG
 generalize upd G g (.lst vs)=G7 at of7 kG gg sG7 rgs7
 have s6:=of7.same
 have eR6:=(sG7.trans s6) _ _ eR4
 refine ⟨_,rfl,_,rfl,g,_,rfl,.inl (.of eg),_,_,rfl,rfl,?_⟩
 refine ⟨(by show 4≤sizeLine;decide),fun L2 hL2=>?_⟩
 have k7:=zae hL2 (.lst [.int 1,.int 2,.int 3,.int 7])
 obtain ⟨m,em,hm1,hm7⟩:∃ m:Nat,atI [V.int 1,.int 2,.int 3,.int 7] (row.getD 2 0 % 4)=some (.int m)∧1≤m∧m≤7:=by
  have h5:row.getD 2 0 % 4=0∨row.getD 2 0 % 4=1∨row.getD 2 0 % 4=2∨row.getD 2 0 % 4=3:=by omega
  rcases h5 with e | e | e | e <;> rw [e]
  ·exact ⟨1,rfl,by decide,by decide⟩
  ·exact ⟨2,rfl,by decide,by decide⟩
  ·exact ⟨3,rfl,by decide,by decide⟩
  ·exact ⟨7,rfl,by decide,by decide⟩
 refine ⟨_,rfl,R,_,_,_,rfl,rfl,.of (k7 _ _ eR6),atR 2 (by decide),_,_,rfl,rfl,(by show (0:Int) < 4;decide),L2,_,_,_,rfl,rfl,.of zab,em,_,rfl,by omega,by omega,fun D hD=>?_⟩
 have eR7:=k7 _ _ eR6
 have s7:=s6.trans k7
 generalize upd H6 L2 (.lst [.int 1,.int 2,.int 3,.int 7])=H7 at k7 eR7 s7 hD
 refine zd6 (fun j H8=>∃ os:List Int,Same H7 H8∧H8 D=some (.lst (os.map V.int))∧os.length=j∧∀ o∈os,0≤o∧o < inp+(gs.length:Int)) ⟨[],zae hD _,zab,rfl,fun _ z=>nomatch z⟩ ?_ ?_
 ·rintro j H8 hj ⟨os,s8,eD,lo,bo⟩
  have hj2:j < m:=by omega
  have at3:atI (row.map V.int) ((3:Int)+(0+(j:Int)))=some (.int (row.getD (3+j) 0)):=by
   have e:(3:Int)+(0+(j:Int))=((3+j:Nat):Int):=by omega
   rw [e]
   exact atR (3+j) (by omega)
  refine ⟨_,rfl,_,_,rfl,rfl,_,rfl,_,rfl,_,_,rfl,rfl,R,_,_,_,rfl,rfl,.of (s8 _ _ eR7),at3,_,rfl,_,_,rfl,rfl,(by show (0:Int) < inp+((vs.length:Nat):Int);omega),_,_,rfl,rfl,?_⟩
  ·refine ⟨_,eD,big (by rw [List.length_map];omega),os++ [inp+((vs.length:Nat):Int) - 1 - row.getD (3+j) 0 % (inp+((vs.length:Nat):Int))],s8.write hD _,by rw [zab,List.map_append];rfl,by simp [lo],fun o ho=>?_⟩
   rcases List.mem_append.mp ho with ho | ho
   ·exact bo o ho
   ·rw [List.mem_singleton.mp ho,lv]
    have:=Int.emod_nonneg (row.getD (3+j) 0) (show inp+(gs.length:Int)≠0 by omega)
    have:=Int.emod_lt_of_pos (row.getD (3+j) 0) (show 0 < inp+(gs.length:Int) by omega)
    omega
 rintro H8 ⟨os,s8,eD,lo,bo⟩
 have eR8:=s8 _ _ eR7
 refine ⟨_,rfl,_,rfl,_,rfl,_,rfl,_,rfl,R,_,_,_,rfl,rfl,.of eR8,atR 2 (by decide),_,_,rfl,rfl,⟨by decide,by decide⟩,_,_,rfl,rfl,(by show (0:Int) < 4;decide),rfl,.inr ⟨decide (V.int (row.getD 2 0 / 4 % 4)=V.int 1),rfl,_,rfl,D,_,rfl,.of eD,fun S hS2=>?_⟩⟩
 obtain ⟨ms,ems,lms,bms⟩:∃ ms:List Int,cutV (os.map V.int) none (some (if decide (V.int (row.getD 2 0 / 4 % 4)=V.int 1)=true then 1 else 0))=ms.map V.int∧ms.length≤1∧∀ o∈ms,o∈os:=by
  split
  ·refine ⟨os.take 1,?_,by rw [List.length_take];omega,fun o ho=>List.mem_of_mem_take ho⟩
   have:=zlF (os.map V.int) (k:=1) (by rw [List.length_map];omega)
   rw [List.map_take]
   exact this
  ·refine ⟨[],?_,by decide,fun o ho=>nomatch ho⟩
   exact zlF (os.map V.int) (k:=0) (by omega)
 rw [ems]
 have k9:=zae hS2 (.lst (ms.map V.int))
 refine ⟨D,S,_,_,rfl,rfl,k9 _ _ eD,zab,bigE (by rw [List.length_map,List.length_map];omega),fun O hO=>?_⟩
 have ka:=zae hO (.lst (os.map V.int++ms.map V.int))
 refine ⟨(by show 3≤sizeLine;decide),fun r hr2=>?_⟩
 have kb:=zae hr2 (.tup [.int inp,.ref g,.ref O])
 have sA:Same H7 (upd (upd (upd H8 S (.lst (ms.map V.int))) O (.lst (os.map V.int++ms.map V.int))) r (.tup [.int inp,.ref g,.ref O])):=((s8.trans k9).trans ka).trans kb
 have sB:=s7.trans sA
 refine q r ⟨inp,gs,os++ms⟩ _ (s4.trans (sG7.trans sB)) (.tup (.of zab) (.cons (.int _) (.cons (.lst (.of (sB _ _ gg)) (rgs7.mono sB)) (.cons (.lst (.of (kb _ _ zab)) ?_) .nil)))) ⟨i1,(by show inp≤6;omega),(by show gs.length≤20;omega),gd,(by show 1≤(os++ms).length;rw [List.length_append];omega),(by show (os++ms).length≤20+20;rw [List.length_append];omega),fun o ho=>?_⟩ i6 ?_ (by show (os++ms).length≤8;rw [List.length_append];omega)
 ·rw [← List.map_append]
  exact Reps.ints _
 ·rcases List.mem_append.mp ho with ho | ho
  ·exact bo o ho
  ·exact bo o (bms o ho)
 ·rcases hmost with e | e
  ·exact .inl (by show gs.length≤mg';omega)
  ·exact .inr (by show gs.length≤mt;omega)
theorem zhW:zay ["kind","legs"] ["kind","legs"] (zah zcp):=⟨rfl,rfl,rfl,by decide+kernel,rfl,by decide+kernel,by decide+kernel⟩
theorem zh4 (T:Txt K mg t):FnOk P w K mg base CX0 1 t.f_law_worth t.fd_law_worth ["kind","legs"] (sp_gw2 K):=by
 refine T.d_law_worth.F.okB zhW (fun vs H Q E h=>?_) (fun cdv A outer s H vs Q E hr h=>?_)
 ·obtain ⟨x,p,ns,rfl,_⟩:=h
  rfl
 obtain ⟨x,p,ns,rfl,hS,b,lk,q⟩:=h
 refine ⟨_,(zad (zbd (zaA zc3 (bpv 0) zav (za1 _)) (zag (zaq (zaE (zlc rfl) rfl T.z_min PyProof.Rows.boot_min (zaa (bpv 1) (zac))))) zaF)
  (zad (zbd (zaA zc3 (bpv 0) zav (za1 _)) (zag (zaq (zaE (zkZ rfl) rfl T.z_max PyProof.Rows.boot_max (zaa (bpv 1) (zac))))) zaF)
  (zad (zbd (zaA zc3 (bpv 0) zav (za1 _)) (zag (zaq (zak zcs (zaE (zlT rfl) rfl T.z_sum PyProof.Rows.boot_sum (zaa (bpv 1) (zac))) zaf))) zaF)
  (zad (zbd (zaA zc3 (bpv 0) zav (za1 _)) (zag (zaq (zak zfC zaf (zao zaN (bpv 1) zaf (fun _ _=>rfl))))) zaF)
  (zad (zbd (zaA zc3 (bpv 0) zav (za1 _)) (zag (zaq (zao zaN (bpv 1) (zak zfC zaf (zao zaN (bpv 1) zaf (fun _ _=>rfl))) (fun _ _=>rfl)))) zaF)
  (zag (zaq (zbo zcM rfl T.z_int PyProof.Rows.boot_int (zaa (zcU zc3 (bpv 0) zav (za1 _)) (zac)))))))))),?_⟩
 have ne: 0 < ns.length→ns≠[]:=fun z e=>by subst e;exact absurd z (by decide)
 rcases lk with ⟨h | h | h,l1,l2⟩ | ⟨h,l1⟩ | ⟨h,l1⟩ | ⟨h | h,l1⟩
 ·subst h
  exact ⟨_,rfl,rfl,_,rfl,ifY rfl ⟨_,rfl,p,ns,rfl,hS,ne (by omega),fun M hM hle=>by rw [zoa b hM hle];exact q⟩⟩
 ·subst h
  refine ⟨_,rfl,rfl,_,rfl,ifN n_oa ⟨_,rfl,rfl,_,rfl,ifY rfl ⟨_,rfl,p,ns,rfl,hS,ne (by omega),fun M hM hle=>?_⟩⟩⟩
  rw [max_or b hM hle]
  exact q
 ·subst h
  refine ⟨_,rfl,rfl,_,rfl,ifN n_da ⟨_,rfl,rfl,_,rfl,ifN n_do ⟨_,rfl,rfl,_,rfl,ifY rfl ⟨_,rfl,p,ns,rfl,hS,_,_,rfl,rfl,(by show (0:Int) < 2;decide),?_⟩⟩⟩⟩
  rw [zgI] at q
  exact q
 ·subst h
  refine ⟨_,rfl,rfl,_,rfl,ifN n_na ⟨_,rfl,rfl,_,rfl,ifN n_no ⟨_,rfl,rfl,_,rfl,ifN n_nd ⟨_,rfl,rfl,_,rfl,ifY rfl ⟨_,rfl,p,_,0,_,rfl,rfl,hS,zb1 (Int.le_refl 0) (by omega),_,_,rfl,rfl,?_⟩⟩⟩⟩⟩
  rw [zk2] at q
  exact q
 ·subst h
  refine ⟨_,rfl,rfl,_,rfl,ifN n_ca ⟨_,rfl,rfl,_,rfl,ifN n_co ⟨_,rfl,rfl,_,rfl,ifN n_cd ⟨_,rfl,rfl,_,rfl,ifN n_cn ⟨_,rfl,rfl,_,rfl,ifY rfl ?_⟩⟩⟩⟩⟩
  rw [zgx] at q
  have b0:ns.getD 0 0=0∨ns.getD 0 0=1:=zbD b (by omega)
  have at2:atI (ns.map V.int) (2 - ns.getD (0:Int).toNat 0)=some (.int (if ns.getD 0 0=1 then ns.getD 1 0 else ns.getD 2 0)):=by
   rcases b0 with e | e
   ·rw [if_neg (by omega)]
    have e2:(2:Int) - ns.getD (0:Int).toNat 0=2:=by show 2 - ns.getD 0 0=2;omega
    rw [e2]
    exact zb1 (by decide) (by rw [l1];decide)
   ·rw [if_pos e]
    have e2:(2:Int) - ns.getD (0:Int).toNat 0=1:=by show 2 - ns.getD 0 0=1;omega
    rw [e2]
    exact zb1 (by decide) (by rw [l1];decide)
  exact ⟨_,rfl,_,rfl,p,_,0,_,rfl,rfl,hS,zb1 (Int.le_refl 0) (by omega),_,_,rfl,rfl,p,_,_,_,rfl,rfl,hS,at2,q⟩
 ·subst h
  rw [zjg] at q
  refine ⟨_,rfl,rfl,_,rfl,ifN n_za ⟨_,rfl,rfl,_,rfl,ifN n_zo ⟨_,rfl,rfl,_,rfl,ifN n_zd ⟨_,rfl,rfl,_,rfl,ifN n_zn ⟨_,rfl,rfl,_,rfl,ifN n_zc ⟨_,rfl,rfl,.inr ⟨false,congrArg (fun z=>[V.bl z]) (decide_eq_false fun z=>n_z1 (V.str.inj z)),q⟩⟩⟩⟩⟩⟩⟩
 ·subst h
  rw [zlu] at q
  refine ⟨_,rfl,rfl,_,rfl,ifN n_1a ⟨_,rfl,rfl,_,rfl,ifN n_1o ⟨_,rfl,rfl,_,rfl,ifN n_1d ⟨_,rfl,rfl,_,rfl,ifN n_1n ⟨_,rfl,rfl,_,rfl,ifN n_1c ⟨_,rfl,rfl,.inr ⟨true,congrArg (fun z=>[V.bl z]) (decide_eq_true rfl),q⟩⟩⟩⟩⟩⟩⟩
theorem zdC:zay ["faults","stuck","fault"] ["faults"] (zah zb6):=⟨rfl,rfl,rfl,by decide+kernel,rfl,by decide+kernel,by decide+kernel⟩
theorem zhu (T:Txt K mg t):FnOk P w K mg base CX0 1 t.f_law_things t.fd_law_things ["faults"] (sp_ls K):=by
 refine T.d_law_things.F.okB zdC (fun vs H Q E h=>?_) (fun cdv A outer s H vs Q E hr h=>?_)
 ·obtain ⟨x,fs,rfl,_⟩:=h
  rfl
 obtain ⟨x,fs,rfl,hx,ap,lf,q⟩:=h
 have hu1:=zhV hr
 refine ⟨_,(zad (zaj (k:=1) zdC.nd rfl (Or.inl rfl) zeF)
  (zad (zaS PassesOwn.never rfl (zaD (bpv 0)) (zai (k:=2) zdC.nd rfl (Or.inl rfl)) (zag (zjX hu1 (bpv 1) (zbs ziY (bpv 2) zcC (zbt (zfv zfE zaf))) (zao zaC (bpv 2) (zfv zfE zaf) (fun _ _=>rfl)) rfl)))
  (zag (zaq (bpv 1))))),?_⟩
 refine fun d hd=>?_
 cases hx with
 | @lst fa ys _ hq rq=>
  have ly:ys.length=fs.length:=by rw [rq.length,List.length_map]
  refine ⟨_,rfl,fa,rfl,⟨_,(zae hd _).seq hq⟩,zbN (K:=K) (a:=fa) (xs:=ys)
   (fun i σ H3=>∃ (o2:Option V),σ = [some (.ref fa),some (.ref d),o2]∧Same H H3∧H3 d=some (.dT (tabV (fs.take i))))
   ⟨_,rfl,zae hd _,zab⟩ (fun i σ H3 _ ⟨_,_,s3,_⟩=>s3.seq hq) ?_ ?_⟩
  ·rintro i v σ H3 hv ⟨o2,rfl,s3,e3⟩
   obtain ⟨dd,hdd,rv⟩:=rq.get hv
   rw [List.getElem?_map] at hdd
   cases hz:fs[i]? with
   | none=>rw [hz] at hdd;cases hdd
   | some f=>
    rw [hz] at hdd
    cases hdd
    obtain ⟨fa1,rfl,hf⟩:=ziS rv
    have li:i < fs.length:=(List.getElem?_eq_some_iff.mp hz).1
    have et:fs.take (i+1)=fs.take i++ [f]:=by rw [List.take_add_one,hz];rfl
    have nl:look (fs.take i) f.place=none:=zdP fun z=>by
     unfold zcu at ap
     have e1:fs.map (·.place)=(fs.take (i+1)).map (·.place)++(fs.drop (i+1)).map (·.place):=by rw [← List.map_append,List.take_append_drop]
     rw [e1,et,List.map_append] at ap
     exact (List.nodup_append.mp (List.nodup_append.mp ap).1).2.2 _ z _ (List.mem_singleton.mpr rfl) rfl
    have nv:valV (tabV (fs.take i)) f.place=none:=by rw [zen,nl];rfl
    have lt:(tabV (fs.take i)).length≤1000:=by unfold tabV;rw [List.length_map,List.length_take];omega
    refine ⟨_,rfl,_,rfl,fa1,_,_,_,rfl,rfl,s3.seqT hf,zjn _ _,_,rfl,_,rfl,_,rfl,_,rfl,fa1,_,rfl,s3.seqT hf,zf1 _ _,fun T1 h1=>?_⟩
    rw [show (-(1:Int))= -1 from rfl,zeJ]
    have k1:=zae h1 (.tup (f.place.map kV))
    refine ⟨d,_,rfl,DPut.t (k:=f.place) (k1 _ _ e3) zab (big (by omega)),?_⟩
    refine ⟨_,rfl,(s3.trans k1).write hd _,?_⟩
    rw [zab,zhD _ nv,et]
    unfold tabV
    rw [List.map_append]
    rfl
  ·rintro σ H3 ⟨o2,rfl,s3,e3⟩
   rw [ly,List.take_length] at e3
   exact ⟨_,rfl,q d H3 s3 hd e3⟩
theorem za3:zay ["works","stuck","row","worths","wire","number","inputs","gates","outputs","own","place","kind","legs"] ["works","stuck","row"] (zah zck):=⟨rfl,rfl,rfl,by decide+kernel,rfl,by decide+kernel,by decide+kernel⟩
theorem zie (T:Txt K mg t):FnOk P w K mg base CX0 2 t.f_law_wires t.fd_law_wires ["works","stuck","row"] (sp_lws K):=by
 refine T.d_law_wires.F.okB za3 (fun vs H Q E h=>?_) (fun cdv A outer s H vs Q E hr h=>?_)
 ·obtain ⟨x,d,p,w,fs,row,rfl,_⟩:=h
  rfl
 obtain ⟨x,d,p,w,fs,row,rfl,hx,wf,hd,fb,hS,hl,b,q⟩:=h
 obtain ⟨a,ga,oa,gs,os,rfl,ha,hg,ho,rg,ro⟩:=za2 hx
 have hu1:=zhV hr
 have lg:gs.length=w.gates.length:=by rw [rg.length,List.length_map]
 have i1:=wf.i1
 have i6:=wf.i6
 have few:=wf.few
 refine ⟨_,(zad (zhK (bpv 0) (zcY rfl (zas (zai (k:=6) za3.nd rfl (Or.inl rfl)) (zas (zai (k:=7) za3.nd rfl (Or.inl rfl)) (zas (zai (k:=8) za3.nd rfl (Or.inl rfl)) zbq)))))
  (zad (zaj (k:=3) za3.nd rfl (Or.inl rfl) (zax zac))
  (zad (zaS PassesOwn.never rfl (zaZ rfl T.z_range (zaa (bpv 6) (zac))) (zai (k:=4) za3.nd rfl (Or.inl rfl)) (zag (zaR (zb4 PySem.F.plainAttrs_list PySem.F.slot_list_append PySem.F.type_list_append zaM (bpv 3) (zaa (zdj hu1 (bpv 1) (zaB (zaa zav (zaa (bpv 4) (zac)))) (zao zaN (bpv 2) (bpv 4) (fun _ _=>rfl)) ⟨rfl,rfl,rfl,rfl⟩) (zac))))))
  (zad (zaS PassesOwn.never rfl (zaZ rfl T.z_range (zaa (zaE zaz rfl T.z_len PySem.boot_len (zaa (bpv 7) (zac))) (zac))) (zai (k:=5) za3.nd rfl (Or.inl rfl)) (zad (zhK (zao zaN (bpv 7) (bpv 5) (fun _ _=>rfl)) (zcY rfl (zas (zai (k:=11) za3.nd rfl (Or.inl rfl)) (zas (zai (k:=12) za3.nd rfl (Or.inl rfl)) zbq))))
  (zad (zaj (k:=9) za3.nd rfl (Or.inl rfl) (zax zac))
  (zad (zaS PassesOwn.never rfl (zaZ rfl T.z_range (zaa (zaE zaz rfl T.z_len PySem.boot_len (zaa (bpv 12) (zac))) (zac))) (zai (k:=10) za3.nd rfl (Or.inl rfl)) (zag (zaR (zb4 PySem.F.plainAttrs_list PySem.F.slot_list_append PySem.F.type_list_append zaM (bpv 9) (zaa (zdj hu1 (bpv 1) (zaB (zaa zav (zaa (bpv 5) (zaa (bpv 10) (zac))))) (zao zaN (bpv 3) (zao zaC (bpv 12) (bpv 10) (fun _ _=>rfl)) (fun _ _=>rfl)) ⟨rfl,rfl,rfl,rfl⟩) (zac))))))
  (zag (zaR (zb4 PySem.F.plainAttrs_list PySem.F.slot_list_append PySem.F.type_list_append zaM (bpv 3) (zaa (zdj hu1 (bpv 1) (zaB (zaa zav (zaa (zak zbc (bpv 6) (bpv 5)) (zac)))) (zal (zh4 T) (hr.mono (by decide)) rfl T.d_law_worth.m T.d_law_worth.F.kp T.d_law_worth.b .nil zaH (zaa (bpv 11) (zaa (bpv 9) (zac)))) ⟨rfl,rfl,rfl,rfl⟩) (zac)))))))))
  (zag (zaq (bpv 3))))))),?_⟩
 refine ⟨_,rfl,a,_,rfl,ha,rfl,_,_,rfl,_,_,rfl,_,_,rfl,rfl,(by show 0≤sizeLine;decide),fun r hr1=>?_⟩
 have s1:=zae hr1 (.lst [])
 refine ⟨_,rfl,_,rfl,by omega,by omega,?_⟩
 refine zcb (fun i σ H2=>∃ (o4:Option V),σ = [some (.ref a),some (.ref d),some (.ref p),some (.ref r),o4,none,some (.int w.ins),some (.ref ga),some (.ref oa),none,none,none,none]∧Same H H2∧H2 r=some (.lst ((rowS fs (row.take i)).map V.int)))
  ⟨_,rfl,s1,zab⟩ ?_ ?_
 ·rintro i σ H2 hi ⟨o4,rfl,s2,e2⟩
  rw [Int.zero_add]
  have lj:i < row.length:=by omega
  obtain ⟨n,hz⟩:∃ n,row[i]? =some n:=⟨_,List.getElem?_eq_getElem lj⟩
  have av:atI (row.map V.int) (i:Int)=some (.int n):=zdg (by rw [List.getElem?_map,hz];rfl)
  refine ⟨_,rfl,.inl ⟨rfl,_,.of e2⟩,_,rfl,d,rfl,.inr ⟨_,.inl (s2 _ _ hd)⟩,_,rfl,(by show 2≤sizeLine;decide),fun T2 h2=>?_⟩
  have s4:=s2.upd h2 (.tup [.str "wire",.int i])
  refine ⟨_,rfl,_,rfl,p,_,_,_,rfl,rfl,s4.seq hS,av,_,DGet.t (k:=zbn i) (s4 _ _ hd) zab,?_⟩
  have e4:=zae h2 (.tup [.str "wire",.int i]) _ _ e2
  have lt:(row.take i).length=i:=by rw [List.length_take];omega
  refine ⟨r,_,_,rfl,rfl,e4,big (by rw [List.length_map,zfX,lt];omega),_,rfl,s4.write hr1 _,?_⟩
  rw [zab,List.take_add_one,hz]
  show _=some (HO.lst ((rowS fs (row.take i++ [n])).map V.int))
  rw [ziI,List.map_append,lt,zd1]
  rfl
 rintro σ H1 ⟨o4,rfl,s1,e1⟩
 have et:row.take w.ins.toNat=row:=by rw [List.take_of_length_le];omega
 rw [et] at e1
 refine ⟨_,rfl,ga,_,rfl,.inl (s1.seq hg),_,rfl,by omega,by omega,?_⟩
 refine zcb (fun i σ H3=>∃ (o5 o9 o10 o11 o12:Option V),σ = [some (.ref a),some (.ref d),some (.ref p),some (.ref r),o4,o5,some (.int w.ins),some (.ref ga),some (.ref oa),o9,o10,o11,o12]∧Same H H3∧H3 r=some (.lst ((zan fs w.gates row i).map V.int)))
  ⟨_,_,_,_,_,rfl,s1,e1⟩ ?_ ?_
 ·rintro i σ H3 hi ⟨o5,o9,o10,o11,o12,rfl,s3,e3⟩
  rw [Int.zero_add]
  have hi':i < w.gates.length:=by omega
  obtain ⟨g,hgk⟩:∃ g,w.gates[i]? =some g:=⟨_,List.getElem?_eq_getElem hi'⟩
  obtain ⟨v,hv,rv⟩:=rg.getD (i:=i) (d:=zhA g) (by rw [List.getElem?_map,hgk];rfl)
  obtain ⟨a1,la,rfl,hA,hL⟩:=zel rv
  obtain ⟨lk,lb⟩:=wf.legs i g hgk
  have bw:=zcX fb wf hl b i (by omega)
  have lw:=zbZ fs w.gates row i
  have l4:=lk.le
  refine ⟨_,rfl,_,rfl,ga,_,_,_,rfl,rfl,s3.seq hg,zdg hv,a1,_,rfl,s3.seqT hA,rfl,_,_,rfl,_,_,rfl,rfl,(by show 0≤sizeLine;decide),fun D hD=>?_⟩
  have k4:=zae hD (.lst [])
  have s4:=s3.trans k4
  have e4:=k4 _ _ e3
  have eD0:=zab (H:=H3) (a:=D) (o:=.lst [])
  have nD:H3 D=none:=hD
  generalize upd H3 D (.lst [])=H4 at k4 s4 e4 eD0
  have Dr:D≠r:=Ne.symm (zap e3 hD)
  refine ⟨_,rfl,la,_,rfl,.inr (s4.seqT hL),_,rfl,by omega,by rw [List.length_map];omega,?_⟩
  refine zcb (fun j σ H5=>∃ (o10:Option V),σ = [some (.ref a),some (.ref d),some (.ref p),some (.ref r),o4,some (.int i),some (.int w.ins),some (.ref ga),some (.ref oa),some (.ref D),o10,some (.str g.1),some (.ref la)]∧Same H3 H5∧H5 D=some (.lst ((zcS fs i ((g.2.take j).map fun l=>(zan fs w.gates row i).getD l.toNat 0)).map V.int)))
   ⟨_,rfl,k4,eD0⟩ ?_ ?_
  ·rintro j σ H5 hj ⟨o10',rfl,s5,eD⟩
   rw [Int.zero_add]
   rw [List.length_map] at hj
   have hj':j < g.2.length:=by omega
   obtain ⟨l,hz⟩:∃ l,g.2[j]? =some l:=⟨_,List.getElem?_eq_getElem hj'⟩
   have bl:=lb l (List.mem_of_getElem? hz)
   have s35:=s3.trans s5
   refine ⟨_,rfl,.inl ⟨rfl,_,.of eD⟩,_,rfl,d,rfl,.inr ⟨_,.inl (s35 _ _ hd)⟩,_,rfl,_,rfl,(by show 3≤sizeLine;decide),fun T2 h2=>?_⟩
   have k6:=zae h2 (.tup [.str "leg",.int i,.int j])
   have s6:=s35.trans k6
   have lt:(g.2.take j).length=j:=by rw [List.length_take];omega
   refine ⟨_,rfl,_,rfl,_,rfl,la,_,_,_,rfl,rfl,s6.seqT hL,zdg (by rw [List.getElem?_map,hz];rfl),r,_,_,_,rfl,rfl,.of ((s5.trans k6) _ _ e3),zb1 bl.1 (by rw [lw];omega),_,DGet.t (k:=legK i j) (s6 _ _ hd) zab,?_⟩
   refine ⟨D,_,_,rfl,rfl,k6 _ _ eD,big (by rw [List.length_map,zdu,List.length_map,lt];omega),_,rfl,(s5.trans k6).write nD _,?_⟩
   rw [zab,List.take_add_one,hz]
   show _=some (HO.lst ((zcS fs i ((g.2.take j++ [l]).map fun l=>(zan fs w.gates row i).getD l.toNat 0)).map V.int))
   rw [List.map_append]
   show _=some (HO.lst ((zcS fs i (((g.2.take j).map fun l=>(zan fs w.gates row i).getD l.toNat 0)++ [(zan fs w.gates row i).getD l.toNat 0])).map V.int))
   rw [zho,List.map_append,List.length_map,lt,zd1]
   rfl
  rintro σ H5 ⟨o10',rfl,s5,eD⟩
  have et2:g.2.take ((g.2.map V.int).length:Int).toNat=g.2:=by rw [List.length_map];exact List.take_of_length_le (by omega)
  rw [et2] at eD
  have s35:=s3.trans s5
  have e5:=s5 _ _ e3
  have bits:Bits (zcS fs i (g.2.map fun l=>(zan fs w.gates row i).getD l.toNat 0)):=zfl fb fun z hz=>by
   obtain ⟨l,hl',rfl⟩:=List.mem_map.mp hz
   exact zbD bw (by rw [lw];have:=lb l hl';omega)
  refine ⟨_,rfl,.inl ⟨rfl,_,.of e5⟩,_,rfl,d,rfl,.inr ⟨_,.inl (s35 _ _ hd)⟩,_,rfl,_,rfl,_,_,rfl,rfl,(by show 2≤sizeLine;decide),fun T2 h2=>?_⟩
  have k6:=zae h2 (.tup [.str "wire",.int (w.ins+(i:Int))])
  have rT:r≠T2:=zap e5 h2
  have ei:w.ins+(i:Int)=((row.length+i:Nat):Int):=by omega
  refine ⟨_,rfl,_,rfl,g.1,D,_,rfl,.of (k6 _ _ eD),bits,by rw [zdu,List.length_map];exact lk,_,DGet.t (k:=zbn ((row.length+i:Nat):Int)) ((s35.trans k6) _ _ hd) (by rw [zab];show some (HO.tup [V.str "wire",V.int (w.ins+(i:Int))])=_;rw [ei];rfl),?_⟩
  refine ⟨r,_,_,rfl,rfl,k6 _ _ e5,big (by rw [List.length_map,lw];omega),_,_,_,_,_,rfl,(s35.trans k6).write hr1 _,?_⟩
  rw [zab,zan,hgk,List.map_append,zd1]
  rfl
 ·rintro σ H3 ⟨o5,o9,o10,o11,o12,rfl,s3,e3⟩
  have e6:((gs.length:Nat):Int).toNat=w.gates.length:=by omega
  rw [e6] at e3
  exact ⟨_,rfl,q r H3 s3 hr1 e3⟩
theorem zcE:zay ["inputs","rows","k","longer","row"] ["inputs"] (zah zcH):=⟨rfl,rfl,rfl,by decide+kernel,rfl,by decide+kernel,by decide+kernel⟩
theorem zgg:∀ n,zaI (n+1)=(zaI n).flatMap (fun r=>[r++ [0],r++ [1]])
 | 0=>rfl
 | n+1=>by
  have e:∀ (c:Int) (rs:List (List Int)),(rs.map (c:: ·)).flatMap (fun r=>[r++ [0],r++ [1]])=(rs.flatMap (fun r=>[r++ [0],r++ [1]])).map (c:: ·):=fun c rs=>by
   induction rs with
   | nil=>rfl
   | cons r rs ih=>simp only [List.map_cons,List.flatMap_cons,List.map_append,ih];rfl
  rw [zaI,zgg n]
  conv=>rhs;rw [← zgg n,zaI,List.flatMap_append,e,e]
theorem zjc (T:Txt K mg t):FnOk P w K mg base CX0 1 t.f_law_rows t.fd_law_rows ["inputs"] sp_lr:=by
 refine T.d_law_rows.F.okB zcE (fun vs H Q E h=>?_) (fun cdv A outer s H vs Q E hr h=>?_)
 ·obtain ⟨n,rfl,_⟩:=h
  rfl
 obtain ⟨n,rfl,i0,i6,q⟩:=h
 refine ⟨_,(zad (zaj (k:=1) zcE.nd rfl (Or.inl rfl) (zax (zaa (zax zac) (zac))))
  (zad (zaS PassesOwn.never rfl (zaZ rfl T.z_range (zaa (bpv 0) (zac))) (zai (k:=2) zcE.nd rfl (Or.inl rfl)) (zad (zaj (k:=3) zcE.nd rfl (Or.inl rfl) (zax zac))
  (zad (zaS PassesOwn.never rfl (zaD (bpv 1)) (zai (k:=4) zcE.nd rfl (Or.inl rfl)) (zag (zaR (zb4 PySem.F.plainAttrs_list PySem.F.slot_list_extend PySem.F.type_list_extend zeS (bpv 3) (zaa (zax (zaa (zak zcO (bpv 4) (zax (zaa zaf (zac)))) (zaa (zak zcO (bpv 4) (zax (zaa zaf (zac)))) (zac)))) (zac))))))
  (zag (zaj (k:=1) zcE.nd rfl (Or.inl rfl) (bpv 3))))))
  (zag (zaq (bpv 1))))),?_⟩
 refine ⟨(by show 0≤sizeLine;decide),fun e0 he0=>⟨(by show 1≤sizeLine;decide),fun R0 hR0=>?_⟩⟩
 have k0:=zae he0 (.lst [])
 have k1:=zae hR0 (.lst [.ref e0])
 refine ⟨_,rfl,_,rfl,by omega,by omega,zcb (fun j σ H3=>∃ (R:Addr) (qs:List Addr) (o2 o3 o4:Option V),σ = [some (.int n),some (.ref R),o2,o3,o4]∧Same H H3∧H3 R=some (.lst (qs.map V.ref))∧At H3 qs (zaI j)) ⟨R0,[e0],_,_,_,rfl,k0.trans k1,zab,.cons (k1 _ _ zab) .nil⟩ ?_ ?_⟩
 ·rintro i σ H3 hi ⟨R,qs,o2,o3,o4,rfl,s3,eR,at3⟩
  have few:(zaI i).length≤64:=zj0 (by omega)
  have lq:=at3.len
  refine ⟨(by show 0≤sizeLine;decide),fun L hL=>?_⟩
  have kL:=zae hL (.lst [])
  refine ⟨_,rfl,R,rfl,⟨_,.of (kL _ _ eR)⟩,zbN (K:=K) (a:=R) (xs:=qs.map V.ref) (fun j σ H4=>∃ (G:Hp) (ps:List Addr) (o4:Option V),σ = [some (.int n),some (.ref R),some (.int (0+(i:Int))),some (.ref L),o4]∧Off [L] G H4∧Same H3 G∧H4 L=some (.lst (ps.map V.ref))∧At G ps (((zaI i).take j).flatMap (fun r=>[r++ [0],r++ [1]])))
   ⟨H3,[],_,rfl,Off.start hL _,Same.refl _,zab,.nil⟩ (fun j σ H4 _ ⟨_,_,_,_,o,s,_⟩=>.of ((s.trans o.same) _ _ eR)) ?_ ?_⟩
  ·rintro j y σ H4 hy ⟨G,ps,o4,rfl,off,sG,eL,atG⟩
   rw [List.getElem?_map] at hy
   cases hz:qs[j]? with
   | none=>rw [hz] at hy;cases hy
   | some qa=>
    rw [hz] at hy
    cases hy
    obtain ⟨rw',hrw,hqa⟩:=at3.get hz
    have lr:=(zar i rw' (List.mem_of_getElem? hrw)).1
    have lp:=atG.len
    have lpp:ps.length≤128:=by
     rw [lp]
     have:∀ rs:List (List Int),(rs.flatMap (fun r=>[r++ [0],r++ [1]])).length=2 * rs.length:=fun rs=>by
      induction rs with
      | nil=>rfl
      | cons r rs ih=>simp only [List.flatMap_cons,List.length_append,List.length_cons,List.length_nil,ih];omega
     rw [this,List.length_take]
     omega
    have eq4:=(sG.trans off.same) _ _ hqa
    refine ⟨_,rfl,.inl ⟨rfl,_,.of eL⟩,_,rfl,(by show 1≤sizeLine;decide),fun Z0 hZ0=>?_⟩
    have of5:=off.new hZ0 (.lst [.int 0])
    have kz0:=zae hZ0 (.lst [.int 0])
    refine ⟨qa,Z0,_,_,rfl,rfl,kz0 _ _ eq4,zab,bigE (by rw [List.length_map,List.length_singleton];omega),fun A0 hA0=>?_⟩
    have of6:=of5.lay hA0 (.lst (rw'.map V.int++ [.int 0]))
    have k6:=of5.add hA0 (.lst (rw'.map V.int++ [.int 0]))
    have ka0:=zae hA0 (.lst (rw'.map V.int++ [.int 0]))
    refine ⟨_,rfl,(by show 1≤sizeLine;decide),fun Z1 hZ1=>?_⟩
    have of7:=of6.new hZ1 (.lst [.int 1])
    have kz1:=zae hZ1 (.lst [.int 1])
    refine ⟨qa,Z1,_,_,rfl,rfl,kz1 _ _ (ka0 _ _ (kz0 _ _ eq4)),zab,bigE (by rw [List.length_map,List.length_singleton];omega),fun A1 hA1=>?_⟩
    have of8:=of7.lay hA1 (.lst (rw'.map V.int++ [.int 1]))
    have k8:=of7.add hA1 (.lst (rw'.map V.int++ [.int 1]))
    have ka1:=zae hA1 (.lst (rw'.map V.int++ [.int 1]))
    refine ⟨(by show 2≤sizeLine;decide),fun B hB=>?_⟩
    have of9:=of8.new hB (.lst [.ref A0,.ref A1])
    have kb:=zae hB (.lst [.ref A0,.ref A1])
    have kk:=(((kz0.trans ka0).trans kz1).trans ka1).trans kb
    refine ⟨L,B,_,_,rfl,rfl,kk _ _ eL,zab,bigE (by rw [List.length_map];simp;omega),_,ps++ [A0,A1],_,rfl,of9.write (.head _) _,sG.trans (k6.trans k8),by rw [zab,List.map_append];rfl,?_⟩
    have et:(zaI i).take (j+1)=(zaI i).take j++ [rw']:=by rw [List.take_add_one,hrw];rfl
    rw [et,List.flatMap_append]
    refine (atG.mono (k6.trans k8)).append (.cons (by rw [List.map_append];exact k8 _ _ zab) (.cons (by rw [List.map_append];exact zab) .nil))
  ·rintro σ H4 ⟨G,ps,o4,rfl,off,sG,eL,atG⟩
   have et:(zaI i).take (qs.map V.ref).length=zaI i:=by rw [List.length_map,lq,List.take_length]
   rw [et,← zgg] at atG
   exact ⟨_,rfl,L,ps,_,_,_,rfl,s3.trans (sG.trans off.same),eL,atG.mono off.same⟩
 ·rintro σ H3 ⟨R,qs,o2,o3,o4,rfl,s3,eR,at3⟩
  exact ⟨_,rfl,q R qs H3 s3 eR at3⟩
theorem zaK:zay ["works","found","wire","number","inputs","gates","outputs","place"] ["works"] (zah zaY):=⟨rfl,rfl,rfl,by decide+kernel,rfl,by decide+kernel,by decide+kernel⟩
theorem zkr {m:Nat}{w:zat}(h:WF m w)(k:Nat):(zei (w.ins.toNat+w.gates.length)++zdK w.gates k).length≤2 * (w.ins.toNat+w.gates.length)+8 * k:=by
 rw [List.length_append,zd2]
 have:=zg6 h k
 omega
theorem zeI (T:Txt K mg t):FnOk P w K mg base CX0 1 t.f_law_every_fault t.fd_law_every_fault ["works"] (sp_lef K):=by
 refine T.d_law_every_fault.F.okB zaK (fun vs H Q E h=>?_) (fun cdv A outer s H vs Q E hr h=>?_)
 ·obtain ⟨x,w,rfl,_⟩:=h
  rfl
 obtain ⟨x,w,rfl,hx,wf,q⟩:=h
 obtain ⟨a,ga,oa,gs,os,rfl,ha,hg,ho,rg,ro⟩:=za2 hx
 have lg:gs.length=w.gates.length:=by rw [rg.length,List.length_map]
 have i1:=wf.i1
 have i6:=wf.i6
 have few:=wf.few
 refine ⟨_,(zad (zhK (bpv 0) (zcY rfl (zas (zai (k:=4) zaK.nd rfl (Or.inl rfl)) (zas (zai (k:=5) zaK.nd rfl (Or.inl rfl)) (zas (zai (k:=6) zaK.nd rfl (Or.inl rfl)) zbq)))))
  (zad (zaj (k:=1) zaK.nd rfl (Or.inl rfl) (zax zac))
  (zad (zaS PassesOwn.never rfl (zaZ rfl T.z_range (zaa (zak zbc (bpv 4) (zaE zaz rfl T.z_len PySem.boot_len (zaa (bpv 5) (zac)))) (zac))) (zai (k:=2) zaK.nd rfl (Or.inl rfl)) (zag (zaR (zb4 PySem.F.plainAttrs_list PySem.F.slot_list_extend PySem.F.type_list_extend zeS (bpv 1) (zaa (zax (zaa (zaB (zaa zav (zaa (bpv 2) (zaa zaf (zac))))) (zaa (zaB (zaa zav (zaa (bpv 2) (zaa zaf (zac))))) (zac)))) (zac))))))
  (zad (zaS PassesOwn.never rfl (zaZ rfl T.z_range (zaa (zaE zaz rfl T.z_len PySem.boot_len (zaa (bpv 5) (zac))) (zac))) (zai (k:=3) zaK.nd rfl (Or.inl rfl)) (zag (zaS PassesOwn.never rfl (zaZ rfl T.z_range (zaa (zaE zaz rfl T.z_len PySem.boot_len (zaa (zao zaC (zao zaN (bpv 5) (bpv 3) (fun _ _=>rfl)) zaf (fun _ _=>rfl)) (zac))) (zac))) (zai (k:=7) zaK.nd rfl (Or.inl rfl)) (zag (zaR (zb4 PySem.F.plainAttrs_list PySem.F.slot_list_extend PySem.F.type_list_extend zeS (bpv 1) (zaa (zax (zaa (zaB (zaa zav (zaa (bpv 3) (zaa (bpv 7) (zaa zaf (zac)))))) (zaa (zaB (zaa zav (zaa (bpv 3) (zaa (bpv 7) (zaa zaf (zac)))))) (zac)))) (zac))))))))
  (zag (zaq (bpv 1))))))),?_⟩
 refine ⟨_,rfl,a,_,rfl,ha,rfl,_,_,rfl,_,_,rfl,_,_,rfl,rfl,(by show 0≤sizeLine;decide),fun f hf=>?_⟩
 have push:∀ {G H2:Hp} {xs:List V} {ds:List Dat} {T1 T2 B:Addr} {u v:List V} {du dv:List Dat},Off [f] G H2→Same H G→H2 f=some (.lst xs)→Reps K G xs ds→H2 T1=none→(upd H2 T1 (.tup u)) T2=none→(upd (upd H2 T1 (.tup u)) T2 (.tup v)) B=none→(∀ Z,Reps K Z u du)→(∀ Z,Reps K Z v dv)→
   (upd (upd (upd H2 T1 (.tup u)) T2 (.tup v)) B (.lst [.ref T1,.ref T2])) f=some (.lst xs)∧∃ G',Off [f] G' (upd (upd (upd (upd H2 T1 (.tup u)) T2 (.tup v)) B (.lst [.ref T1,.ref T2])) f (.lst (xs++ [.ref T1,.ref T2])))∧Same H G'∧Reps K G' (xs++ [.ref T1,.ref T2]) (ds++ [.tuple du,.tuple dv]):=by
  intro G H2 xs ds T1 T2 B u v du dv off sG ef rs h1 h2 hB ru rv
  have of1:=off.lay h1 (.tup u)
  have k1:=off.add h1 (.tup u)
  have of2:=of1.lay h2 (.tup v)
  have k2:=of1.add h2 (.tup v)
  have of3:=of2.new hB (.lst [.ref T1,.ref T2])
  refine ⟨((zae h1 _).trans ((zae h2 _).trans (zae hB _))) _ _ ef,_,of3.write (.head _) _,sG.trans (k1.trans k2),?_⟩
  exact (rs.mono (k1.trans k2)).append (.cons (.tup (.of (k2 _ _ zab)) (ru _)) (.cons (.tup (.of zab) (rv _)) .nil))
 refine ⟨_,rfl,_,rfl,ga,_,rfl,.inl ((zae hf _).seq hg),_,_,rfl,rfl,_,rfl,by omega,by omega,?_⟩
 refine zcb (fun i σ H2=>∃ (G:Hp) (xs:List V) (o2:Option V),σ = [some (.ref a),some (.ref f),o2,none,some (.int w.ins),some (.ref ga),some (.ref oa),none]∧Off [f] G H2∧Same H G∧H2 f=some (.lst xs)∧Reps K G xs (zei i)) ⟨H,[],_,rfl,Off.start hf _,Same.refl _,zab,.nil⟩ ?_ ?_
 ·rintro i σ H2 hi ⟨G,xs,o2,rfl,off,sG,ef,rs⟩
  rw [Int.zero_add]
  have lx:=rs.length
  rw [zd2] at lx
  refine ⟨_,rfl,.inl ⟨rfl,_,.of ef⟩,_,rfl,(by show 3≤sizeLine;decide),fun T1 h1=>⟨_,rfl,(by show 3≤sizeLine;decide),fun T2 h2=>⟨(by show 2≤sizeLine;decide),fun B hB=>?_⟩⟩⟩
  obtain ⟨e5,G',o',s',r'⟩:=push (du:=[.str "wire",.int i,.int 0]) (dv:=[.str "wire",.int i,.int 1]) off sG ef rs h1 h2 hB (fun _=>.cons (.str _) (.cons (.int _) (.cons (.int _) .nil))) (fun _=>.cons (.str _) (.cons (.int _) (.cons (.int _) .nil)))
  exact ⟨f,B,_,_,rfl,rfl,e5,zab,bigE (by simp;omega),G',_,_,rfl,o',s',zab,r'⟩
 rintro σ H2 ⟨G,xs,o2,rfl,off,sG,ef,rs⟩
 have e2:(w.ins+(gs.length:Int)).toNat=w.ins.toNat+w.gates.length:=by omega
 rw [e2] at rs
 refine ⟨_,rfl,ga,_,rfl,.inl ((sG.trans off.same).seq hg),_,rfl,by omega,by omega,?_⟩
 refine zcb (fun k σ H3=>∃ (G:Hp) (xs:List V) (o3 o7:Option V),σ = [some (.ref a),some (.ref f),o2,o3,some (.int w.ins),some (.ref ga),some (.ref oa),o7]∧Off [f] G H3∧Same H G∧H3 f=some (.lst xs)∧Reps K G xs (zei (w.ins.toNat+w.gates.length)++zdK w.gates k)) ⟨G,xs,_,_,rfl,off,sG,ef,by simpa [zdK] using rs⟩ ?_ ?_
 ·rintro k σ H3 hk ⟨G3,xs3,o3,o7,rfl,off3,sG3,ef3,rs3⟩
  rw [Int.zero_add]
  have hk':k < w.gates.length:=by omega
  obtain ⟨g,hgk⟩:∃ g,w.gates[k]? =some g:=⟨_,List.getElem?_eq_getElem hk'⟩
  obtain ⟨v,hv,rv⟩:=rg.getD (i:=k) (d:=zhA g) (by rw [List.getElem?_map,hgk];rfl)
  obtain ⟨a1,la,rfl,h1,h2⟩:=zel rv
  have lk:=(wf.legs k g hgk).1.le
  have fk:=zkr wf k
  have sH3:=sG3.trans off3.same
  refine ⟨_,rfl,_,rfl,ga,_,_,_,rfl,rfl,sH3.seq hg,zdg hv,a1,_,_,_,rfl,rfl,sH3.seqT h1,rfl,la,_,rfl,.inr (sH3.seqT h2),_,rfl,by omega,by rw [List.length_map];omega,?_⟩
  refine zcb (fun j σ H4=>∃ (G:Hp) (xs:List V) (o7:Option V),σ = [some (.ref a),some (.ref f),o2,some (.int k),some (.int w.ins),some (.ref ga),some (.ref oa),o7]∧Off [f] G H4∧Same H G∧H4 f=some (.lst xs)∧Reps K G xs (zei (w.ins.toNat+w.gates.length)++zdK w.gates k++zht k j)) ⟨G3,xs3,_,rfl,off3,sG3,ef3,by simpa [zht] using rs3⟩ ?_ ?_
  ·rintro j σ H4 hj ⟨G4,xs4,o7',rfl,off4,sG4,ef4,rs4⟩
   rw [Int.zero_add]
   rw [List.length_map] at hj
   have lx:=rs4.length
   rw [List.length_append,zgt] at lx
   refine ⟨_,rfl,.inl ⟨rfl,_,.of ef4⟩,_,rfl,_,rfl,(by show 4≤sizeLine;decide),fun T1 h1=>⟨_,rfl,_,rfl,(by show 4≤sizeLine;decide),fun T2 h2=>⟨(by show 2≤sizeLine;decide),fun B hB=>?_⟩⟩⟩
   obtain ⟨e5,G',o',s',r'⟩:=push (du:=[.str "leg",.int k,.int j,.int 0]) (dv:=[.str "leg",.int k,.int j,.int 1]) off4 sG4 ef4 rs4 h1 h2 hB (fun _=>.cons (.str _) (.cons (.int _) (.cons (.int _) (.cons (.int _) .nil)))) (fun _=>.cons (.str _) (.cons (.int _) (.cons (.int _) (.cons (.int _) .nil))))
   refine ⟨f,B,_,_,rfl,rfl,e5,zab,bigE (by simp;omega),G',_,_,rfl,o',s',zab,?_⟩
   rw [zht,← List.append_assoc]
   exact r'
  ·rintro σ H4 ⟨G4,xs4,o7',rfl,off4,sG4,ef4,rs4⟩
   have e3:((g.2.map V.int).length:Int).toNat=g.2.length:=by rw [List.length_map];omega
   rw [e3] at rs4
   exact ⟨G4,xs4,_,_,rfl,off4,sG4,ef4,by simpa [zdK,hgk,List.append_assoc] using rs4⟩
 ·rintro σ H3 ⟨G3,xs3,o3,o7,rfl,off3,sG3,ef3,rs3⟩
  have e4:((gs.length:Nat):Int).toNat=w.gates.length:=by omega
  rw [e4] at rs3
  exact ⟨_,rfl,q f xs3 H3 (sG3.trans off3.same) hf ef3 (rs3.mono off3.same)⟩
theorem zbp:zay ["works","row","every","found","number","fault"] ["works","row"] (zah za0):=⟨rfl,rfl,rfl,by decide+kernel,rfl,by decide+kernel,by decide+kernel⟩
theorem zkB {m:Nat}{w:zat}(h:WF m w): 0 < (zcI w).length:=by
 have i1:=h.i1
 unfold zcI
 rw [List.length_append,zd2]
 omega
theorem zkF {w:zat}{d:Dat}(h:d∈zcI w):∃ f,d=fltD f∧zb2 w f:=by
 have h0:=h
 rw [← zc6,← zil] at h
 unfold zef at h
 obtain ⟨p,hp,hm⟩:=List.mem_flatMap.mp h
 obtain ⟨q,hq,rfl⟩:=List.mem_map.mp hp
 rcases List.mem_cons.mp hm with e | hm
 ·exact ⟨⟨q,0⟩,e,hq,.inl rfl⟩
 ·rcases List.mem_cons.mp hm with e | hm
  ·exact ⟨⟨q,1⟩,e,hq,.inr rfl⟩
  ·exact nomatch hm
theorem zc5 (T:Txt K mg t):FnOk P w K mg base CX0 2 t.f_law_some_faults t.fd_law_some_faults ["works","row"] (sp_sf K):=by
 refine T.d_law_some_faults.F.okB zbp (fun vs H Q E h=>?_) (fun cdv A outer s H vs Q E hr h=>?_)
 ·obtain ⟨x,p,w,row,rfl,_⟩:=h
  rfl
 obtain ⟨x,p,w,row,rfl,hx,wf,hS,lr,br,q⟩:=h
 have hu64:=hr.units
 refine ⟨_,(zad (zaj (k:=2) zbp.nd rfl (Or.inl rfl) (zal (zeI T) (hr.mono (by decide)) rfl T.d_law_every_fault.m T.d_law_every_fault.F.kp T.d_law_every_fault.b .nil zaH (zaa (bpv 0) (zac))))
  (zad (zaj (k:=3) zbp.nd rfl (Or.inl rfl) (zax zac))
  (zad (zaS PassesOwn.never rfl (zaD (zbs zdy (bpv 1) (zbt zaf) (zbt (zak zbc zaf (zao zaN (zax (zaa zaf (zaa zaf (zaa zaf (zaa zaf (zaa zaf (zaa zaf (zaa zaf (zac))))))))) (zak zcs (zao zaN (bpv 1) zaf (fun _ _=>rfl)) zaf) (fun _ _=>rfl)))))) (zai (k:=4) zbp.nd rfl (Or.inl rfl)) (zad (zaj (k:=5) zbp.nd rfl (Or.inl rfl) (zao zaN (bpv 2) (zak zcs (bpv 4) (zaE zaz rfl T.z_len PySem.boot_len (zaa (bpv 2) (zac)))) (fun _ _=>rfl)))
  (zag (zbd (zaA (zio hu64) (zbs ziY (bpv 5) zcC (zbt (zfv zfE zaf))) (zaV rfl (N:=["one"]) (n:=1) (cap:=[]) (zbG rfl rfl) (zaD (bpv 3)) (zaL (by decide)) (fun _ _ _ _=>(zai (k:=0) (show (["one"]:List Str).Nodup by decide+kernel) rfl (Or.inl rfl))) (fun _ _ _ _=>zaJ) (fun _ _ _ _=>(zbs (znJ (K:=K)) (bpv 0) zcC (zbt (zfv zfE zaf))))) rfl) (zag (zaR (zb4 PySem.F.plainAttrs_list PySem.F.slot_list_append PySem.F.type_list_append zaM (bpv 3) (zaa (bpv 5) (zac))))) zaF))))
  (zag (zaq (bpv 3)))))),?_⟩
 refine ⟨_,rfl,x,w,rfl,hx,wf,fun ev xs H1 s1 nev eev rev=>?_⟩
 have lev:xs.length=(zcI w).length:=rev.length
 have ne:=zkB wf
 refine ⟨(by show 0≤sizeLine;decide),fun F hF=>?_⟩
 have kF:=zae hF (.lst [])
 have eF0:=zab (H:=H1) (a:=F) (o:=.lst [])
 have eev2:=kF _ _ eev
 have s2:=s1.trans kF
 have evF:ev≠F:=zap eev hF
 have ofF:=Off.start hF (.lst [])
 generalize upd H1 F (.lst [])=H2 at kF eF0 eev2 s2 ofF
 refine ⟨_,rfl,_,rfl,(by show 7≤sizeLine;decide),fun L hL=>?_⟩
 have kL:=zae hL (.lst [.int 1,.int 1,.int 1,.int 2,.int 3,.int 0,.int 8])
 have at0:atI (row.map V.int) 0=some (.int (row.getD (0:Int).toNat 0)):=zb1 (by decide) (by rw [lr];decide)
 obtain ⟨m,em,hm8⟩:∃ m:Nat,atI [V.int 1,.int 1,.int 1,.int 2,.int 3,.int 0,.int 8] (row.getD (0:Int).toNat 0 % 7)=some (.int m)∧m≤8:=by
  have h5:row.getD (0:Int).toNat 0 % 7=0∨row.getD (0:Int).toNat 0 % 7=1∨row.getD (0:Int).toNat 0 % 7=2∨row.getD (0:Int).toNat 0 % 7=3∨row.getD (0:Int).toNat 0 % 7=4∨row.getD (0:Int).toNat 0 % 7=5∨row.getD (0:Int).toNat 0 % 7=6:=by omega
  rcases h5 with e | e | e | e | e | e | e <;> rw [e]
  ·exact ⟨1,rfl,by decide⟩
  ·exact ⟨1,rfl,by decide⟩
  ·exact ⟨1,rfl,by decide⟩
  ·exact ⟨2,rfl,by decide⟩
  ·exact ⟨3,rfl,by decide⟩
  ·exact ⟨0,rfl,by decide⟩
  ·exact ⟨8,rfl,by decide⟩
 refine ⟨_,rfl,p,_,_,_,rfl,rfl,(s2.trans kL).seq hS,at0,_,_,rfl,rfl,(by show (0:Int) < 7;decide),L,_,_,_,rfl,rfl,.of zab,em,_,_,rfl,rfl,_,rfl,p,_,rfl,(s2.trans kL).seq hS,fun S hS2=>?_⟩
 rw [zjl row (by decide) (by omega) (by omega)]
 obtain ⟨zs,ezs⟩:∃ zs,(row.drop (1:Int).toNat).take (1+(m:Int) - 1).toNat=zs:=⟨_,rfl⟩
 have lz:zs.length≤8:=by
  rw [← ezs,List.length_take]
  omega
 have bz:∀ z∈zs,0≤z:=fun z hz=>br z (by rw [← ezs] at hz;exact List.mem_of_mem_drop (List.mem_of_mem_take hz))
 rw [ezs]
 have kS:=zae hS2 (.lst (zs.map V.int))
 have k2S:=kL.trans kS
 have eS:=zab (H:=upd H2 L (.lst [.int 1,.int 1,.int 1,.int 2,.int 3,.int 0,.int 8])) (a:=S) (o:=.lst (zs.map V.int))
 have of3:=ofF.grow k2S
 have eF3:=k2S _ _ eF0
 have SF:S≠F:=Ne.symm (zap (kL _ _ eF0) hS2)
 generalize upd (upd H2 L (.lst [.int 1,.int 1,.int 1,.int 2,.int 3,.int 0,.int 8])) S (.lst (zs.map V.int))=H3 at kS k2S eS of3 eF3
 refine ⟨S,rfl,⟨_,.of eS⟩,zbN (K:=K) (a:=S) (xs:=zs.map V.int)
  (fun i σ H5=>∃ (fs:List Flt) (vs:List V) (o4 o5:Option V),σ = [some x,some (.ref p),some (.ref ev),some (.ref F),o4,o5]∧Off [F] H1 H5∧H5 S=some (.lst (zs.map V.int))∧H5 F=some (.lst vs)∧Reps K H1 vs (fs.map fltD)∧(∀ f∈fs,zb2 w f)∧zcu fs∧fs.length≤i)
  ⟨[],[],_,_,rfl,of3,eS,eF3,.nil,(fun _ z=>nomatch z),List.nodup_nil,Nat.le_refl _⟩ (fun i σ H5 _ ⟨_,_,_,_,_,_,e,_⟩=>.of e) ?_ ?_⟩
 ·rintro i y σ H5 hy ⟨fs,vs,o4,o5,rfl,of5,eS5,eF5,rvs,gd,ap,lf⟩
  rw [List.getElem?_map] at hy
  cases hz:zs[i]? with
  | none=>rw [hz] at hy;cases hy
  | some z=>
   rw [hz] at hy
   cases hy
   have z0:=bz z (List.mem_of_getElem? hz)
   have iz:i < zs.length:=(List.getElem?_eq_some_iff.mp hz).1
   have e0:=Int.emod_nonneg z (show (xs.length:Int)≠0 by omega)
   have e1:=Int.emod_lt_of_pos z (show 0 < (xs.length:Int) by omega)
   obtain ⟨k,ek,hk⟩:∃ k:Nat,z % (xs.length:Int)=k∧k < xs.length:=⟨(z % (xs.length:Int)).toNat,by omega,by omega⟩
   obtain ⟨v,hv⟩:∃ v,xs[k]? =some v:=⟨_,List.getElem?_eq_getElem hk⟩
   obtain ⟨dd,hdd,rv⟩:=rev.get hv
   obtain ⟨f,rfl,gf⟩:=zkF (List.mem_of_getElem? hdd)
   obtain ⟨fa1,rfl,hf⟩:=ziS rv
   have s15:=of5.same
   refine ⟨_,rfl,_,rfl,_,rfl,ev,_,rfl,.inl (.of (s15 _ _ eev)),_,_,rfl,rfl,(by show 0 < (xs.length:Int);omega),ev,_,_,_,rfl,rfl,.of (s15 _ _ eev),(by rw [ek];exact zdg hv),?_⟩
   refine ⟨_,rfl,_,rfl,_,rfl,fa1,_,rfl,s15.seqT hf,zf1 _ _,fun T1 h1=>?_⟩
   rw [show (-(1:Int))= -1 from rfl,zeJ]
   have of6:=of5.new h1 (.tup (f.place.map kV))
   have k6:=zae h1 (.tup (f.place.map kV))
   have eF6:=k6 _ _ eF5
   have eT6:=zab (H:=H5) (a:=T1) (o:=.tup (f.place.map kV))
   generalize upd H5 T1 (.tup (f.place.map kV))=H6 at of6 k6 eF6 eT6
   have lv:vs.length=fs.length:=by rw [rvs.length,List.length_map]
   refine ⟨_,rfl,F,rfl,⟨_,.of eF6⟩,fun D hD=>zba (K:=K) (a:=F) (xs:=vs)
    (fun j H7=>∃ us:List V,Same H6 H7∧Off [D] H6 H7∧H7 D=some (.lst us)∧∃ G7,Same H6 G7∧Off [D] G7 H7∧Reps K G7 us ((fs.take j).map fun f=>Dat.tuple (f.place.map kD)))
    ⟨[],zae hD _,Off.start hD _,zab,H6,Same.refl _,Off.start hD _,.nil⟩ (fun j H7 _ ⟨_,s7,_⟩=>.of (s7 _ _ eF6)) ?_ ?_⟩
   ·rintro j u H7 hu ⟨us,s7,of7,eD,G7,sG7,oG7,rus⟩
    obtain ⟨dd2,hdd2,rv2⟩:=rvs.get hu
    rw [List.getElem?_map] at hdd2
    cases hz2:fs[j]? with
    | none=>rw [hz2] at hdd2;cases hdd2
    | some f2=>
     rw [hz2] at hdd2
     cases hdd2
     obtain ⟨fa2,rfl,hf2⟩:=ziS rv2
     have s17:=(of6.same.trans s7)
     refine ⟨_,rfl,_,rfl,_,rfl,fa2,_,rfl,s17.seqT hf2,zf1 _ _,fun T3 h3=>?_⟩
     rw [show (-(1:Int))= -1 from rfl,zeJ]
     have k8:=zae h3 (.tup (f2.place.map kV))
     have lu:us.length=(fs.take j).length:=by rw [rus.length,List.length_map]
     have lj:j < fs.length:=(List.getElem?_eq_some_iff.mp hz2).1
     rw [List.length_take] at lu
     refine ⟨us,k8 _ _ eD,big (by omega),us++ [.ref T3],(s7.trans k8).write hD _,(of7.new h3 _).write (.head _) _,zab,upd G7 T3 (.tup (f2.place.map kV)),sG7.trans (oG7.add h3 _),(oG7.lay h3 _).write (.head _) _,?_⟩
     have et:fs.take (j+1)=fs.take j++ [f2]:=by rw [List.take_add_one,hz2];rfl
     rw [et,List.map_append]
     exact (rus.mono (oG7.add h3 _)).snoc (.tup (.of zab) (zeb f2.place))
   rintro H7 ⟨us,s7,of7,eD,G7,sG7,oG7,rus⟩
   rw [lv,List.take_length] at rus
   have s17:=of6.same.trans s7
   have okp:∀ e∈fs.map (fun f:Flt=>Dat.tuple (f.place.map kD)),kqdOk 8 e=true:=fun e he=>by
    obtain ⟨f2,hf2,rfl⟩:=List.mem_map.mp he
    exact zjN (gd f2 hf2) 7
   have of7':=(of5.grow ((k6).trans s7))
   have eF7:=s7 _ _ eF6
   have eS7:=(k6.trans s7) _ _ eS5
   refine ⟨.tuple (f.place.map kD),fs.map (fun f:Flt=>Dat.tuple (f.place.map kD)),.tup (.of (s7 _ _ eT6)) (zeb f.place),.lst (.of eD) (rus.mono oG7.same),zjN gf 7,okp,fun mf=>⟨_,rfl,iteF ?_⟩,fun mf=>⟨_,rfl,iteT ?_⟩⟩
   ·exact ⟨fs,vs,_,_,rfl,of7',eS7,eF7,rvs,gd,ap,by omega⟩
   ·refine ⟨_,rfl,.inl ⟨rfl,_,.of eF7⟩,_,rfl,F,_,_,rfl,rfl,eF7,big (by omega),?_⟩
    refine ⟨fs++ [f],vs++ [.ref fa1],_,_,rfl,of7'.write (.head _) _,by rw [zam SF];exact eS7,zab,?_,fun g hg=>?_,?_,by simp;omega⟩
    ·rw [List.map_append]
     exact rvs.snoc (zlb hf)
    ·rcases List.mem_append.mp hg with hg | hg
     ·exact gd g hg
     ·rw [List.mem_singleton.mp hg];exact gf
    ·refine zkV ap (zdP fun z=>mf ?_)
     obtain ⟨g,hg,e⟩:=List.mem_map.mp z
     exact List.mem_map.mpr ⟨g,hg,by rw [e]⟩
 ·rintro σ H5 ⟨fs,vs,o4,o5,rfl,of5,eS5,eF5,rvs,gd,ap,lf⟩
  rw [List.length_map] at lf
  exact ⟨_,rfl,q F fs H5 (s1.trans of5.same) (s1.free hF) ⟨.lst (.of eF5) (rvs.mono of5.same),gd,ap,by omega⟩⟩
theorem zek:zay ["works","faults","row","worths"] ["works","faults","row"] (zah zbR):=⟨rfl,rfl,rfl,by decide+kernel,rfl,by decide+kernel,by decide+kernel⟩
theorem zeg (T:Txt K mg t):FnOk P w K mg base CX0 3 t.f_law_outputs t.fd_law_outputs ["works","faults","row"] (sp_lo K):=by
 refine T.d_law_outputs.F.okB zek (fun vs H Q E h=>?_) (fun cdv A outer s H vs Q E hr h=>?_)
 ·obtain ⟨x,y,p,w,fs,row,rfl,_⟩:=h
  rfl
 obtain ⟨x,y,p,w,fs,row,rfl,hx,wf,hy,fb,ap,lf,hS,hl,b,q⟩:=h
 refine ⟨_,(zad (zaj (k:=3) zek.nd rfl (Or.inr rfl) (zal (zie T) (hr.mono (by decide)) rfl T.d_law_wires.m T.d_law_wires.F.kp T.d_law_wires.b .nil zaH (zaa (bpv 0) (zaa (zal (zhu T) (hr.mono (by decide)) rfl T.d_law_things.m T.d_law_things.F.kp T.d_law_things.b .nil zaH (zaa (bpv 1) (zac))) (zaa (bpv 2) (zac))))))
  (zag (zaq (zaV rfl (N:=["wire","worths"]) (n:=1) (cap:=[3]) (zbG rfl rfl) (zaD (zao zaC (bpv 0) zaf (fun _ _=>rfl))) (zaL (by decide)) (fun _ _ _ _=>(zai (k:=0) (show (["wire","worths"]:List Str).Nodup by decide+kernel) rfl (Or.inl rfl))) (fun _ _ _ _=>zaJ) (fun _ _ _ _=>(zao (zed (K:=K)) (bpv 1) (bpv 0) (fun _ _=>rfl))))))),?_⟩
 refine ⟨_,rfl,_,rfl,y,fs,rfl,hy,ap,lf,fun d H0 s0 nd ed=>?_⟩
 refine ⟨_,rfl,x,d,p,w,fs,row,rfl,hx.mono s0,wf,ed,fb,s0.seq hS,hl,b,fun r H1' s1' n1 e1=>?_⟩
 have s1:=s0.trans s1'
 obtain ⟨a,ga,oa,gs,os,rfl,ha,hg,ho,rg,ro⟩:=za2 (hx.mono s1)
 have eo:=zdr ro
 subst eo
 have lw:=zbZ fs w.gates row w.gates.length
 have o3:=wf.o3
 refine ⟨_,rfl,a,_,_,_,rfl,rfl,ha,rfl,oa,rfl,⟨_,ho⟩,fun D hD=>zba (K:=K) (a:=oa) (xs:=w.outs.map V.int)
   (fun j H4=>Same H1' H4∧H4 D=some (.lst (((w.outs.take j).map fun o=>(zan fs w.gates row w.gates.length).getD o.toNat 0).map V.int))) ⟨zae hD _,zab⟩ (fun j H4 _ z=>z.1.seq ho) ?_ ?_⟩
 ·rintro j y H4 hy ⟨s4,eD⟩
  rw [List.getElem?_map] at hy
  cases hz:w.outs[j]? with
  | none=>rw [hz] at hy;cases hy
  | some o=>
   rw [hz] at hy
   cases hy
   have lj:j < w.outs.length:=(List.getElem?_eq_some_iff.mp hz).1
   have bo:=wf.outs o (List.mem_of_getElem? hz)
   refine ⟨_,rfl,_,rfl,r,_,_,_,rfl,rfl,.of (s4 _ _ e1),zb1 bo.1 (by rw [lw];omega),?_⟩
   refine ⟨_,eD,big (by simp;omega),s4.write hD _,?_⟩
   rw [zab,List.take_add_one,hz]
   simp
 ·rintro H4 ⟨s4,eD⟩
  have et:w.outs.take (w.outs.map V.int).length=w.outs:=by rw [List.length_map,List.take_length]
  rw [et] at eD
  exact q D H4 (s1.trans s4) (s1.free hD) eD
theorem zbg:zay ["inputs","worths","ones","place","behind"] ["inputs"] (zah zbv):=⟨rfl,rfl,rfl,by decide+kernel,rfl,by decide+kernel,by decide+kernel⟩
theorem zgE (T:Txt K mg t):FnOk P w K mg base CX0 1 t.f_rows_at_once t.fd_rows_at_once ["inputs"] sp_rao:=by
 refine T.d_rows_at_once.F.okB zbg (fun vs H Q E h=>?_) (fun cdv A outer s H vs Q E hr h=>?_)
 ·obtain ⟨n,rfl,_⟩:=h
  rfl
 obtain ⟨n,rfl,n6,q⟩:=h
 refine ⟨_,(zad (zaj (k:=1) zbg.nd rfl (Or.inl rfl) (zax zac))
  (zad (zaj (k:=2) zbg.nd rfl (Or.inl rfl) zaf)
  (zad (zaS PassesOwn.never rfl (zaZ rfl T.z_range (zaa (bpv 0) (zac))) (zai (k:=3) zbg.nd rfl (Or.inl rfl)) (zad (zaj (k:=4) zbg.nd rfl (Or.inr rfl) (zak zbc (bpv 2) zaf))
  (zad (zaj (k:=1) zbg.nd rfl (Or.inl rfl) (zak zcO (zax (zaa (zak zfo (bpv 2) (bpv 4)) (zac))) (zaV rfl (N:=["worth","behind"]) (n:=1) (cap:=[4]) (zbG rfl rfl) (zaD (bpv 1)) (zaL (by decide)) (fun _ _ _ _=>(zai (k:=0) (show (["worth","behind"]:List Str).Nodup by decide+kernel) rfl (Or.inl rfl))) (fun _ _ _ _=>zaJ) (fun _ _ _ _=>(zak zbc (bpv 0) (zak zfo (bpv 0) (bpv 1)))))))
  (zag (zaj (k:=2) zbg.nd rfl (Or.inl rfl) (zak zbc (bpv 2) (zak zfo (bpv 2) (bpv 4))))))))
  (zag (zaq (zaB (zaa (bpv 1) (zaa (bpv 2) (zac))))))))),?_⟩
 refine ⟨(by show 0≤sizeLine;decide),fun L0 hL0=>?_⟩
 refine ⟨_,rfl,_,rfl,by omega,by omega,?_⟩
 refine zcb (fun i σ H3=>∃ (L:Addr) (o3 o4:Option V),σ = [some (.int n),some (.ref L),some (.int (za5 (2 ^ i))),o3,o4]∧Same H H3∧H L=none∧H3 L=some (.lst ((zdB i).map V.int)))
  ⟨L0,_,_,rfl,zae hL0 _,hL0,zab⟩ ?_ ?_
 ·rintro i σ H3 hi ⟨L,o3,o4,rfl,s3,nL,eL⟩
  have hi6:i < 6:=by omega
  have h64:=pow6 (n:=i) (by omega)
  obtain ⟨c1,c2,c3⟩:=zeT i
  have bo:=zj5 (zcV (2 ^ i)) h64
  have bb:Builtin.Int.intBits (za5 (2 ^ i)+1)≤2 ^ 20:=by
   rw [zeO]
   have hq: 2 ^ 2 ^ i≤2 ^ 64:=Nat.pow_le_pow_right (by decide) h64
   generalize 2 ^ 2 ^ i=q2 at hq
   exact zgk (k:=65) (by decide) (by omega) (by omega)
  refine ⟨_,rfl,_,_,rfl,rfl,?_⟩
  refine ⟨_,rfl,_,rfl,_,_,rfl,rfl,⟨bo,bb⟩,(by show 1≤sizeLine;decide),fun A1 hA1=>?_⟩
  have k1:=zae hA1 (.lst [.int (za5 (2 ^ i) * (za5 (2 ^ i)+1))])
  refine ⟨_,rfl,L,rfl,⟨_,.of (k1 _ _ eL)⟩,fun D hD=>zba (K:=K) (a:=L) (xs:=(zdB i).map V.int) (fun j H4=>Same (upd H3 A1 (.lst [.int (za5 (2 ^ i) * (za5 (2 ^ i)+1))])) H4∧H4 D=some (.lst ((((zdB i).take j).map fun v=>v+v * (za5 (2 ^ i)+1)).map V.int))) ⟨zae hD _,zab⟩ (fun j H4 _ z=>.of (z.1 _ _ (k1 _ _ eL))) ?_ ?_⟩
  ·rintro j y H4 hy ⟨s4,eD⟩
   rw [List.getElem?_map] at hy
   cases hz:(zdB i)[j]? with
   | none=>rw [hz] at hy;cases hy
   | some v=>
    rw [hz] at hy
    cases hy
    have lj:j < (zdB i).length:=(List.getElem?_eq_some_iff.mp hz).1
    refine ⟨_,rfl,_,rfl,_,rfl,_,_,rfl,rfl,⟨zj5 (c1 v (List.mem_of_getElem? hz)) h64,bb⟩,_,_,rfl,rfl,?_⟩
    refine ⟨_,eD,big (by simp;omega),s4.write hD _,?_⟩
    rw [zab,List.take_add_one,hz,List.map_append,List.map_append]
    rfl
  rintro H4 ⟨s4,eD⟩
  rw [List.length_map,List.take_length] at eD
  refine ⟨A1,D,_,_,rfl,rfl,s4 _ _ zab,eD,bigE (by simp;omega),fun A2 hA2=>?_⟩
  have k2:=zae hA2 (.lst ([.int (za5 (2 ^ i) * (za5 (2 ^ i)+1))]++((zdB i).map fun v=>v+v * (za5 (2 ^ i)+1)).map V.int))
  have s34:=k1.trans s4
  refine ⟨_,rfl,_,rfl,_,rfl,_,_,rfl,rfl,⟨bo,bb⟩,_,_,rfl,rfl,A2,some (.int (0+(i:Int))),some (.int (za5 (2 ^ i)+1)),?_,(s3.trans s34).trans k2,(s3.trans s34).free hA2,zab⟩
  show [_,_,some (V.int (za5 (2 ^ i)+za5 (2 ^ i) * (za5 (2 ^ i)+1))),_,_]=_
  rw [zlt]
 ·rintro σ H3 ⟨L,o3,o4,rfl,s3,nL,eL⟩
  have en:((n:Int)).toNat=n:=by omega
  rw [en] at eL
  refine ⟨_,rfl,_,rfl,(by show 2≤sizeLine;decide),fun r hr'=>q r L _ (s3.upd hr' _) (s3.free hr') nL ?_ (zae hr' _ _ _ eL)⟩
  rw [zab,en]
theorem zbE:zay ["seen","others","unlike","worth","other"] ["seen","others"] (zah za7):=⟨rfl,rfl,rfl,by decide+kernel,rfl,by decide+kernel,by decide+kernel⟩
theorem zfc (T:Txt K mg t):FnOk P w K mg base CX0 1 t.f_unlike_numbers t.fd_unlike_numbers ["seen","others"] sp_un:=by
 refine T.d_unlike_numbers.F.okB zbE (fun vs H Q E h=>?_) (fun cdv A outer s H vs Q E hr h=>?_)
 ·obtain ⟨a,b,xs,ys,R,rfl,_⟩:=h
  rfl
 obtain ⟨a,b,xs,ys,R,rfl,ha,hb,hl,l1,h64,bx,by',q⟩:=h
 refine ⟨_,(zad (zaj (k:=2) zbE.nd rfl (Or.inr rfl) zaf)
  (zad (zaS PassesOwn.never rfl (zot rfl T.z_zip (zaa (bpv 0) (zaa (bpv 1) (zac)))) (zcY rfl (zas (zai (k:=3) zbE.nd rfl (Or.inl rfl)) (zas (zai (k:=4) zbE.nd rfl (Or.inl rfl)) zbq))) (zag (zaj (k:=2) zbE.nd rfl (Or.inr rfl) (zak zoA (bpv 2) (zak zjW (bpv 3) (bpv 4))))))
  (zag (zaq (zaV rfl (N:=["number","unlike"]) (n:=1) (cap:=[2]) (zbG rfl rfl) (zaZ rfl T.z_range (zaa (zoe PySem.F.plainAttrs_int PyProof.Rows.slot_int_bit_length PyProof.Rows.type_int_bit_length zl1 (bpv 2)) (zac))) (zaL (by decide)) (fun _ _ _ _=>(zai (k:=0) (show (["number","unlike"]:List Str).Nodup by decide+kernel) rfl (Or.inl rfl))) (fun _ _ _ _=>(zmS (zaA zc3 (zak zjG (zak op_shr (bpv 1) (bpv 0)) zaf) zaf (za1 _)))) (fun _ _ _ _=>(bpv 0))))))),?_⟩
 refine ⟨_,rfl,_,rfl,a,b,_,_,rfl,ha,hb,zoE (a:=a) (b:=b) (xs:=xs.map V.int) (ys:=ys.map V.int) (by simp [hl])
  (fun i σ H3=>∃ (o3 o4:Option V),σ = [some (.ref a),some (.ref b),some (.int (((xs.take i).zip (ys.take i)).foldl (fun u p=>Builtin.bitOr u (Builtin.bitXor p.1 p.2)) 0)),o3,o4]∧Same H H3)
  ⟨_,_,rfl,Same.refl _⟩ (fun i σ H3 _ ⟨_,_,_,s3⟩=>⟨s3 _ _ ha,s3 _ _ hb⟩) ?_ ?_⟩
 ·rintro i x y σ H3 T1 hx hy ⟨o3,o4,rfl,s3⟩ h1
  rw [List.getElem?_map] at hx hy
  cases hzx:xs[i]? with
  | none=>rw [hzx] at hx;cases hx
  | some u=>
   cases hzy:ys[i]? with
   | none=>rw [hzy] at hy;cases hy
   | some v=>
    rw [hzx] at hx
    rw [hzy] at hy
    cases hx
    cases hy
    refine ⟨T1,_,rfl,.of zab,rfl,_,_,rfl,_,_,rfl,rfl,?_⟩
    refine ⟨_,rfl,_,rfl,_,rfl,_,_,rfl,rfl,_,_,rfl,rfl,some (.int u),some (.int v),?_,s3.upd h1 _⟩
    have li:i < xs.length:=(List.getElem?_eq_some_iff.mp hzx).1
    have e:(xs.take (i+1)).zip (ys.take (i+1))=(xs.take i).zip (ys.take i)++ [(u,v)]:=by
     rw [List.take_add_one,List.take_add_one,hzx,hzy]
     show (xs.take i++ [u]).zip (ys.take i++ [v])=_
     rw [List.zip_append (by rw [List.length_take,List.length_take];omega)]
     rfl
    rw [e,List.foldl_append]
    rfl
 ·rintro σ H3 ⟨o3,o4,rfl,s3⟩
  have e1:xs.take (xs.map V.int).length=xs:=by rw [List.length_map,List.take_length]
  have e2:ys.take (xs.map V.int).length=ys:=by rw [List.length_map,hl,List.take_length]
  obtain ⟨u1,u2⟩:=zet (R:=R) xs ys hl bx by' (zdo R)
  obtain ⟨un,eun⟩:∃ un,zdx xs ys=un:=⟨_,rfl⟩
  have b0:zbf R un:=by rw [← eun];exact u1
  have few:Builtin.Int.intBits un≤2 ^ 20:=zj5 b0 h64
  rw [e1,e2]
  refine ⟨_,rfl,rfl,_,rfl,rfl,_,rfl,?_,?_,fun D hD=>?_⟩
  ·omega
  ·show ((Builtin.Int.intBits (zdx xs ys):Nat):Int) < 2 ^ 62
   rw [eun]
   omega
  have ll:((Builtin.Int.intBits (zdx xs ys):Nat):Int).toNat=Builtin.Int.intBits un:=by rw [eun];omega
  show zdR (Itr 0 ((Builtin.Int.intBits (zdx xs ys):Nat):Int).toNat) _ _ _ _ _ _ _ _ _
  rw [ll]
  refine zd6 (fun j H4=>Same H3 H4∧H4 D=some (.lst (((List.range j).filter fun k=>decide (bitI k un=1)).map fun k:Nat=>V.int (k:Int)))) ⟨zae hD _,zab⟩ ?_ ?_
  ·rintro j H4 hj ⟨s4,eD⟩
   rw [Int.zero_add]
   have sb:=znE (R:=R) b0 j
   rw [← eun] at sb
   have small:(((List.range j).filter fun k=>decide (bitI k un=1)).map fun k:Nat=>V.int (k:Int)).length≤2000000:=by
    rw [List.length_map]
    have:=List.length_filter_le (fun k=>decide (bitI k un=1)) (List.range j)
    rw [List.length_range] at this
    omega
   refine ⟨_,rfl,_,rfl,_,_,rfl,rfl,Int.natCast_nonneg j,_,_,rfl,rfl,rfl,_,rfl,ite2 (fun c=>⟨_,rfl,_,eD,?_,s4.write hD _,?_⟩) (fun c=>⟨s4,?_⟩)⟩
   ·have:sizeLine=16777216:=by decide
    omega
   ·rw [zab,List.range_succ,List.filter_append,List.map_append]
    have e:decide (bitI j un=1)=true:=by rw [← eun];exact decide_eq_true (sb.mp (of_decide_eq_true c))
    simp [e]
   ·rw [eD,List.range_succ,List.filter_append,List.map_append]
    have e:decide (bitI j un=1)=false:=by rw [← eun];exact decide_eq_false fun z=>c (decide_eq_true (sb.mpr z))
    simp [e]
  ·rintro H4 ⟨s4,eD⟩
   refine q D H4 (s3.trans s4) (s3.free hD) ?_
   rw [eD,eun]
   rfl
theorem zcy:zay ["works","stuck","rows","ones","stuck_at_once"] ["works","stuck"] (zah zbA):=⟨rfl,rfl,rfl,by decide+kernel,rfl,by decide+kernel,by decide+kernel⟩
theorem zfN (T:Txt K mg t):FnOk P w K mg base CX0 4 t.f_outputs_seen t.fd_outputs_seen ["works","stuck"] (sp_osR K):=by
 refine T.d_outputs_seen.F.okB zcy (fun vs H Q E h=>?_) (fun cdv A outer s H vs Q E hr h=>?_)
 ·obtain ⟨x,d,w,fs,G,rfl,_⟩:=h
  rfl
 obtain ⟨x,d,w,fs,G,rfl,off,hx,wf,hd,fb,ap,lf,q⟩:=h
 have hu64:=hr.units
 obtain ⟨a,ga,oa,gs,os,rfl,ha,hg,ho,rg,ro⟩:=za2 hx
 have i1:=wf.i1
 have i6:=wf.i6
 obtain ⟨n,en⟩:∃ n,w.ins.toNat=n:=⟨_,rfl⟩
 have n6:n≤6:=by omega
 have h64:=pow6 n6
 have c:=zeT n
 refine ⟨_,(zad (zaj (k:=2) zcy.nd rfl (Or.inl rfl) (zal (zgE T) (hr.mono (by decide)) rfl T.d_rows_at_once.m T.d_rows_at_once.F.kp T.d_rows_at_once.b .nil zaH (zaa (zao zaC (bpv 0) zaf (fun _ _=>rfl)) (zac))))
  (zad (zaj (k:=3) zcy.nd rfl (Or.inr rfl) (zao zaC (bpv 2) zaf (fun _ _=>rfl)))
  (zad (zaj (k:=4) zcy.nd rfl (Or.inl rfl) (zbo (zkl rfl hu64) rfl T.z_dict PyProof.Rows.boot_dict (zaa (zaV rfl (N:=["place","worth","ones"]) (n:=2) (cap:=[3]) (zbG rfl rfl) (zly (bpv 1)) (zdi (by decide) (by decide)) (fun _ _ _ _=>(zd7 (K:=K) (n:=2) rfl (zas (zai (k:=0) (show (["place","worth","ones"]:List Str).Nodup by decide+kernel) rfl (Or.inl rfl)) (zas (zai (k:=1) (show (["place","worth","ones"]:List Str).Nodup by decide+kernel) rfl (Or.inl rfl)) zbq)))) (fun _ _ _ _=>zaJ) (fun _ _ _ _=>(zaB (zaa (bpv 0) (zaa (zak zfo (bpv 1) (bpv 2)) (zac)))))) (zac))))
  (zag (zaq (zal (zfK T) (hr.mono (by decide)) rfl T.d_outputs_with.m T.d_outputs_with.F.kp T.d_outputs_with.b .nil zaH (zaa (bpv 0) (zaa (bpv 4) (zaa (zao zaC (bpv 2) zaf (fun _ _=>rfl)) (zaa (bpv 3) (zac))))))))))),?_⟩
 refine ⟨_,rfl,a,_,_,_,rfl,rfl,off.same.seqT ha,rfl,n,by rw [← en,Int.toNat_of_nonneg (by omega)];rfl,n6,fun r L H1 s1 nr nL er eL=>?_⟩
 refine ⟨_,rfl,r,_,1,_,rfl,rfl,.of er,rfl,?_⟩
 have off1:=off.grow s1
 have rd:r≠d:=Ne.symm (zap hd nr)
 have Ld:L≠d:=Ne.symm (zap hd nL)
 refine ⟨_,rfl,d,_,rfl,s1 _ _ hd,fun ob D hD=>?_⟩
 have off2:=off1.write (.head _) (.frz ob (.dT (tabV fs)))
 have ed2:=zab (H:=H1) (a:=d) (o:=.frz ob (.dT (tabV fs)))
 have er2:(upd H1 d (.frz ob (.dT (tabV fs)))) r=some (.tup [.ref L,.int (za5 (2 ^ n))]):=by rw [zam rd];exact er
 have eL2:(upd H1 d (.frz ob (.dT (tabV fs)))) L=some (.lst ((zdB n).map V.int)):=by rw [zam Ld];exact eL
 generalize upd H1 d (.frz ob (.dT (tabV fs)))=H2 at hD off2 ed2 er2 eL2
 have gD:G D=none:=off2.same.free hD
 have Dd:d≠D:=zap ed2 hD
 have Dr:r≠D:=zap er2 hD
 have DL:L≠D:=zap eL2 hD
 refine zkA (d:=d) (ob:=ob) (kvs:=tabV fs) (fun j H5=>∃ xs,Off [d] G H5∧H5 d=some (.frz ob (.dT (tabV fs)))∧H5 r=some (.tup [.ref L,.int (za5 (2 ^ n))])∧H5 L=some (.lst ((zdB n).map V.int))∧H5 D=some (.lst xs)∧zfe H5 xs (tabV (zcQ (2 ^ n) (fs.take j))))
  ⟨[],off2.new hD _,zae hD _ _ _ ed2,zae hD _ _ _ er2,zae hD _ _ _ eL2,zab,.nil⟩ (fun j H5 _ ⟨_,_,e,_⟩=>e) ?_ ?_
 ·rintro j b p H5 T1 hp ⟨xs,off5,ed5,er5,eL5,eD5,pr⟩ hT1 hb
  have hp':(fs.map fun f=>(f.place,V.int f.worth))[j]? =some p:=hp
  rw [List.getElem?_map] at hp'
  cases hz:fs[j]? with
  | none=>rw [hz] at hp';cases hp'
  | some f=>
   rw [hz] at hp'
   cases hp'
   have lj:j < fs.length:=(List.getElem?_eq_some_iff.mp hz).1
   have et:fs.take (j+1)=fs.take j++ [f]:=by rw [List.take_add_one,hz];rfl
   have fw:=fb f (List.mem_of_getElem? hz)
   have k1:=zae hT1 (.tup [.ref b,.int f.worth])
   refine ⟨T1,_,rfl,.of zab,rfl,_,_,rfl,_,_,rfl,rfl,?_⟩
   have b1:Builtin.Int.intBits f.worth≤2 ^ 20:=zgk (k:=2) (by decide) (by omega) (by omega)
   refine ⟨_,rfl,_,rfl,_,rfl,_,_,rfl,rfl,⟨b1,zj5 (zcV (2 ^ n)) h64⟩,(by show 2≤sizeLine;decide),fun T2 h2=>?_⟩
   have k2:=zae h2 (.tup [.ref b,.int (f.worth * za5 (2 ^ n))])
   have k12:=k1.trans k2
   have lpr:=Paired.length pr
   unfold tabV zcQ at lpr
   rw [List.length_map,List.length_map,List.length_take] at lpr
   refine ⟨xs,k12 _ _ eD5,big (by omega),xs++ [.ref T2],?_,by rw [zam Dd];exact k12 _ _ ed5,by rw [zam Dr];exact k12 _ _ er5,by rw [zam DL];exact k12 _ _ eL5,zab,?_⟩
   ·exact ⟨(off5.grow k12).same.write gD _,(off5.grow k12).out,fun m hm=>by rw [List.mem_singleton.mp hm,zam Dd];exact ⟨_,k12 _ _ ed5⟩⟩
   ·rw [et]
    have e1:tabV (zcQ (2 ^ n) (fs.take j++ [f]))=tabV (zcQ (2 ^ n) (fs.take j))++ [(f.place,V.int (f.worth * za5 (2 ^ n)))]:=by unfold tabV zcQ;rw [List.map_append,List.map_append];rfl
    rw [e1]
    exact zje (k12 _ _ eD5) (Paired.snoc (zkR k12 pr) ⟨T2,b,rfl,zab,hb.same k12⟩)
 rintro H5 ⟨xs,off5,ed5,er5,eL5,eD5,pr⟩
 have lt:(tabV fs).length=fs.length:=by unfold tabV;rw [List.length_map]
 rw [lt,List.take_length] at pr
 refine ⟨D,xs,tabV (zcQ (2 ^ n) fs),rfl,eD5,pr,big (by unfold tabV zcQ;rw [List.length_map,List.length_map];omega),fun e he=>?_⟩
 rw [show zfD [] (tabV (zcQ (2 ^ n) fs))=tabV (zcQ (2 ^ n) fs) from zib (zcQ (2 ^ n) fs) [] (zkv ap)]
 have k6:=zae he (.dT (tabV (zcQ (2 ^ n) fs)))
 have s6:=off5.same.trans k6
 refine ⟨_,rfl,_,rfl,_,rfl,r,_,0,_,rfl,rfl,.of (k6 _ _ er5),rfl,_,rfl,.ref a,e,L,w,zcQ (2 ^ n) fs,zdB n,za5 (2 ^ n),rfl,hx.mono s6,wf,zab,.of (k6 _ _ eL5),by rw [c.2.1];omega,fun r2 H7 s7 n7 e7=>?_⟩
 exact q r2 ob H7 (s6.trans s7) (s6.free n7) ((k6.trans s7) _ _ ed5) (by rw [e7];unfold zc2;rw [en])
theorem zdW (T:Txt K mg t):FnOk P w K mg base CX0 4 t.f_outputs_seen t.fd_outputs_seen ["works","stuck"] (sp_osT K):=by
 refine (zfN T).thaw.imp fun vs H Q E h=>?_
 obtain ⟨x,d,w,fs,rfl,hx,wf,hd,fb,ap,lf,q⟩:=h
 obtain ⟨a,ga,oa,gs,os,rfl,ha,hg,ho,rg,ro⟩:=za2 hx
 refine ⟨.ref a,d,w,fs,hole d H,rfl,znc hd,zjR hd hx,wf,hd,fb,ap,lf,fun r ob H' s n e1 e2=>⟨d,ob,_,_,hd,e1,?_⟩⟩
 have rd:r≠d:=fun z=>by rw [z,e1] at e2;cases e2
 refine q r _ (fun b o hb=>?_) (by rw [zeo rd] at n;exact n) (by rw [zam rd];exact e2)
 by_cases z:b=d
 ·subst z
  rw [zab]
  rw [hd] at hb
  exact hb
 ·rw [zam z]
  exact s _ _ (by rw [zeo z];exact hb)
theorem zdY:zay ["works","stuck","others","numbers"] ["works","stuck","others"] (zah zbC):=⟨rfl,rfl,rfl,by decide+kernel,rfl,by decide+kernel,by decide+kernel⟩
theorem zcW (T:Txt K mg t):FnOk P w K mg base CX0 5 t.f_first_unlike t.fd_first_unlike ["works","stuck","others"] (sp_fu K):=by
 refine T.d_first_unlike.F.okB zdY (fun vs H Q E h=>?_) (fun cdv A outer s H vs Q E hr h=>?_)
 ·obtain ⟨x,d,e,w,fs,gs,rfl,_⟩:=h
  rfl
 obtain ⟨x,d,e,w,fs,gs,rfl,hx,wf,hd,he,fb,gb,af,ag,lf,lg,q⟩:=h
 obtain ⟨a,ga,oa,gv,os,rfl,ha,hg,ho,rg,ro⟩:=za2 hx
 have hu64:=hr.units
 have i1:=wf.i1
 have i6:=wf.i6
 have n6:w.ins.toNat≤6:=by omega
 have h64:=pow6 n6
 obtain ⟨f1,f2,f3⟩:=zeL fb wf
 obtain ⟨g1,g2,g3⟩:=zeL gb wf
 obtain ⟨nn,nj⟩:=zkq fb gb wf
 refine ⟨_,(zad (zaj (k:=3) zdY.nd rfl (Or.inl rfl) (zal (zfc T) (hr.mono (by decide)) rfl T.d_unlike_numbers.m T.d_unlike_numbers.F.kp T.d_unlike_numbers.b .nil zaH (zaa (zal (zdW T) (hr.mono (by decide)) rfl T.d_outputs_seen.m T.d_outputs_seen.F.kp T.d_outputs_seen.b .nil zaH (zaa (bpv 0) (zaa (bpv 1) (zac)))) (zaa (zal (zdW T) (hr.mono (by decide)) rfl T.d_outputs_seen.m T.d_outputs_seen.F.kp T.d_outputs_seen.b .nil zaH (zaa (bpv 0) (zaa (bpv 2) (zac)))) (zac)))))
  (zag (zaq (zhY (zaA op_gt (zaE zaz rfl T.z_len PySem.boot_len (zaa (bpv 3) (zac))) zaf (za1 _)) (zao zaN (zal (ziO T) (hr.mono (by decide)) rfl T.d_every_row.m T.d_every_row.F.kp T.d_every_row.b .nil zaH (zaa (bpv 0) (zac))) (zao zaN (bpv 3) zaf (fun _ _=>rfl)) (fun _ _=>rfl)) zhr)))),?_⟩
 refine ⟨_,rfl,_,rfl,.ref a,d,w,fs,rfl,hx,wf,hd,fb,af,lf,fun r1 H1 s1 n1 e1=>?_⟩
 refine ⟨_,rfl,_,rfl,.ref a,e,w,gs,rfl,hx.mono s1,wf,s1 _ _ he,gb,ag,lg,fun r2 H2 s2 n2 e2=>?_⟩
 have e12:H2 r1=some (.lst ((zc2 w fs).map V.int)):=s2 _ _ e1
 have sG3:=s1.trans s2
 have lo:w.outs.length≤1000:=by
  have:=wf.o3
  omega
 refine ⟨r1,r2,zc2 w fs,zc2 w gs,2 ^ w.ins.toNat,rfl,e12,e2,f2.trans g2.symm,by omega,h64,f1,g1,fun r3 H3 s3 n3 e3=>?_⟩
 have sG4:=sG3.trans s3
 obtain ⟨ns,ens⟩:∃ ns,zh0 (zdx (zc2 w fs) (zc2 w gs))=ns:=⟨_,rfl⟩
 rw [ens] at e3 nn nj
 refine ⟨_,rfl,r3,_,rfl,.inl (.of e3),_,_,rfl,rfl,_,rfl,ite2 (fun c=>?_) (fun c=>?_)⟩
 ·cases ns with
  | nil=>exact absurd (of_decide_eq_true c) (by decide)
  | cons j js=>
   obtain ⟨row,hrow,ef⟩:=nj j js rfl
   refine ⟨_,rfl,a,ga,oa,w.ins,rfl,sG4.seqT ha,by omega,i6,fun R qs H4 rws=>?_⟩
   have e34:=rws.same _ _ e3
   obtain ⟨qa,hqa,hz⟩:∃ qa,qs[j]? =some qa∧H4 qa=some (.lst (row.map V.int)):=by
    have lq:=rws.rows.len
    have lj:=(List.getElem?_eq_some_iff.mp hrow).1
    have h1:qs[j]? =some qs[j]:=List.getElem?_eq_getElem (by omega)
    obtain ⟨row2,h2,h3⟩:=rws.rows.get h1
    rw [hrow] at h2
    cases h2
    exact ⟨_,h1,h3⟩
   have at0:atI ((j::js).map fun j:Nat=>V.int (j:Int)) 0=some (.int (j:Int)):=zdg (j:=0) rfl
   refine ⟨_,rfl,r3,_,_,_,rfl,rfl,.of e34,at0,R,_,_,_,rfl,rfl,rws.sq,zdg (by rw [List.getElem?_map,hqa];rfl),?_⟩
   refine q _ _ (sG4.trans rws.same) ?_
   rw [ef]
   exact ⟨qa,rfl,sG4.free (rws.new qa (List.mem_of_getElem? hqa)).1,hz⟩
 ·cases ns with
  | cons j js=>exact absurd (decide_eq_true (by simp)) c
  | nil=>
   refine q _ _ sG4 ?_
   rw [nn rfl]
   rfl
theorem zg1:zay ["worth"] ["worth"] (zah zbK):=⟨rfl,rfl,rfl,by decide+kernel,rfl,by decide+kernel,by decide+kernel⟩
theorem zg4 (T:Txt K mg t):FnOk P w K mg base CX0 1 t.f_input_pairs t.fd_input_pairs ["worth"] sp_ip:=by
 refine T.d_input_pairs.F.okB zg1 (fun vs H Q E h=>?_) (fun cdv A outer s H vs Q E hr h=>?_)
 ·obtain ⟨o,rfl,_⟩:=h
  rfl
 obtain ⟨o,rfl,hb,q⟩:=h
 have hu64:=hr.units
 refine ⟨_,(zad (zbd (zeZ (zl3 (bpv 0))) (zag (zaq (zax (zaa (zaB (zaa zaf (zaa zaf (zac)))) (zaa (zaB (zaa zaf (zaa zaf (zac)))) (zac)))))) zaF)
  (zag (zaq (zax (zaa (zaB (zaa (bpv 0) (zaa (bpv 0) (zac)))) (zac)))))),?_⟩
 have two:(2:Nat)≤sizeLine:=by rw [sizeLine_eq];omega
 cases o with
 | none=>
  refine ⟨_,rfl,_,rfl,?_⟩
  refine ite2 (fun _=>?_) (fun c=>absurd (decide_eq_true rfl) c)
  refine ⟨two,fun p1 n1=>⟨two,fun p2 n2=>⟨two,fun l nl=>q _ _ (((zae n1 _).trans (zae n2 _)).trans (zae nl _)) ⟨l,[(0,p1),(3,p2)],rfl,((zae n1 _).trans (zae n2 _)).free nl,zab,rfl,?_⟩⟩⟩⟩
  have e1:p1≠p2:=fun z=>by rw [← z,zab] at n2;cases n2
  have e2:p1≠l:=fun z=>by rw [← z,zam e1,zab] at nl;cases nl
  have e3:p2≠l:=fun z=>by rw [← z,zab] at nl;cases nl
  intro p hp
  rcases List.mem_cons.mp hp with rfl | hp
  ·exact ⟨show 0 < 4 by decide,n1,by rw [zam e2,zam e1,zab,zlf]⟩
  ·rw [List.mem_singleton.mp hp]
   exact ⟨show 3 < 4 by decide,(zae n1 _).free n2,by rw [zam e3,zab,zk7]⟩
 | some b=>
  have hb':=hb b rfl
  refine ⟨_,rfl,_,rfl,?_⟩
  refine ite2 (fun c=>nomatch (of_decide_eq_true c)) (fun _=>?_)
  refine ⟨_,rfl,_,rfl,two,fun p1 n1=>⟨Nat.le_of_succ_le two,fun l nl=>q _ _ ((zae n1 _).trans (zae nl _)) ⟨l,[(zb3 b b,p1)],rfl,(zae n1 _).free nl,zab,rfl,?_⟩⟩⟩
  have e2:p1≠l:=fun z=>by rw [← z,zab] at nl;cases nl
  intro p hp
  rw [List.mem_singleton.mp hp]
  refine ⟨zds hb' hb',n1,?_⟩
  rw [zam e2,zab]
  rcases hb' with rfl | rfl
  ·exact congrArg some zlf.symm
  ·exact congrArg some zk7.symm
theorem zde:zay ["kind","choice","right","wrong"] ["kind","choice"] (zah zbS):=⟨rfl,rfl,rfl,by decide+kernel,rfl,by decide+kernel,by decide+kernel⟩
theorem zgT (T:Txt K mg t):FnOk P w K mg base CX0 2 t.f_chosen_pair t.fd_chosen_pair ["kind","choice"] (sp_cp K):=by
 refine T.d_chosen_pair.F.okB zde (fun vs H Q E h=>?_) (fun cdv A outer s H vs Q E hr h=>?_)
 ·obtain ⟨k,l,ps,rfl,_⟩:=h
  rfl
 obtain ⟨k,l,ps,rfl,hl,hp,lk,q⟩:=h
 have hu64:=hr.units
 have cd:zcR (ps.map Prod.fst):=fun c hc=>by
  obtain ⟨p,hp',rfl⟩:=List.mem_map.mp hc
  exact (hp p hp').1
 have lz:ps.length≤4:=by rcases lk with ⟨_,_,z⟩ | ⟨_,z⟩ | ⟨_,z⟩ | ⟨_,z⟩ <;> omega
 have len:∀ f:Nat→Int,((ps.map Prod.fst).map f).length=ps.length:=fun f=>by rw [List.length_map,List.length_map]
 have step:∀ (f:Nat→Int) (j:Nat) (p:Nat×Addr),ps[j]? =some p→(((ps.map Prod.fst).take (j+1)).map f).map V.int=(((ps.map Prod.fst).take j).map f).map V.int++ [V.int (f p.1)]:=fun f j p hj=>by
  rw [List.take_add_one,List.getElem?_map,hj,List.map_append,List.map_append]
  rfl
 have small:∀ (f:Nat→Int) (j:Nat),((((ps.map Prod.fst).take j).map f).map V.int).length≤4:=fun f j=>by
  rw [List.length_map,List.length_map,List.length_take,List.length_map]
  omega
 refine ⟨_,(zad (zaj (k:=2) zde.nd rfl (Or.inl rfl) (zal (zeM T) (hr.mono (by decide)) rfl T.d_gate_worth.m T.d_gate_worth.F.kp T.d_gate_worth.b1 dflt1 zaH (zaa (bpv 0) (zaa (zaV rfl (N:=["pair"]) (n:=1) (cap:=[]) (zbG rfl rfl) (zaD (bpv 1)) (zaL (by decide)) (fun _ _ _ _=>(zai (k:=0) (show (["pair"]:List Str).Nodup by decide+kernel) rfl (Or.inl rfl))) (fun _ _ _ _=>zaJ) (fun _ _ _ _=>(zao (zfa (K:=K)) (bpv 0) zaf (fun _ _=>rfl)))) (zac)))))
  (zad (zaj (k:=3) zde.nd rfl (Or.inl rfl) (zal (zeM T) (hr.mono (by decide)) rfl T.d_gate_worth.m T.d_gate_worth.F.kp T.d_gate_worth.b1 dflt1 zaH (zaa (bpv 0) (zaa (zaV rfl (N:=["pair"]) (n:=1) (cap:=[]) (zbG rfl rfl) (zaD (bpv 1)) (zaL (by decide)) (fun _ _ _ _=>(zai (k:=0) (show (["pair"]:List Str).Nodup by decide+kernel) rfl (Or.inl rfl))) (fun _ _ _ _=>zaJ) (fun _ _ _ _=>(zao (zfa (K:=K)) (bpv 0) zaf (fun _ _=>rfl)))) (zac)))))
  (zag (zaq (zaB (zaa (bpv 2) (zaa (bpv 3) (zac)))))))),?_⟩
 refine ⟨_,rfl,_,rfl,l,rfl,⟨_,.of hl⟩,fun D hD=>zba (K:=K) (a:=l) (xs:=ps.map fun p=>V.ref p.2) (fun j H4=>Same H H4∧H4 D=some (.lst ((((ps.map Prod.fst).take j).map hiV).map V.int))) ⟨zae hD _,zab⟩ (fun j H4 _ z=>.of (z.1 _ _ hl)) ?_ ?_⟩
 ·rintro j y H4 hy ⟨s4,eD⟩
  rw [List.getElem?_map] at hy
  cases hz:ps[j]? with
  | none=>rw [hz] at hy;cases hy
  | some p=>
   rw [hz] at hy
   cases hy
   have hm:=List.mem_of_getElem? hz
   have hpo:=s4 _ _ (hp p hm).2
   refine ⟨_,rfl,p.2,_,0,_,rfl,rfl,.of hpo,rfl,_,eD,big (Nat.le_trans (small hiV j) (by decide)),s4.write hD _,?_⟩
   rw [zab,step hiV j p hz]
   rfl
 rintro H4 ⟨s4,eD⟩
 rw [List.length_map,List.take_of_length_le (by rw [List.length_map];exact Nat.le_refl _)] at eD
 refine ⟨k,D,(ps.map Prod.fst).map hiV,rfl,.of eD,cd.hi,by rw [len];exact lk,fun H4' s4'=>?_⟩
 replace s4:=s4.trans s4'
 clear eD s4'
 generalize H4'=H4 at s4
 have hl4:=s4 _ _ hl
 refine ⟨_,rfl,_,rfl,l,rfl,⟨_,.of hl4⟩,fun D2 hD2=>zba (K:=K) (a:=l) (xs:=ps.map fun p=>V.ref p.2) (fun j H5=>Same H4 H5∧H5 D2=some (.lst ((((ps.map Prod.fst).take j).map loV).map V.int))) ⟨zae hD2 _,zab⟩ (fun j H5 _ z=>.of (z.1 _ _ hl4)) ?_ ?_⟩
 ·rintro j y H5 hy ⟨s5,eD2⟩
  rw [List.getElem?_map] at hy
  cases hz:ps[j]? with
  | none=>rw [hz] at hy;cases hy
  | some p=>
   rw [hz] at hy
   cases hy
   have hm:=List.mem_of_getElem? hz
   have hpo:=s5 _ _ (s4 _ _ (hp p hm).2)
   refine ⟨_,rfl,p.2,_,1,_,rfl,rfl,.of hpo,rfl,_,eD2,big (Nat.le_trans (small loV j) (by decide)),s5.write hD2 _,?_⟩
   rw [zab,step loV j p hz]
   rfl
 rintro H5 ⟨s5,eD2⟩
 rw [List.length_map,List.take_of_length_le (by rw [List.length_map];exact Nat.le_refl _)] at eD2
 refine ⟨k,D2,(ps.map Prod.fst).map loV,rfl,.of eD2,cd.lo,by rw [len];exact lk,fun H5' s5'=>?_⟩
 replace s5:=s5.trans s5'
 clear eD2 s5'
 generalize H5'=H5 at s5
 have bh:=zda cd.hi (show zbJ k ((ps.map Prod.fst).map hiV).length by rw [len];exact lk)
 have bl:=zda cd.lo (show zbJ k ((ps.map Prod.fst).map loV).length by rw [len];exact lk)
 refine ⟨_,rfl,_,rfl,(show (2:Nat)≤sizeLine by rw [sizeLine_eq];omega),fun r nr=>q r _ ((s4.trans s5).upd nr _) ?_ ?_⟩
 ·cases e:H r with
  | none=>rfl
  | some o=>rw [(s4.trans s5) _ _ e] at nr;cases nr
 ·rw [zab]
  unfold zeQ zcq
  show some (HO.tup [V.int _,V.int _])=some (HO.tup [V.int (hiV _),V.int (loV _)])
  rw [zdV bh bl,zdN bh bl]
theorem zhN:zay ["pairs","stuck","place"] ["pairs","stuck","place"] (zah zca):=⟨rfl,rfl,rfl,by decide+kernel,rfl,by decide+kernel,by decide+kernel⟩
theorem zdw (T:Txt K mg t):FnOk P w K mg base CX0 1 t.f_with_stuck t.fd_with_stuck ["pairs","stuck","place"] sp_ws:=by
 refine T.d_with_stuck.F.okB zhN (fun vs H Q E h=>?_) (fun cdv A outer s H vs Q E hr h=>?_)
 ·obtain ⟨v,d,pl,cs,fs,place,rfl,_⟩:=h
  rfl
 obtain ⟨v,d,pl,cs,fs,place,rfl,⟨l,ps,rfl,hl,rfl,hp⟩,lz,hd,hpl,fb,q⟩:=h
 have hu64:=hr.units
 have hu1:=zhV hr
 refine ⟨_,(zad (zbd (zeZ (zkh hu1 (bpv 2) (bpv 1))) (zag (zaq (bpv 0))) zaF)
  (zag (zaq (zev rfl hu64 rfl T.z_sorted rfl T.z_set (zaV rfl (N:=["right","wrong","stuck","place"]) (n:=2) (cap:=[1,2]) (zbG rfl rfl) (zaD (bpv 0)) (zdi (by decide) (by decide)) (fun _ _ _ _=>(zd7 (K:=K) (n:=2) rfl (zas (zai (k:=0) (show (["right","wrong","stuck","place"]:List Str).Nodup by decide+kernel) rfl (Or.inl rfl)) (zas (zai (k:=1) (show (["right","wrong","stuck","place"]:List Str).Nodup by decide+kernel) rfl (Or.inl rfl)) zbq)))) (fun _ _ _ _=>zaJ) (fun _ _ _ _=>(zaB (zaa (bpv 0) (zaa (zmV hu1 (bpv 2) (bpv 3) (fun _ _=>rfl)) (zac)))))))))),?_⟩
 refine ⟨_,rfl,_,rfl,d,_,rfl,DGet.t (k:=place) hd hpl,_,rfl,?_⟩
 rw [zen]
 cases hk:look fs place with
 | none=>
  refine ite2 (fun _=>⟨_,rfl,q _ _ (Same.refl _) ?_⟩) (fun c=>absurd rfl c)
  exact .inl ⟨rfl,hk⟩
 | some b=>
  refine ite2 (fun c=>Bool.noConfusion c) (fun _=>?_)
  have hb:b=0∨b=1:=zjK fb hk
  have lz':ps.length≤16:=by rw [List.length_map] at lz;exact lz
  refine ⟨_,rfl,l,rfl,⟨_,.of hl⟩,fun D hD=>zba (K:=K) (a:=l) (xs:=ps.map fun p=>V.ref p.2)
   (fun j H4=>Same H H4∧∃ qs:List (Nat×Addr),qs.map Prod.fst=((ps.map Prod.fst).take j).map (fun c=>zb3 (hiV c) b)∧H4 D=some (.lst (qs.map fun p=>V.ref p.2))∧∀ p∈qs,p.1 < 4∧H4 p.2=some (zeQ p.1)∧p.2≠D∧H p.2=none)
   ⟨zae hD _,[],rfl,zab,fun _ z=>(List.not_mem_nil z).elim⟩ (fun j H4 _ z=>.of (z.1 _ _ hl)) ?_ ?_⟩
  ·rintro j y H4 hy ⟨s4,qs,eq,eD,hq⟩
   rw [List.getElem?_map] at hy
   cases hz:ps[j]? with
   | none=>rw [hz] at hy;cases hy
   | some p=>
    rw [hz] at hy
    cases hy
    have hm:=List.mem_of_getElem? hz
    have hpo:=s4 _ _ (hp p hm).2
    have lq:qs.length≤16:=by
     have:=congrArg List.length eq
     rw [List.length_map,List.length_map,List.length_take,List.length_map] at this
     omega
    refine ⟨p.2,_,rfl,.of hpo,rfl,_,_,rfl,_,_,rfl,rfl,?_⟩
    refine ⟨_,rfl,_,rfl,_,rfl,d,.int b,rfl,(by have:=DGet.t (k:=place) (s4 _ _ hd) (s4 _ _ hpl);rw [zen,hk] at this;exact this),(show (2:Nat)≤sizeLine by rw [sizeLine_eq];omega),fun r nr=>?_⟩
    have nrD:r≠D:=fun z=>by rw [z,eD] at nr;cases nr
    refine ⟨_,by rw [zam (Ne.symm nrD)];exact eD,big (by rw [List.length_map];omega),(s4.upd nr _).write hD _,qs++ [(zb3 (hiV p.1) b,r)],?_,?_,?_⟩
    ·rw [List.map_append,eq,List.take_add_one,List.getElem?_map,hz,List.map_append]
     rfl
    ·rw [zab,List.map_append]
     rfl
    ·intro x hx
     rcases List.mem_append.mp hx with hx | hx
     ·obtain ⟨a1,a2,a3⟩:=hq x hx
      have xr:x.2≠r:=fun z=>by rw [z,nr] at a2;cases a2
      exact ⟨a1,by rw [zam a3.1,zam xr];exact a2,a3⟩
     ·rw [List.mem_singleton.mp hx]
      refine ⟨zds (zg8 (hp p hm).1) hb,?_,nrD,s4.free nr⟩
      rw [zam nrD,zab,hpO,zdV (zg8 (hp p hm).1) hb,zdN (zg8 (hp p hm).1) hb]
      rfl
  ·rintro H4 ⟨s4,qs,eq,eD,hq⟩
   rw [List.length_map,List.take_of_length_le (by rw [List.length_map];exact Nat.le_refl _)] at eq
   refine ⟨D,qs,rfl,eD,fun p hp'=>⟨(hq p hp').1,(hq p hp').2.1⟩,fun D2 L nD2 eL hL=>?_⟩
   refine q _ _ (s4.upd nD2 _) (.inr ⟨D2,L,rfl,s4.free nD2,zab,?_,fun p hp'=>⟨(hq p (hL p hp')).1,(hq p (hL p hp')).2.2.2,?_⟩⟩)
   ·rw [eL,eq,hk]
    rfl
   ·have a2:=(hq p (hL p hp')).2.1
    rw [zam (fun z=>by rw [z,nD2] at a2;cases a2)]
    exact a2
theorem zbI:zay ["legs","choices","pairs","longer","choice"] ["legs"] (zah zby):=⟨rfl,rfl,rfl,by decide+kernel,rfl,by decide+kernel,by decide+kernel⟩
theorem zgJ (T:Txt K mg t):FnOk P w K mg base CX0 1 t.f_every_choice t.fd_every_choice ["legs"] sp_ec:=by
 refine T.d_every_choice.F.okB zbI (fun vs H Q E h=>?_) (fun cdv A outer s H vs Q E hr h=>?_)
 ·obtain ⟨a,xs,css,rfl,_⟩:=h
  rfl
 obtain ⟨a,xs,css,rfl,ha,hx,l4,hl4,q⟩:=h
 have lx:=hx.len
 refine ⟨_,(zad (zaj (k:=1) zbI.nd rfl (Or.inl rfl) (zax (zaa (zax zac) (zac))))
  (zad (zaS PassesOwn.never rfl (zaD (bpv 0)) (zai (k:=2) zbI.nd rfl (Or.inl rfl)) (zad (zaj (k:=3) zbI.nd rfl (Or.inl rfl) (zax zac))
  (zad (zaS PassesOwn.never rfl (zaD (bpv 1)) (zai (k:=4) zbI.nd rfl (Or.inr rfl)) (zag (zaR (zb4 PySem.F.plainAttrs_list PySem.F.slot_list_extend PySem.F.type_list_extend zeS (bpv 3) (zaa (zaV rfl (N:=["pair","choice"]) (n:=1) (cap:=[4]) (zbG rfl rfl) (zaD (bpv 2)) (zaL (by decide)) (fun _ _ _ _=>(zai (k:=0) (show (["pair","choice"]:List Str).Nodup by decide+kernel) rfl (Or.inl rfl))) (fun _ _ _ _=>zaJ) (fun _ _ _ _=>(zak zcO (bpv 1) (zax (zaa (bpv 0) (zac)))))) (zac))))))
  (zag (zaj (k:=1) zbI.nd rfl (Or.inl rfl) (bpv 3))))))
  (zag (zaq (bpv 1))))),?_⟩
 refine ⟨(by show 0≤sizeLine;decide),fun e0 he0=>⟨(by show 1≤sizeLine;decide),fun R0 hR0=>?_⟩⟩
 have k0:=zae he0 (.lst [])
 have k1:=zae hR0 (.lst [.ref e0])
 refine ⟨_,rfl,a,rfl,⟨_,.of ((k0.trans k1) _ _ ha)⟩,zbN (K:=K) (a:=a) (xs:=xs) (fun i σ H3=>∃ (C:Addr) (ys:List V) (o2 o3 o4:Option V),σ = [some (.ref a),some (.ref C),o2,o3,o4]∧Same H H3∧H C=none∧H3 C=some (.lst ys)∧PLs H3 ys (zbM [[]] (css.take i))∧∀ y∈ys,NewR H y)
  ⟨R0,[.ref e0],_,_,_,rfl,k0.trans k1,k0.free hR0,zab,.cons ⟨e0,[],rfl,k1 _ _ zab,rfl,fun _ z=>(List.not_mem_nil z).elim⟩ .nil,fun y hy=>⟨e0,List.mem_singleton.mp hy,he0⟩⟩ (fun i σ H3 _ ⟨_,_,_,_,_,_,s,_⟩=>.of (s _ _ ha)) ?_ ?_⟩
 ·rintro i x σ H3 hxi ⟨C,ys,o2,o3,o4,rfl,s3,nC,eC,hy,ny⟩
  obtain ⟨cs,hcs,hpx⟩:=hx.get hxi
  have few:(zbM [[]] (css.take i)).length≤256:=by
   refine Nat.le_trans (zdF _ _ fun l hl=>hl4 l (List.mem_of_mem_take hl)) ?_
   have:(css.take i).length≤4:=by rw [List.length_take];omega
   have:=Nat.pow_le_pow_right (n:=4) (by decide) this
   show 1 * _≤_
   omega
  have c4:cs.length≤4:=hl4 cs (List.mem_of_getElem? hcs)
  refine ⟨(by show 0≤sizeLine;decide),fun L hL=>?_⟩
  have kL:=zae hL (.lst [])
  refine ⟨_,rfl,C,rfl,⟨_,.of (kL _ _ eC)⟩,zbN (K:=K) (a:=C) (xs:=ys) (fun j σ H4=>∃ (G:Hp) (zs:List V) (o4:Option V),σ = [some (.ref a),some (.ref C),some x,some (.ref L),o4]∧Off [L] G H4∧Same H3 G∧H4 L=some (.lst zs)∧PLs G zs (((zbM [[]] (css.take i)).take j).flatMap fun r=>cs.map fun p=>r++ [p])∧∀ y∈zs,NewR H y)
   ⟨H3,[],_,rfl,Off.start hL _,Same.refl _,zab,.nil,fun _ z=>(List.not_mem_nil z).elim⟩ (fun j σ H4 _ ⟨_,_,_,_,o,s,_⟩=>.of ((s.trans o.same) _ _ eC)) ?_ ?_⟩
  ·rintro j y σ H4 hyj ⟨G,zs,o4,rfl,off,sG,eL,hz,nz⟩
   obtain ⟨r,hr',ly,psr,rfl,hly,rfl,hpr⟩:=hy.get hyj
   obtain ⟨lx',ps,rfl,hlx,rfl,hps⟩:=hpx
   have s34:=sG.trans off.same
   have s04:=s3.trans s34
   have lps:ps.length≤4:=by rw [List.length_map] at c4;exact c4
   have lpr:psr.length≤4:=by
    have:=(za8.mp (show psr.map Prod.fst∈choices (css.take i) from List.mem_of_getElem? hr')).length
    rw [List.length_map,List.length_take] at this
    omega
   have lzs:zs.length≤1024:=by
    have h1:=hz.len
    have h2:=zi3 c4 ((zbM [[]] (css.take i)).take j)
    have h3:((zbM [[]] (css.take i)).take j).length≤256:=by rw [List.length_take];omega
    omega
   refine ⟨_,rfl,.inl ⟨rfl,_,.of eL⟩,_,rfl,lx',rfl,⟨_,.of (s04 _ _ hlx)⟩,fun D hD=>zba (K:=K) (a:=lx') (xs:=ps.map fun p=>V.ref p.2)
    (fun m H5=>∃ (G2:Hp) (ws:List V),Off [D,L] G2 H5∧Same G G2∧H5 D=some (.lst ws)∧H5 L=some (.lst zs)∧PLs G2 ws (((ps.map Prod.fst).take m).map fun p=>psr.map Prod.fst++ [p])∧∀ y∈ws,NewR H y)
    ⟨G,[],off.opn hD _,Same.refl _,zab,zae hD _ _ _ eL,.nil,fun _ z=>(List.not_mem_nil z).elim⟩ (fun m H5 _ ⟨_,_,o,s,_⟩=>.of ((s3.trans (sG.trans (s.trans o.same))) _ _ hlx)) ?_ ?_⟩
   ·rintro m y H5 hym ⟨G2,ws,off5,sG2,eD,eL5,hw,nw⟩
    rw [List.getElem?_map] at hym
    cases hzm:ps[m]? with
    | none=>rw [hzm] at hym;cases hym
    | some p=>
     rw [hzm] at hym
     cases hym
     have hm:=List.mem_of_getElem? hzm
     have lws:ws.length≤4:=by
      have:=hw.len
      rw [List.length_map,List.length_take,List.length_map] at this
      omega
     have hly5:=(sG.trans (sG2.trans off5.same)) _ _ hly
     refine ⟨_,rfl,_,rfl,(by show 1≤sizeLine;decide),fun Z hZ=>?_⟩
     have of5:=off5.new hZ (.lst [.ref p.2])
     have kz:=zae hZ (.lst [.ref p.2])
     refine ⟨ly,Z,_,_,rfl,rfl,kz _ _ hly5,zab,bigE (by rw [List.length_map,List.length_singleton];omega),fun A0 hA0=>?_⟩
     have of6:=of5.lay hA0 (.lst ((psr.map fun p=>V.ref p.2)++ [.ref p.2]))
     have k6:=of5.add hA0 (.lst ((psr.map fun p=>V.ref p.2)++ [.ref p.2]))
     have ka:=zae hA0 (.lst ((psr.map fun p=>V.ref p.2)++ [.ref p.2]))
     have hLD:L≠D:=fun z=>by rw [z,hD] at eL;cases eL
     refine ⟨_,ka _ _ (kz _ _ eD),big (by omega),_,ws++ [.ref A0],of6.write (.head _) _,sG2.trans k6,zab,by rw [zam hLD];exact ka _ _ (kz _ _ eL5),?_,fun y hy=>?_⟩
     rotate_left
     ·rcases List.mem_append.mp hy with hy | hy
      ·exact nw y hy
      ·exact ⟨A0,List.mem_singleton.mp hy,((s3.trans (sG.trans sG2)).trans of5.same).free hA0⟩
     rw [List.take_add_one,List.getElem?_map,hzm,List.map_append]
     refine (PLs.mono k6 hw).append (.cons ⟨A0,psr++ [p],rfl,by rw [zab,List.map_append];rfl,by rw [List.map_append];rfl,fun x hx'=>?_⟩ .nil)
     rcases List.mem_append.mp hx' with z | z
     ·exact ⟨(hpr x z).1,k6 _ _ (sG2 _ _ (sG _ _ (hpr x z).2))⟩
     ·rw [List.mem_singleton.mp z]
      exact ⟨(hps p hm).1,k6 _ _ (sG2 _ _ (sG _ _ (s3 _ _ (hps p hm).2)))⟩
   ·rintro H5 ⟨G2,ws,off5,sG2,eD,eL5,hw,nw⟩
    rw [List.length_map,List.take_of_length_le (by rw [List.length_map];exact Nat.le_refl _)] at hw
    have lws:ws.length≤4:=by
     have:=hw.len
     rw [List.length_map,List.length_map] at this
     omega
    refine ⟨L,D,_,_,rfl,rfl,eL5,eD,bigE (by omega),G2,zs++ws,_,rfl,off5.drop.write (.head _) _,sG.trans sG2,zab,?_,fun y hy=>(List.mem_append.mp hy).elim (nz y) (nw y)⟩
    rw [List.take_add_one,hr',List.flatMap_append]
    refine (PLs.mono sG2 hz).append ?_
    show PLs G2 ws ([psr.map Prod.fst].flatMap _)
    rw [List.flatMap_cons,List.flatMap_nil,List.append_nil]
    exact hw
  ·rintro σ H4 ⟨G,zs,o4,rfl,off,sG,eL,hz,nz⟩
   have et:(zbM [[]] (css.take i)).take ys.length=zbM [[]] (css.take i):=by rw [hy.len,List.take_length]
   rw [et,← zhw] at hz
   have e2:css.take (i+1)=css.take i++ [cs]:=by rw [List.take_add_one,hcs];rfl
   rw [← e2] at hz
   exact ⟨_,rfl,L,zs,_,_,_,rfl,s3.trans (sG.trans off.same),s3.free hL,eL,PLs.mono off.same hz,nz⟩
 ·rintro σ H3 ⟨C,ys,o2,o3,o4,rfl,s3,nC,eC,hy,ny⟩
  rw [lx,List.take_length] at hy
  exact ⟨_,rfl,q C ys H3 s3 nC eC hy ny⟩
theorem ziC:zay ["stuck","gate","wires"] ["stuck","gate","wires"] (zah zcl):=⟨rfl,rfl,rfl,by decide+kernel,rfl,by decide+kernel,by decide+kernel⟩
theorem zih (T:Txt K mg t):FnOk P w K mg base CX0 2 t.f_leg_pairs t.fd_leg_pairs ["stuck","gate","wires"] sp_lp:=by
 refine T.d_leg_pairs.F.okB ziC (fun vs H Q E h=>?_) (fun cdv A outer s H vs Q E hr h=>?_)
 ·obtain ⟨d,p,k,fs,xs,css,rfl,_⟩:=h
  rfl
 obtain ⟨d,p,k,fs,xs,css,rfl,hd,fb,hp,hx,l4,hl4,q⟩:=h
 have hu1:=zhV hr
 have lx:=hx.len
 refine ⟨_,(zag (zaq (zaV rfl (N:=["leg","pairs","stuck","gate"]) (n:=2) (cap:=[0,1]) (zbG rfl rfl) (zdz rfl T.z_enumerate (zaa (bpv 2) (zac))) (zdi (by decide) (by decide)) (fun _ _ _ _=>(zd7 (K:=K) (n:=2) rfl (zas (zai (k:=0) (show (["leg","pairs","stuck","gate"]:List Str).Nodup by decide+kernel) rfl (Or.inl rfl)) (zas (zai (k:=1) (show (["leg","pairs","stuck","gate"]:List Str).Nodup by decide+kernel) rfl (Or.inl rfl)) zbq)))) (fun _ _ _ _=>zaJ) (fun _ _ _ _=>(zal (zdw T) (hr.mono (by decide)) rfl T.d_with_stuck.m T.d_with_stuck.F.kp T.d_with_stuck.b .nil zaH (zaa (bpv 1) (zaa (bpv 2) (zaa (zaB (zaa zav (zaa (bpv 3) (zaa (bpv 0) (zac))))) (zac))))))))),?_⟩
 refine ⟨_,rfl,p,rfl,⟨_,.of hp⟩,fun D hD=>zgn (K:=K) (a:=p) (xs:=xs) (fun j H2=>∃ (G:Hp) (ys:List V),Off [D] G H2∧Same H G∧H2 D=some (.lst ys)∧PLs G ys (zer fs k (css.take j)))
  ⟨H,[],Off.start hD _,Same.refl _,zab,.nil⟩ (fun j H2 _ ⟨_,_,o,s,_⟩=>.of ((s.trans o.same) _ _ hp)) ?_ ?_⟩
 ·rintro j y H2 T1 hy ⟨G,ys,off,sG,eD,hys⟩ h1
  obtain ⟨cs,hcs,hpy⟩:=hx.get hy
  have lj:j < css.length:=(List.getElem?_eq_some_iff.mp hcs).1
  have c4:cs.length≤4:=hl4 cs (List.mem_of_getElem? hcs)
  have k1:=zae h1 (.tup [.int j,y])
  have of1:=off.new h1 (.tup [.int j,y])
  refine ⟨T1,_,rfl,.of zab,rfl,_,_,rfl,_,_,rfl,rfl,?_⟩
  refine ⟨_,rfl,_,rfl,_,rfl,_,rfl,(by show 3≤sizeLine;decide),fun T2 h2=>?_⟩
  have k2:=zae h2 (.tup [.str "leg",.int k,.int j])
  have of2:=of1.new h2 (.tup [.str "leg",.int k,.int j])
  have s02:=sG.trans of2.same
  refine ⟨y,d,T2,cs,fs,legK k j,rfl,hpy.mono s02,by omega,s02 _ _ hd,zab,fb,fun v' H3 s3 res=>?_⟩
  have eD3:=s3 _ _ (k2 _ _ (k1 _ _ eD))
  have lys:ys.length≤4:=by
   have:=hys.len
   unfold zer at this
   rw [List.length_mapIdx,List.length_take] at this
   omega
  have of3:=zdv of2 s3
  have sn:=zc1 (H':=H3) of2.same
  refine ⟨_,eD3,big (by omega),_,ys++ [v'],of3.write (.head _) _,sG.trans sn,zab,?_⟩
  have et:css.take (j+1)=css.take j++ [cs]:=by rw [List.take_add_one,hcs];rfl
  have lt:(css.take j).length=j:=by rw [List.length_take];omega
  rw [et,zkk,lt]
  refine (PLs.mono sn hys).append (.cons ?_ .nil)
  rcases res with ⟨rfl,e⟩ | e
  ·rw [e]
   exact hpy.mono (sG.trans sn)
  ·exact e.pl
 ·rintro H2 ⟨G,ys,off,sG,eD,hys⟩
  rw [lx,List.take_length] at hys
  exact q D ys H2 (sG.trans off.same) hD eD (PLs.mono off.same hys)
theorem zeR:zay ["kind","legs","ahead"] ["kind","legs"] (zah zb8):=⟨rfl,rfl,rfl,by decide+kernel,rfl,by decide+kernel,by decide+kernel⟩
theorem zjo {k m:Nat}(T:Txt K mg t)(hk: 2≤k)(rec:FnOk P w K mg base CX0 k t.f_gate_pairs t.fd_gate_pairs ["kind","legs"] (zlX m)):FnOk P w K mg base CX0 (k+1) t.f_gate_pairs t.fd_gate_pairs ["kind","legs"] (zns (m+1)):=by
 refine T.d_gate_pairs.F.okB zeR (fun vs H Q E h=>?_) (fun cdv A outer s H vs Q E hr h=>?_)
 ·obtain ⟨k,a,xs,css,rfl,_⟩:=h
  rfl
 obtain ⟨kd,a,xs,css,rfl,ha,hx,lk,lm,c4,q⟩:=h
 have hu64:=hr.units
 have lx:=hx.len
 have l4:=lk.le
 refine ⟨_,(zad (zbd (zkf (zlh (zaA zi2 (bpv 0) (zmY (v:=.ref t.c_FOLDED_KINDS) rfl T.g_FOLDED_KINDS rfl) rfl) (zjH (zaA op_gt (zaE zaz rfl T.z_len PySem.boot_len (zaa (bpv 1) (zac))) zaf (za1 _))))) (zad (zaj (k:=2) zeR.nd rfl (Or.inl rfl) (zal rec hr rfl T.d_gate_pairs.m T.d_gate_pairs.F.kp T.d_gate_pairs.b .nil zaH (zaa (bpv 0) (zaa (zbs zdy (bpv 1) zcC (zbt (zfv zfE zaf))) (zac)))))
  (zag (zaq (zal rec hr rfl T.d_gate_pairs.m T.d_gate_pairs.F.kp T.d_gate_pairs.b .nil zaH (zaa (bpv 0) (zaa (zax (zaa (bpv 2) (zaa (zao zaN (bpv 1) (zfv zfE zaf) (fun _ _=>rfl)) (zac)))) (zac))))))) zaF)
  (zag (zaq (zev rfl hu64 rfl T.z_sorted rfl T.z_set (zaV rfl (N:=["choice","kind"]) (n:=1) (cap:=[0]) (zbG rfl rfl) (zaD (zal (zgJ T) (hr.mono (Nat.le_trans (by decide) hk)) rfl T.d_every_choice.m T.d_every_choice.F.kp T.d_every_choice.b .nil zaH (zaa (bpv 1) (zac)))) (zaL (by decide)) (fun _ _ _ _=>(zai (k:=0) (show (["choice","kind"]:List Str).Nodup by decide+kernel) rfl (Or.inl rfl))) (fun _ _ _ _=>zaJ) (fun _ _ _ _=>(zal (zgT T) (hr.mono (Nat.le_trans (by decide) hk)) rfl T.d_chosen_pair.m T.d_chosen_pair.F.kp T.d_chosen_pair.b .nil zaH (zaa (bpv 1) (zaa (bpv 0) (zac)))))))))),?_⟩
 refine ⟨_,rfl,t.c_FOLDED_KINDS,_,rfl,.inr (T.k_FOLDED_KINDS.sq (by decide)),rfl,rfl,_,rfl,?_⟩
 have hin:=zlP kd
 refine ite2 (fun c=>?_) (fun c=>?_)
 ·have fk:zfJ kd:=hin.mp c
  have hm:=lm fk
  refine ⟨_,rfl,a,_,rfl,.inl (.of ha),_,_,rfl,rfl,_,rfl,ite2 (fun c2=>?_) (fun c2=>?_)⟩
  ·have l2: 2 < css.length:=by have:=of_decide_eq_true c2;omega
   have hne:css≠[]:=fun z=>by rw [z] at l2;cases l2
   obtain ⟨as,b,rfl⟩:∃ as b,css=as++ [b]:=⟨css.dropLast,css.getLast hne,(List.dropLast_concat_getLast hne).symm⟩
   obtain ⟨ys,y,rfl,hys,hyl⟩:=PLs.split hx
   rw [List.length_append,List.length_singleton] at l2 hm l4
   have cas:∀ cs∈as,zcR cs:=fun cs hc=>hx.codes cs (List.mem_append_left _ hc)
   have cb:zcR b:=hyl.codes
   refine ⟨_,rfl,_,rfl,_,rfl,_,rfl,a,_,rfl,.of ha,fun T1 h1=>?_⟩
   rw [show (-(1:Int))= -1 from rfl,zeJ]
   have k1:=zae h1 (.lst ys)
   refine ⟨kd,T1,ys,as,rfl,zab,PLs.mono k1 hys,fk,by omega,by omega,by omega,fun cs hc=>c4 cs (List.mem_append_left _ hc),fun v1 H2 s2 pn=>?_⟩
   have s02:=k1.trans s2
   refine ⟨_,rfl,_,rfl,_,rfl,_,rfl,a,_,_,_,rfl,rfl,.of (s02 _ _ ha),zjn _ _,(by show 2≤sizeLine;decide),fun L hL=>?_⟩
   have k3:=zae hL (.lst [v1,y])
   refine ⟨kd,L,[v1,y],[zfS kd as,b],rfl,zab,.cons (pn.here.mono k3) (.cons (hyl.mono (s02.trans k3)) .nil),fk,(by show 2≤2;decide),(by show 2≤m;omega),(by show 2≤4;decide),?_,fun v2 H3 s3 pn2=>?_⟩
   ·intro cs hc
    rcases List.mem_cons.mp hc with rfl | hc
    ·exact zdD _
    ·rw [List.mem_singleton.mp hc]
     exact c4 b (List.mem_append_right _ (List.mem_singleton.mpr rfl))
   ·refine q v2 H3 ((s02.trans k3).trans s3) ?_
    rw [zkL fk cas cb]
    exact pn2.older (s02.trans k3)
  ·refine ⟨_,rfl,a,xs,css,rfl,ha,hx,l4,c4,fun R ys H1 s1 nR eR hy _=>⟨R,rfl,⟨_,.of eR⟩,fun D hD=>zba (K:=K) (a:=R) (xs:=ys)
    (fun j H4=>Same H1 H4∧∃ qs:List (Nat×Addr),qs.map Prod.fst=((choices css).take j).map (zcq kd)∧H4 D=some (.lst (qs.map fun p=>V.ref p.2))∧∀ p∈qs,p.1 < 4∧H4 p.2=some (zeQ p.1)∧p.2≠D∧H p.2=none)
    ⟨zae hD _,[],rfl,zab,fun _ z=>(List.not_mem_nil z).elim⟩ (fun j H4 _ z=>.of (z.1 _ _ eR)) ?_ ?_⟩⟩
   ·rintro j y H4 hyj ⟨s4,qs,eq,eD,hq⟩
    obtain ⟨r,hr',ly,psr,rfl,hly,rfl,hpr⟩:=hy.get hyj
    have chn:=za8.mp (show psr.map Prod.fst∈choices css from List.mem_of_getElem? hr')
    have lpr:psr.length=css.length:=by have:=chn.length;rw [List.length_map] at this;exact this
    have lkr:zbJ kd (psr.map Prod.fst).length:=by rw [List.length_map,lpr];exact lk
    have cdr:zcR (psr.map Prod.fst):=chn.codes hx.codes
    have lq:qs.length≤256:=by
     have h1:=congrArg List.length eq
     have h2:=zdF css [[]] c4
     have h3:=Nat.pow_le_pow_right (n:=4) (by decide) l4
     rw [List.length_map,List.length_map,List.length_take] at h1
     have h4:(choices css).length≤1 * 4 ^ css.length:=h2
     omega
    refine ⟨_,rfl,_,rfl,kd,ly,psr,rfl,s4 _ _ hly,fun p hp=>⟨(hpr p hp).1,s4 _ _ (hpr p hp).2⟩,by rw [lpr];exact lk,fun rr H5 s5 nr er=>?_⟩
    have nrD:rr≠D:=fun z=>by rw [z,eD] at nr;cases nr
    refine ⟨_,s5 _ _ eD,big (by rw [List.length_map];omega),(s4.trans s5).write hD _,qs++ [(zcq kd (psr.map Prod.fst),rr)],?_,?_,?_⟩
    ·rw [List.map_append,eq,List.take_add_one,hr',List.map_append]
     rfl
    ·rw [zab,List.map_append]
     rfl
    ·intro x hx'
     rcases List.mem_append.mp hx' with hx' | hx'
     ·obtain ⟨a1,a2,a3⟩:=hq x hx'
      exact ⟨a1,by rw [zam a3.1];exact s5 _ _ a2,a3⟩
     ·rw [List.mem_singleton.mp hx']
      exact ⟨zgh cdr lkr,by rw [zam nrD];exact er,nrD,s1.free (s4.free nr)⟩
   ·rintro H4 ⟨s4,qs,eq,eD,hq⟩
    rw [hy.len,List.take_length] at eq
    refine ⟨D,qs,rfl,eD,fun p hp'=>⟨(hq p hp').1,(hq p hp').2.1⟩,fun D2 L nD2 eL hL=>?_⟩
    refine q _ _ ((s1.trans s4).upd nD2 _) ⟨D2,L,rfl,(s1.trans s4).free nD2,zab,by rw [eL,eq];rfl,fun p hp'=>⟨(hq p (hL p hp')).1,(hq p (hL p hp')).2.2.2,?_⟩⟩
    have a2:=(hq p (hL p hp')).2.1
    rw [zam (fun z=>by rw [z,nD2] at a2;cases a2)]
    exact a2
 ·refine ⟨_,rfl,a,xs,css,rfl,ha,hx,l4,c4,fun R ys H1 s1 nR eR hy _=>⟨R,rfl,⟨_,.of eR⟩,fun D hD=>zba (K:=K) (a:=R) (xs:=ys)
   (fun j H4=>Same H1 H4∧∃ qs:List (Nat×Addr),qs.map Prod.fst=((choices css).take j).map (zcq kd)∧H4 D=some (.lst (qs.map fun p=>V.ref p.2))∧∀ p∈qs,p.1 < 4∧H4 p.2=some (zeQ p.1)∧p.2≠D∧H p.2=none)
   ⟨zae hD _,[],rfl,zab,fun _ z=>(List.not_mem_nil z).elim⟩ (fun j H4 _ z=>.of (z.1 _ _ eR)) ?_ ?_⟩⟩
  ·rintro j y H4 hyj ⟨s4,qs,eq,eD,hq⟩
   obtain ⟨r,hr',ly,psr,rfl,hly,rfl,hpr⟩:=hy.get hyj
   have chn:=za8.mp (show psr.map Prod.fst∈choices css from List.mem_of_getElem? hr')
   have lpr:psr.length=css.length:=by have:=chn.length;rw [List.length_map] at this;exact this
   have lkr:zbJ kd (psr.map Prod.fst).length:=by rw [List.length_map,lpr];exact lk
   have cdr:zcR (psr.map Prod.fst):=chn.codes hx.codes
   have lq:qs.length≤256:=by
    have h1:=congrArg List.length eq
    have h2:=zdF css [[]] c4
    have h3:=Nat.pow_le_pow_right (n:=4) (by decide) l4
    rw [List.length_map,List.length_map,List.length_take] at h1
    have h4:(choices css).length≤1 * 4 ^ css.length:=h2
    omega
   refine ⟨_,rfl,_,rfl,kd,ly,psr,rfl,s4 _ _ hly,fun p hp=>⟨(hpr p hp).1,s4 _ _ (hpr p hp).2⟩,by rw [lpr];exact lk,fun rr H5 s5 nr er=>?_⟩
   have nrD:rr≠D:=fun z=>by rw [z,eD] at nr;cases nr
   refine ⟨_,s5 _ _ eD,big (by rw [List.length_map];omega),(s4.trans s5).write hD _,qs++ [(zcq kd (psr.map Prod.fst),rr)],?_,?_,?_⟩
   ·rw [List.map_append,eq,List.take_add_one,hr',List.map_append]
    rfl
   ·rw [zab,List.map_append]
    rfl
   ·intro x hx'
    rcases List.mem_append.mp hx' with hx' | hx'
    ·obtain ⟨a1,a2,a3⟩:=hq x hx'
     exact ⟨a1,by rw [zam a3.1];exact s5 _ _ a2,a3⟩
    ·rw [List.mem_singleton.mp hx']
     exact ⟨zgh cdr lkr,by rw [zam nrD];exact er,nrD,s1.free (s4.free nr)⟩
  ·rintro H4 ⟨s4,qs,eq,eD,hq⟩
   rw [hy.len,List.take_length] at eq
   refine ⟨D,qs,rfl,eD,fun p hp'=>⟨(hq p hp').1,(hq p hp').2.1⟩,fun D2 L nD2 eL hL=>?_⟩
   refine q _ _ ((s1.trans s4).upd nD2 _) ⟨D2,L,rfl,(s1.trans s4).free nD2,zab,by rw [eL,eq];rfl,fun p hp'=>⟨(hq p (hL p hp')).1,(hq p (hL p hp')).2.2.2,?_⟩⟩
   have a2:=(hq p (hL p hp')).2.1
   rw [zam (fun z=>by rw [z,nD2] at a2;cases a2)]
   exact a2
theorem zhL (T:Txt K mg t):FnOk P w K mg base CX0 5 t.f_gate_pairs t.fd_gate_pairs ["kind","legs"] sp_gp:=by
 have g1:FnOk P w K mg base CX0 2 t.f_gate_pairs t.fd_gate_pairs ["kind","legs"] (zlX 1):=⟨fun vs H Q E ⟨_,_,_,_,_,_,_,_,l2,l1,_⟩=>absurd l2 (by omega),fun A outer s H args us vs Q E hr a b c ⟨_,_,_,_,_,_,_,_,l2,l1,_⟩=>absurd l2 (by omega)⟩
 have g2:=zjo T (by decide) g1
 have g3:=zjo T (by decide) (g2.imp fun vs H Q E h=>znn h)
 have g4:=zjo T (by decide) (g3.imp fun vs H Q E h=>znn h)
 exact g4.imp fun vs H Q E ⟨k,a,xs,css,e,ha,hx,lk,c4,q⟩=>⟨k,a,xs,css,e,ha,hx,lk,fun _=>lk.le,c4,q⟩
theorem zbb:zay ["works","stuck","known","pairs","wire","worth","gate","body","read","told"] ["works","stuck","known"] (zah zbO):=⟨rfl,rfl,rfl,by decide+kernel,rfl,by decide+kernel,by decide+kernel⟩
theorem zgU (T:Txt K mg t):FnOk P w K mg base CX0 6 t.f_every_pairs t.fd_every_pairs ["works","stuck","known"] (sp_ep K):=by
 refine T.d_every_pairs.F.okB zbb (fun vs H Q E h=>?_) (fun cdv A outer s H vs Q E hr h=>?_)
 ·obtain ⟨x,d,p,w,fs,ks,rfl,_⟩:=h
  rfl
 obtain ⟨x,d,p,w,fs,ks,rfl,hx,wf,hd,fb,hp,hl,kb,q⟩:=h
 obtain ⟨a,ga,oa,gs,os,rfl,ha,hg,ho,rg,ro⟩:=za2 hx
 have hu1:=zhV hr
 have lg:gs.length=w.gates.length:=by rw [rg.length,List.length_map]
 have i1:=wf.i1
 have i6:=wf.i6
 have few:=wf.few
 refine ⟨_,(zad (zaj (k:=3) zbb.nd rfl (Or.inr rfl) (zax zac))
  (zad (zaS PassesOwn.never rfl (zdz rfl T.z_enumerate (zaa (bpv 2) (zac))) (zcY rfl (zas (zai (k:=4) zbb.nd rfl (Or.inl rfl)) (zas (zai (k:=5) zbb.nd rfl (Or.inl rfl)) zbq))) (zag (zaR (zb4 PySem.F.plainAttrs_list PySem.F.slot_list_append PySem.F.type_list_append zaM (bpv 3) (zaa (zal (zdw T) (hr.mono (by decide)) rfl T.d_with_stuck.m T.d_with_stuck.F.kp T.d_with_stuck.b .nil zaH (zaa (zal (zg4 T) (hr.mono (by decide)) rfl T.d_input_pairs.m T.d_input_pairs.F.kp T.d_input_pairs.b .nil zaH (zaa (bpv 5) (zac))) (zaa (bpv 1) (zaa (zaB (zaa zav (zaa (bpv 4) (zac)))) (zac))))) (zac))))))
  (zad (zaS PassesOwn.never rfl (zdz rfl T.z_enumerate (zaa (zao zaC (bpv 0) zaf (fun _ _=>rfl)) (zac))) (zcY rfl (zas (zai (k:=6) zbb.nd rfl (Or.inl rfl)) (zas (zai (k:=7) zbb.nd rfl (Or.inl rfl)) zbq))) (zad (zaj (k:=8) zbb.nd rfl (Or.inl rfl) (zal (zih T) (hr.mono (by decide)) rfl T.d_leg_pairs.m T.d_leg_pairs.F.kp T.d_leg_pairs.b .nil zaH (zaa (bpv 1) (zaa (bpv 6) (zaa (zaV rfl (N:=["leg","pairs"]) (n:=1) (cap:=[3]) (zbG rfl rfl) (zhS (zao zaC (bpv 7) zaf (fun _ _=>rfl))) (zaL (by decide)) (fun _ _ _ _=>(zai (k:=0) (show (["leg","pairs"]:List Str).Nodup by decide+kernel) rfl (Or.inl rfl))) (fun _ _ _ _=>zaJ) (fun _ _ _ _=>(zao (zed (K:=K)) (bpv 1) (bpv 0) (fun _ _=>rfl)))) (zac))))))
  (zad (zaj (k:=9) zbb.nd rfl (Or.inl rfl) (zal (zhL T) (hr.mono (by decide)) rfl T.d_gate_pairs.m T.d_gate_pairs.F.kp T.d_gate_pairs.b .nil zaH (zaa (zao zaC (bpv 7) zaf (fun _ _=>rfl)) (zaa (bpv 8) (zac)))))
  (zag (zaR (zb4 PySem.F.plainAttrs_list PySem.F.slot_list_append PySem.F.type_list_append zaM (bpv 3) (zaa (zal (zdw T) (hr.mono (by decide)) rfl T.d_with_stuck.m T.d_with_stuck.F.kp T.d_with_stuck.b .nil zaH (zaa (bpv 9) (zaa (bpv 1) (zaa (zaB (zaa zav (zaa (zak zbc (zao zaC (bpv 0) zaf (fun _ _=>rfl)) (bpv 6)) (zac)))) (zac))))) (zac))))))))
  (zag (zaq (bpv 3)))))),?_⟩
 refine ⟨(by show 0≤sizeLine;decide),fun R hR=>?_⟩
 have kR:=zae hR (.lst [])
 refine ⟨_,rfl,p,rfl,⟨_,.of (kR _ _ hp)⟩,zf7 (K:=K) (a:=p) (xs:=ks.map optV)
  (fun i σ H3=>∃ (G:Hp) (ys:List V) (o4 o5 o6 o7 o8 o9:Option V),σ = [some (.ref a),some (.ref d),some (.ref p),some (.ref R),o4,o5,o6,o7,o8,o9]∧Off [R] G H3∧Same H G∧H3 R=some (.lst ys)∧PLN H G ys (rowP fs (ks.take i)))
  ⟨H,[],_,_,_,_,_,_,rfl,Off.start hR _,Same.refl _,zab,.nil⟩ (fun i σ H3 _ ⟨_,_,_,_,_,_,_,_,_,o,s,_⟩=>.of ((s.trans o.same) _ _ hp)) ?_ ?_⟩
 ·rintro i y σ H3 T1 hy ⟨G,ys,o4,o5,o6,o7,o8,o9,rfl,off,sG,eR,hys⟩ h1
  rw [List.getElem?_map] at hy
  cases hz:ks[i]? with
  | none=>rw [hz] at hy;cases hy
  | some o=>
   rw [hz] at hy
   cases hy
   have li:i < ks.length:=(List.getElem?_eq_some_iff.mp hz).1
   have k1:=zae h1 (.tup [.int i,optV o])
   have of1:=off.new h1 (.tup [.int i,optV o])
   have lys:ys.length≤6:=by
    have:=hys.len
    rw [zj2,List.length_take] at this
    omega
   refine ⟨T1,_,rfl,.of zab,rfl,_,_,rfl,_,_,rfl,rfl,?_⟩
   refine ⟨_,rfl,.inl ⟨rfl,_,.of (k1 _ _ eR)⟩,_,rfl,o,rfl,kb o (List.mem_of_getElem? hz),fun v H4 s4 pv=>?_⟩
   have of4:=zdv of1 s4
   have sn4:=zc1 (H':=H4) of1.same
   have pv4:=pv.news (G:=G) (sG.trans of1.same)
   refine ⟨_,rfl,_,rfl,(by show 2≤sizeLine;decide),fun T2 h2=>?_⟩
   have k2:=zae h2 (.tup [.str "wire",.int i])
   have of5:=of4.new h2 (.tup [.str "wire",.int i])
   have s05:=(sG.trans sn4).trans of5.same
   refine ⟨v,d,T2,inP o,fs,zbn i,rfl,pv4.here.mono of5.same,Nat.le_trans (znv o) (by decide),s05 _ _ hd,zab,fb,fun v' H6 s6 res=>?_⟩
   have of6:=zdv of5 s6
   have sn6:=zc1 (H':=H6) of5.same
   have eR6:=s6 _ _ (k2 _ _ (s4 _ _ (k1 _ _ eR)))
   refine ⟨R,_,_,rfl,rfl,eR6,big (by omega),_,ys++ [v'],_,_,_,_,_,_,rfl,of6.write (.head _) _,(sG.trans sn4).trans sn6,zab,?_⟩
   have et:ks.take (i+1)=ks.take i++ [o]:=by rw [List.take_add_one,hz];rfl
   have lt:(ks.take i).length=i:=by rw [List.length_take];omega
   rw [et,zl2,lt]
   refine (PLN.mono (sn4.trans sn6) hys).append (.cons ?_ .nil)
   rcases res with ⟨rfl,e⟩ | e
   ·rw [e]
    exact pv4.mono sn6
   ·exact e.news s05
 rintro σ H3 ⟨G,ys,o4,o5,o6,o7,o8,o9,rfl,off,sG,eR,hys⟩
 rw [List.length_map,List.take_length] at hys
 have s3:=sG.trans off.same
 refine ⟨_,rfl,a,_,_,_,rfl,rfl,s3.seqT ha,rfl,ga,rfl,⟨_,s3.seq hg⟩,zf7 (K:=K) (a:=ga) (xs:=gs)
  (fun i σ H3=>∃ (G:Hp) (ys:List V) (o4 o5 o6 o7 o8 o9:Option V),σ = [some (.ref a),some (.ref d),some (.ref p),some (.ref R),o4,o5,o6,o7,o8,o9]∧Off [R] G H3∧Same H G∧H3 R=some (.lst ys)∧PLN H G ys (za9 fs w.gates ks i))
  ⟨G,ys,_,_,_,_,_,_,rfl,off,sG,eR,hys⟩ (fun i σ H3 _ ⟨_,_,_,_,_,_,_,_,_,o,s,_⟩=>(s.trans o.same).seq hg) ?_ ?_⟩
 ·clear hys eR s3 sG off
  rintro i y σ H3 T1 hy ⟨G,ys,o4,o5,o6,o7,o8,o9,rfl,off,sG,eR,hys⟩ h1
  have hi:i < gs.length:=(List.getElem?_eq_some_iff.mp hy).1
  obtain ⟨g,hgk⟩:∃ g,w.gates[i]? =some g:=⟨_,List.getElem?_eq_getElem (by omega)⟩
  obtain ⟨dd,hdd,rv⟩:=rg.get hy
  rw [List.getElem?_map,hgk] at hdd
  cases hdd
  obtain ⟨a1,la,rfl,hA,hL⟩:=zel rv
  obtain ⟨lk,lb⟩:=wf.legs i g hgk
  have l4:=lk.le
  have lw:=zec fs w.gates ks i
  have lys:ys.length=ks.length+i:=hys.len.trans lw
  have k1:=zae h1 (.tup [.int i,.ref a1])
  have of1:=off.new h1 (.tup [.int i,.ref a1])
  have e1:=k1 _ _ eR
  have s1:=sG.trans of1.same
  refine ⟨T1,_,rfl,.of zab,rfl,_,_,rfl,_,_,rfl,rfl,?_⟩
  refine ⟨_,rfl,_,rfl,_,rfl,a1,_,_,_,rfl,rfl,s1.seqT hA,rfl,la,rfl,⟨_,s1.seqT hL⟩,fun D hD=>zfY (K:=K) (a:=la) (xs:=g.2.map V.int)
   (fun j H5=>Same (upd H3 T1 (.tup [.int i,.ref a1])) H5∧H5 D=some (.lst ((g.2.take j).map fun l=>ys.getD l.toNat V.non))) ⟨zae hD _,zab⟩ (fun j H5 _ z=>(s1.trans z.1).seqT hL) ?_ ?_⟩
  ·rintro j z H5 hzj ⟨s5,eD⟩
   rw [List.getElem?_map] at hzj
   cases hz:g.2[j]? with
   | none=>rw [hz] at hzj;cases hzj
   | some l=>
    rw [hz] at hzj
    cases hzj
    have bl:=lb l (List.mem_of_getElem? hz)
    have lj:j < g.2.length:=(List.getElem?_eq_some_iff.mp hz).1
    have at':atI ys l=some (ys.getD l.toNat V.non):=by
     have hk:l.toNat < ys.length:=by omega
     have q1:atI ys ((l.toNat:Nat):Int)=some ys[l.toNat]:=zdg (List.getElem?_eq_getElem hk)
     rw [show ((l.toNat:Nat):Int)=l by omega] at q1
     rw [q1,List.getD_eq_getElem?_getD,List.getElem?_eq_getElem hk]
     rfl
    refine ⟨_,rfl,_,rfl,R,_,_,_,rfl,rfl,.of (s5 _ _ e1),at',?_⟩
    refine ⟨_,eD,big (by simp;omega),s5.write hD _,?_⟩
    rw [zab,List.take_add_one,hz]
    simp
  rintro H5 ⟨s5,eD⟩
  have et:g.2.take (g.2.map V.int).length=g.2:=by rw [List.length_map,List.take_length]
  rw [et] at eD
  have of5:=of1.grow s5
  have s05:=sG.trans of5.same
  have c4:∀ cs∈g.2.map (fun l=>(za9 fs w.gates ks i).getD l.toNat []),cs.length≤4:=fun cs hc=>by
   obtain ⟨l,hl',rfl⟩:=List.mem_map.mp hc
   have bl:=lb l hl'
   have hk:l.toNat < (za9 fs w.gates ks i).length:=by omega
   rw [List.getD_eq_getElem?_getD,List.getElem?_eq_getElem hk]
   exact zgo fs w.gates ks i _ (List.getElem_mem hk)
  refine ⟨d,D,(i:Int),fs,_,_,rfl,s05 _ _ hd,fb,eD,PLs.mono of5.same ((PLN.pls hys).pick fun l hl'=>by have:=lb l hl';omega),by rw [List.length_map];exact l4,c4,fun R2 ys2 H6 s6 nR2 eR2 hys2=>?_⟩
  have of6:=of5.grow s6
  have s06:=sG.trans of6.same
  refine ⟨_,rfl,a1,_,_,_,rfl,rfl,s06.seqT hA,rfl,_,rfl,g.1,R2,ys2,_,rfl,eR2,hys2,by rw [zh3,List.length_map];exact lk,zmI c4,fun v7 H7 s7 pn=>?_⟩
  have of7:=zdv of6 s7
  have sn7:=zc1 (H':=H7) of6.same
  have pv7:=pn.news (G:=G) s06
  have s07:=(sG.trans sn7).trans of7.same
  have eR7:=s7 _ _ (s6 _ _ (s5 _ _ e1))
  refine ⟨_,rfl,.inl ⟨rfl,_,.of eR7⟩,_,rfl,_,rfl,_,rfl,a,_,_,_,rfl,rfl,s07.seqT ha,rfl,_,rfl,_,_,rfl,rfl,(by show 2≤sizeLine;decide),fun T2 h2=>?_⟩
  have k2:=zae h2 (.tup [.str "wire",.int (w.ins+(i:Int))])
  have of8:=of7.new h2 (.tup [.str "wire",.int (w.ins+(i:Int))])
  have s08:=(sG.trans sn7).trans of8.same
  have ei:w.ins+(i:Int)=((ks.length+i:Nat):Int):=by omega
  refine ⟨v7,d,T2,_,fs,zbn ((ks.length+i:Nat):Int),rfl,pv7.here.mono of8.same,Nat.le_trans (zdD _) (by decide),s08 _ _ hd,(by rw [zab];show some (HO.tup [V.str "wire",V.int (w.ins+(i:Int))])=_;rw [ei];rfl),fb,fun v' H9 s9 res=>?_⟩
  have of9:=zdv of8 s9
  have sn9:=zc1 (H':=H9) of8.same
  refine ⟨R,_,_,rfl,rfl,s9 _ _ (k2 _ _ eR7),big (by omega),_,ys++ [v'],_,_,_,_,_,_,rfl,of9.write (.head _) _,(sG.trans sn7).trans sn9,zab,?_⟩
  rw [za9,hgk]
  refine (PLN.mono (sn7.trans sn9) hys).append (.cons ?_ .nil)
  rcases res with ⟨rfl,e⟩ | e
  ·show PLn H _ _ (zfQ (look fs _) _)
   rw [e]
   exact pv7.mono sn9
  ·exact e.news s08
 ·clear hys eR s3 sG off
  rintro σ H3 ⟨G,ys,o4,o5,o6,o7,o8,o9,rfl,off,sG,eR,hys⟩
  rw [lg] at hys
  exact ⟨_,rfl,q R ys H3 (sG.trans off.same) hR eR (PLN.mono off.same hys)⟩
theorem ziN:zay ["pairs"] ["pairs"] (zah zcg):=⟨rfl,rfl,rfl,by decide+kernel,rfl,by decide+kernel,by decide+kernel⟩
theorem ziK (T:Txt K mg t):FnOk P w K mg base CX0 1 t.f_are_alike t.fd_are_alike ["pairs"] sp_aa:=by
 refine T.d_are_alike.F.okB ziN (fun vs H Q E h=>?_) (fun cdv A outer s H vs Q E hr h=>?_)
 ·obtain ⟨v,cs,rfl,_⟩:=h
  rfl
 obtain ⟨v,cs,rfl,⟨l,ps,rfl,hl,rfl,hp⟩,lz,q⟩:=h
 have hu64:=hr.units
 have lz':ps.length≤16:=by rw [List.length_map] at lz;exact lz
 refine ⟨_,(zag (zaq (zaE (ziQ rfl) rfl T.z_all PyProof.Rows.boot_all (zaa (zaV rfl (N:=["right","wrong"]) (n:=2) (cap:=[]) (zbG rfl rfl) (zaD (bpv 0)) (zdi (by decide) (by decide)) (fun _ _ _ _=>(zd7 (K:=K) (n:=2) rfl (zas (zai (k:=0) (show (["right","wrong"]:List Str).Nodup by decide+kernel) rfl (Or.inl rfl)) (zas (zai (k:=1) (show (["right","wrong"]:List Str).Nodup by decide+kernel) rfl (Or.inl rfl)) zbq)))) (fun _ _ _ _=>zaJ) (fun _ _ _ _=>(zcU zc3 (bpv 0) (bpv 1) (za1 _)))) (zac))))),?_⟩
 refine ⟨_,rfl,l,rfl,⟨_,.of hl⟩,fun D hD=>zba (K:=K) (a:=l) (xs:=ps.map fun p=>V.ref p.2)
   (fun j H4=>Same H H4∧H4 D=some (.lst ((((ps.map Prod.fst).take j).map fun c=>decide (hiV c=loV c)).map V.bl)))
   ⟨zae hD _,zab⟩ (fun j H4 _ z=>.of (z.1 _ _ hl)) ?_ ?_⟩
 ·rintro j y H4 hy ⟨s4,eD⟩
  rw [List.getElem?_map] at hy
  cases hz:ps[j]? with
  | none=>rw [hz] at hy;cases hy
  | some p=>
   rw [hz] at hy
   cases hy
   have hm:=List.mem_of_getElem? hz
   have lj:j < ps.length:=(List.getElem?_eq_some_iff.mp hz).1
   have hpo:=s4 _ _ (hp p hm).2
   refine ⟨p.2,_,rfl,.of hpo,rfl,_,_,rfl,_,_,rfl,rfl,?_⟩
   refine ⟨_,rfl,_,rfl,rfl,?_⟩
   refine ⟨_,eD,big (by rw [List.length_map,List.length_map,List.length_take];omega),s4.write hD _,?_⟩
   rw [zab,List.take_add_one,List.getElem?_map,hz,List.map_append,List.map_append]
   have e:decide (V.int ((p.1 / 2:Nat):Int)=V.int ((p.1 % 2:Nat):Int))=decide (hiV p.1=loV p.1):=by
    by_cases c:hiV p.1=loV p.1
    ·rw [decide_eq_true c]
     exact decide_eq_true (congrArg V.int c)
    ·rw [decide_eq_false c]
     exact decide_eq_false fun z=>c (V.int.inj z)
   show some (HO.lst (_++ [V.bl (decide (V.int ((p.1 / 2:Nat):Int)=V.int ((p.1 % 2:Nat):Int)))]))=_
   rw [e]
   rfl
 rintro H4 ⟨s4,eD⟩
 rw [List.length_map,List.take_of_length_le (by rw [List.length_map];exact Nat.le_refl _)] at eD
 refine ⟨D,_,rfl,.of eD,?_⟩
 have e:(((ps.map Prod.fst).map fun c=>decide (hiV c=loV c)).all id)=(ps.map Prod.fst).all fun c=>decide (hiV c=loV c):=by rw [List.all_map];rfl
 rw [e]
 exact q H4 s4
theorem zdH:zay ["works","stuck","known","pairs"] ["works","stuck","known"] (zah zbi):=⟨rfl,rfl,rfl,by decide+kernel,rfl,by decide+kernel,by decide+kernel⟩
theorem zfP (T:Txt K mg t):FnOk P w K mg base CX0 7 t.f_outputs_alike t.fd_outputs_alike ["works","stuck","known"] (sp_oal K):=by
 refine T.d_outputs_alike.F.okB zdH (fun vs H Q E h=>?_) (fun cdv A outer s H vs Q E hr h=>?_)
 ·obtain ⟨x,d,p,w,fs,ks,rfl,_⟩:=h
  rfl
 obtain ⟨x,d,p,w,fs,ks,rfl,hx,wf,hd,fb,hp,hl,kb,q⟩:=h
 have hu64:=hr.units
 obtain ⟨a,ga,oa,gs,os,rfl,ha,hg,ho,rg,ro⟩:=za2 hx
 refine ⟨_,(zad (zaj (k:=3) zdH.nd rfl (Or.inr rfl) (zal (zgU T) (hr.mono (by decide)) rfl T.d_every_pairs.m T.d_every_pairs.F.kp T.d_every_pairs.b .nil zaH (zaa (bpv 0) (zaa (bpv 1) (zaa (bpv 2) (zac))))))
  (zag (zaq (zaE (ziQ rfl) rfl T.z_all PyProof.Rows.boot_all (zaa (zaV rfl (N:=["wire","pairs"]) (n:=1) (cap:=[3]) (zbG rfl rfl) (zaD (zao zaC (bpv 0) zaf (fun _ _=>rfl))) (zaL (by decide)) (fun _ _ _ _=>(zai (k:=0) (show (["wire","pairs"]:List Str).Nodup by decide+kernel) rfl (Or.inl rfl))) (fun _ _ _ _=>zaJ) (fun _ _ _ _=>(zal (ziK T) (hr.mono (by decide)) rfl T.d_are_alike.m T.d_are_alike.F.kp T.d_are_alike.b .nil zaH (zaa (zao (zed (K:=K)) (bpv 1) (bpv 0) (fun _ _=>rfl)) (zac))))) (zac)))))),?_⟩
 refine ⟨_,rfl,_,rfl,_,rfl,.ref a,d,p,w,fs,ks,rfl,hx,wf,hd,fb,hp,hl,kb,fun R ys H1 s1 nR eR hys=>?_⟩
 have lw:=zec fs w.gates ks w.gates.length
 have lys:=hys.len.trans lw
 have ho1:=s1.seq ho
 have lo:w.outs.length≤40:=wf.o3
 have eos:=zdr ro
 subst eos
 refine ⟨_,rfl,a,_,_,_,rfl,rfl,s1.seqT ha,rfl,oa,rfl,⟨_,ho1⟩,fun D hD=>zba (K:=K) (a:=oa) (xs:=w.outs.map V.int)
  (fun j H4=>Same H1 H4∧H4 D=some (.lst (((w.outs.take j).map fun o=>((za9 fs w.gates ks w.gates.length).getD o.toNat []).all fun c=>decide (hiV c=loV c)).map V.bl)))
  ⟨zae hD _,zab⟩ (fun j H4 _ z=>z.1.seq ho1) ?_ ?_⟩
 ·rintro j y H4 hy ⟨s4,eD⟩
  rw [List.getElem?_map] at hy
  cases hz:w.outs[j]? with
  | none=>rw [hz] at hy;cases hy
  | some o=>
   rw [hz] at hy
   cases hy
   have lj:j < w.outs.length:=(List.getElem?_eq_some_iff.mp hz).1
   obtain ⟨o0,o1⟩:=wf.outs o (List.mem_of_getElem? hz)
   have hk:o.toNat < ys.length:=by omega
   have q1:atI ys ((o.toNat:Nat):Int)=some ys[o.toNat]:=zdg (List.getElem?_eq_getElem hk)
   rw [show ((o.toNat:Nat):Int)=o by omega] at q1
   obtain ⟨cs,hc,pn⟩:=hys.get (List.getElem?_eq_getElem hk)
   have lc:cs.length≤4:=zgo fs w.gates ks w.gates.length cs (List.mem_of_getElem? hc)
   refine ⟨_,rfl,_,rfl,R,_,_,_,rfl,rfl,.of (s4 _ _ eR),q1,_,cs,rfl,pn.here.mono s4,by omega,fun H5 s5=>?_⟩
   refine ⟨_,s5 _ _ eD,big (by rw [List.length_map,List.length_map,List.length_take];omega),(s4.trans s5).write hD _,?_⟩
   rw [zab,List.take_add_one,hz,List.map_append,List.map_append]
   have e:(za9 fs w.gates ks w.gates.length).getD o.toNat []=cs:=by rw [List.getD_eq_getElem?_getD,hc];rfl
   show _=some (HO.lst (_++ [V.bl (((za9 fs w.gates ks w.gates.length).getD o.toNat []).all fun c=>decide (hiV c=loV c))]))
   rw [e]
 rintro H4 ⟨s4,eD⟩
 rw [List.length_map,List.take_length] at eD
 refine ⟨D,_,rfl,.of eD,?_⟩
 rw [List.all_map]
 exact q H4 (s1.trans s4)
theorem zcA:zay ["works","stuck","known","ahead","low","high"] ["works","stuck","known"] (zah zbu):=⟨rfl,rfl,rfl,by decide+kernel,rfl,by decide+kernel,by decide+kernel⟩
theorem znB {k m:Nat}(T:Txt K mg t)(hk: 7≤k)(rec:FnOk P w K mg base CX0 k t.f_paper_behind t.fd_paper_behind ["works","stuck","known"] (zjO K m)):FnOk P w K mg base CX0 (k+1) t.f_paper_behind t.fd_paper_behind ["works","stuck","known"] (zjO K (m+1)):=by
 refine T.d_paper_behind.F.okB zcA (fun vs H Q E h=>?_) (fun cdv A outer s H vs Q E hr h=>?_)
 ·obtain ⟨x,d,p,w,fs,bs,n,rfl,_⟩:=h
  rfl
 obtain ⟨x,d,p,w,fs,bs,n,rfl,hx,wf,hd,fb,nv,hp,b,hl,nm,q⟩:=h
 have hu64:=hr.units
 have i6:=wf.i6
 obtain ⟨a,ga,oa,gs,os,rfl,ha,hg,ho,rg,ro⟩:=za2 hx
 have len:(bs.map V.int).length=bs.length:=List.length_map _
 refine ⟨_,(zad (zaj (k:=3) zcA.nd rfl (Or.inl rfl) (zaE zaz rfl T.z_len PySem.boot_len (zaa (bpv 2) (zac))))
  (zad (zbd (zlr (zal (zfP T) (hr.mono (Nat.le_trans (by decide) hk)) rfl T.d_outputs_alike.m T.d_outputs_alike.F.kp T.d_outputs_alike.b .nil zaH (zaa (bpv 0) (zaa (bpv 1) (zaa (zak zcO (bpv 2) (zak zl8 (zax (zaa zhr (zac))) (zak zfC (zao zaC (bpv 0) zaf (fun _ _=>rfl)) (bpv 3)))) (zac)))))) (zag (zaq (zaB (zaa zav (zac))))) zaF)
  (zad (zaj (k:=4) zcA.nd rfl (Or.inl rfl) (zal rec hr rfl T.d_paper_behind.m T.d_paper_behind.F.kp T.d_paper_behind.b .nil zaH (zaa (bpv 0) (zaa (bpv 1) (zaa (zak zcO (bpv 2) (zax (zaa zaf (zac)))) (zac))))))
  (zad (zaj (k:=5) zcA.nd rfl (Or.inl rfl) (zal rec hr rfl T.d_paper_behind.m T.d_paper_behind.F.kp T.d_paper_behind.b .nil zaH (zaa (bpv 0) (zaa (bpv 1) (zaa (zak zcO (bpv 2) (zax (zaa zaf (zac)))) (zac))))))
  (zag (zaq (zaB (zaa zav (zaa (bpv 3) (zaa (bpv 4) (zaa (bpv 5) (zac)))))))))))),?_⟩
 refine ⟨_,rfl,p,_,rfl,.inl (.of hp),?_⟩
 refine ⟨_,rfl,_,rfl,_,rfl,(by show 1≤sizeLine;decide),fun L1 h1=>?_⟩
 have k1:=zae h1 (.lst [V.non])
 have en:(w.ins - (((bs.map V.int).length:Nat):Int)).toNat=n:=by rw [len];omega
 refine ⟨_,rfl,a,_,_,_,rfl,rfl,k1.seqT ha,rfl,_,rfl,_,_,rfl,rfl,L1,_,_,rfl,rfl,zab,by rw [len];omega,by rw [len];omega,bigE (by show 1 * _≤_;rw [en];omega),fun L2 h2=>?_⟩
 rw [en,zne]
 have k2:=zae h2 (.lst ((List.replicate n (none:Option Int)).map optV))
 have s12:=k1.trans k2
 refine ⟨p,L2,_,_,rfl,rfl,s12 _ _ hp,zab,bigE (by rw [len,List.length_map,List.length_replicate];omega),fun L3 h3=>?_⟩
 have ep:bs.map V.int++(List.replicate n (none:Option Int)).map optV=(pad n bs).map optV:=by
  unfold pad
  rw [List.map_append,← zjh]
 rw [ep]
 have k3:=zae h3 (.lst ((pad n bs).map optV))
 have s13:=s12.trans k3
 refine ⟨.ref a,d,L3,w,fs,pad n bs,rfl,hx.mono s13,wf,s13 _ _ hd,fb,zab,by rw [zk4];exact hl,zj1 b,fun H4 s4=>⟨_,rfl,?_⟩⟩
 have s14:=s13.trans s4
 refine ite2 (fun c=>?_) (fun c=>?_)
 ·refine ⟨(by show 1≤sizeLine;decide),fun T1 h1'=>q _ _ (s14.upd h1' _) ?_⟩
  have e:zdf w fs n bs= .same:=by
   cases n with
   | zero=>rfl
   | succ n=>
    unfold zdf
    rw [if_pos c]
  rw [e]
  exact .tup (.of zab) (.cons (.str _) .nil)
 ·cases n with
  | zero=>exact absurd (zjp fb wf nv b hl) c
  | succ n=>
   have e:zdf w fs (n+1) bs= .split bs.length (zdf w fs n (bs++ [0])) (zdf w fs n (bs++ [1])):=by
    conv=>lhs;unfold zdf
    rw [if_neg c]
   have cat:∀ z:Int,bs.map V.int++ [V.int z]=(bs++ [z]).map V.int:=fun z=>by rw [List.map_append];rfl
   have lb:∀ z:Int,(((bs++ [z]).length+n:Nat):Int)=w.ins:=fun z=>by rw [List.length_append,List.length_singleton];omega
   refine ⟨_,rfl,_,rfl,_,rfl,(by show 1≤sizeLine;decide),fun L4 h4=>?_⟩
   have k4:=zae h4 (.lst [V.int 0])
   refine ⟨p,L4,_,_,rfl,rfl,(s14.trans k4) _ _ hp,zab,bigE (by rw [len];show _+1≤_;omega),fun L5 h5=>?_⟩
   rw [cat 0]
   have k5:=zae h5 (.lst ((bs++ [(0:Int)]).map V.int))
   have s15:=(s14.trans k4).trans k5
   refine ⟨.ref a,d,L5,w,fs,bs++ [0],n,rfl,hx.mono s15,wf,s15 _ _ hd,fb,nv,zab,ziy b (.inl rfl),lb 0,by omega,fun lv H6 s6 rl=>?_⟩
   have s16:=s15.trans s6
   refine ⟨_,rfl,_,rfl,_,rfl,(by show 1≤sizeLine;decide),fun L7 h7=>?_⟩
   have k7:=zae h7 (.lst [V.int 1])
   refine ⟨p,L7,_,_,rfl,rfl,(s16.trans k7) _ _ hp,zab,bigE (by rw [len];show _+1≤_;omega),fun L8 h8=>?_⟩
   rw [cat 1]
   have k8:=zae h8 (.lst ((bs++ [(1:Int)]).map V.int))
   have s18:=(s16.trans k7).trans k8
   refine ⟨.ref a,d,L8,w,fs,bs++ [1],n,rfl,hx.mono s18,wf,s18 _ _ hd,fb,nv,zab,ziy b (.inr rfl),lb 1,by omega,fun hv H9 s9 rh=>?_⟩
   have s19:=s18.trans s9
   refine ⟨_,rfl,_,rfl,_,rfl,(by show 4≤sizeLine;decide),fun T3 h3'=>?_⟩
   have kT:=zae h3' (.tup [.str "split",.int ((bs.map V.int).length:Nat),lv,hv])
   refine q _ _ (s19.trans kT) ?_
   rw [e,← len]
   exact .tup (.of zab) (.cons (.str _) (.cons (.int _) (.cons (rl.mono (((k7.trans k8).trans s9).trans kT)) (.cons (rh.mono kT) .nil))))
theorem zl7 (T:Txt K mg t):∀ m:Nat,FnOk P w K mg base CX0 (7+m) t.f_paper_behind t.fd_paper_behind ["works","stuck","known"] (zjO K m)
 | 0=>⟨fun vs H Q E ⟨_,_,_,_,_,_,_,_,_,_,_,_,_,_,_,_,z,_⟩=>absurd z (Nat.not_lt_zero _),fun A outer s H args us vs Q E hr a b c ⟨_,_,_,_,_,_,_,_,_,_,_,_,_,_,_,_,z,_⟩=>absurd z (Nat.not_lt_zero _)⟩
 | m+1=>znB T (Nat.le_add_right 7 m) (zl7 T m)
theorem zgL (T:Txt K mg t):FnOk P w K mg base CX0 14 t.f_paper_behind t.fd_paper_behind ["works","stuck","known"] (zjO K 7):=zl7 T 7
theorem zdO:zay ["works","faults","stuck","row"] ["works","faults"] (zah zcn):=⟨rfl,rfl,rfl,by decide+kernel,rfl,by decide+kernel,by decide+kernel⟩
theorem zii (T:Txt K mg t):FnOk P w K mg base CX0 15 t.f_test_told t.fd_test_told ["works","faults"] (sp_tt K):=by
 refine T.d_test_told.F.okB zdO (fun vs H Q E h=>?_) (fun cdv A outer s H vs Q E hr h=>?_)
 ·obtain ⟨x,y,w,fs,rfl,_⟩:=h
  rfl
 obtain ⟨x,y,w,fs,rfl,hx,wf,hy,gd,ap,lf,q⟩:=h
 have hu64:=hr.units
 have i1:=wf.i1
 have i6:=wf.i6
 refine ⟨_,(zad (zaj (k:=2) zdO.nd rfl (Or.inl rfl) (zal (zcw T) (hr.mono (by decide)) rfl T.d_stuck_places.m T.d_stuck_places.F.kp T.d_stuck_places.b .nil zaH (zaa (bpv 0) (zaa (bpv 1) (zac)))))
  (zad (zaj (k:=3) zdO.nd rfl (Or.inl rfl) (zal (zcW T) (hr.mono (by decide)) rfl T.d_first_unlike.m T.d_first_unlike.F.kp T.d_first_unlike.b .nil zaH (zaa (bpv 0) (zaa (bpv 2) (zaa zeF (zac))))))
  (zad (zbd (zeZ (zl3 (bpv 3))) (zag (zaq (zaB (zaa zav (zaa (zal (zgL T) (hr.mono (by decide)) rfl T.d_paper_behind.m T.d_paper_behind.F.kp T.d_paper_behind.b .nil zaH (zaa (bpv 0) (zaa (bpv 2) (zaa (zax zac) (zac))))) (zac)))))) zaF)
  (zag (zaq (zaB (zaa zav (zaa (bpv 3) (zac))))))))),?_⟩
 refine ⟨_,rfl,_,rfl,x,y,w,fs,rfl,hx,wf,hy,gd,ap,lf,fun d H1 s1 nd ed=>?_⟩
 refine ⟨_,rfl,_,rfl,fun e he=>?_⟩
 have k2:=zae he (.dT [])
 have s12:=s1.trans k2
 have ed2:=k2 _ _ ed
 have fb:∀ f∈fs,f.worth=0∨f.worth=1:=fun f hf=>(gd f hf).2
 refine ⟨x,d,e,w,fs,[],rfl,hx.mono s12,wf,ed2,zab,fb,(fun _ z=>nomatch z),ap,List.nodup_nil,by omega,Nat.zero_le _,fun v H2 s2 res=>?_⟩
 have s02:=s12.trans s2
 have res0:=res.any s12
 cases eo:zaG w fs [] with
 | none=>
  rw [eo] at res0
  have ev:v= .non:=res0
  subst ev
  refine ⟨_,rfl,_,rfl,ite2 (fun c=>?_) (fun c=>absurd (decide_eq_true rfl) c)⟩
  refine ⟨_,rfl,_,rfl,(by show 0≤sizeLine;decide),fun L3 h3=>?_⟩
  have k3:=zae h3 (.lst [])
  have s03:=s02.trans k3
  refine ⟨x,d,L3,w,fs,[],w.ins.toNat,rfl,hx.mono s03,wf,(s2.trans k3) _ _ ed2,fb,eo,zab,(fun _ z=>nomatch z),by rw [List.length_nil];omega,by omega,fun pv H4 s4 rp=>?_⟩
  refine ⟨(by show 2≤sizeLine;decide),fun T5 h5=>q T5 _ ((s03.trans s4).upd h5 _) ((s03.trans s4).free h5) (.inl ⟨eo,pv,zab,rp.mono (zae h5 _)⟩)⟩
 | some row=>
  rw [eo] at res0
  obtain ⟨qa,rfl,nq,eq⟩:=res0
  refine ⟨_,rfl,_,rfl,ite2 (fun c=>absurd (of_decide_eq_true c) (fun z=>nomatch z)) (fun c=>?_)⟩
  refine ⟨_,rfl,(by show 2≤sizeLine;decide),fun T5 h5=>q T5 _ (s02.upd h5 _) (s02.free h5) (.inr ⟨row,qa,eo,zab,nq,zae h5 _ _ _ eq⟩)⟩
theorem zhB:zay ["works","faults"] ["works","faults"] (zah zb7):=⟨rfl,rfl,rfl,by decide+kernel,rfl,by decide+kernel,by decide+kernel⟩
theorem zeB (T:Txt K mg t):FnOk P w K mg base CX0 6 t.f_first_test t.fd_first_test ["works","faults"] (sp_ft K):=by
 refine T.d_first_test.F.okB zhB (fun vs H Q E h=>?_) (fun cdv A outer s H vs Q E hr h=>?_)
 ·obtain ⟨x,y,w,fs,rfl,_⟩:=h
  rfl
 obtain ⟨x,y,w,fs,rfl,hx,wf,hy,gd,ap,lf,q⟩:=h
 refine ⟨_,(zag (zaq (zal (zcW T) (hr.mono (by decide)) rfl T.d_first_unlike.m T.d_first_unlike.F.kp T.d_first_unlike.b .nil zaH (zaa (bpv 0) (zaa (zal (zcw T) (hr.mono (by decide)) rfl T.d_stuck_places.m T.d_stuck_places.F.kp T.d_stuck_places.b .nil zaH (zaa (bpv 0) (zaa (bpv 1) (zac)))) (zaa zeF (zac))))))),?_⟩
 refine ⟨_,rfl,_,rfl,_,rfl,x,y,w,fs,rfl,hx,wf,hy,gd,ap,lf,fun d H1 s1 nd ed=>?_⟩
 refine fun e he=>?_
 have k2:=zae he (.dT [])
 have s12:=s1.trans k2
 exact ⟨x,d,e,w,fs,[],rfl,hx.mono s12,wf,k2 _ _ ed,zab,fun f hf=>(gd f hf).2,(fun _ z=>nomatch z),ap,List.nodup_nil,by omega,Nat.zero_le _,fun v H2 s2 res=>q v H2 (s12.trans s2) (res.any s12)⟩
theorem zim:zay ["works","faults","others"] ["works","faults","others"] (zah zcm):=⟨rfl,rfl,rfl,by decide+kernel,rfl,by decide+kernel,by decide+kernel⟩
theorem ziL (T:Txt K mg t):FnOk P w K mg base CX0 6 t.f_parted_at t.fd_parted_at ["works","faults","others"] (sp_paT K):=by
 refine T.d_parted_at.F.okB zim (fun vs H Q E h=>?_) (fun cdv A outer s H vs Q E hr h=>?_)
 ·obtain ⟨x,y,z,w,fs,gs,rfl,_⟩:=h
  rfl
 obtain ⟨x,y,z,w,fs,gs,rfl,hx,wf,hy,gf,af,lf,hz,gg,ag,lg,q⟩:=h
 refine ⟨_,(zag (zaq (zal (zcW T) (hr.mono (by decide)) rfl T.d_first_unlike.m T.d_first_unlike.F.kp T.d_first_unlike.b .nil zaH (zaa (bpv 0) (zaa (zal (zcw T) (hr.mono (by decide)) rfl T.d_stuck_places.m T.d_stuck_places.F.kp T.d_stuck_places.b .nil zaH (zaa (bpv 0) (zaa (bpv 1) (zac)))) (zaa (zal (zcw T) (hr.mono (by decide)) rfl T.d_stuck_places.m T.d_stuck_places.F.kp T.d_stuck_places.b .nil zaH (zaa (bpv 0) (zaa (bpv 2) (zac)))) (zac))))))),?_⟩
 refine ⟨_,rfl,_,rfl,_,rfl,x,y,w,fs,rfl,hx,wf,hy,gf,af,lf,fun d H1 s1 nd ed=>?_⟩
 refine ⟨_,rfl,_,rfl,x,z,w,gs,rfl,hx.mono s1,wf,hz.mono s1,gg,ag,lg,fun e H2 s2 ne ee=>?_⟩
 have s12:=s1.trans s2
 exact ⟨x,d,e,w,fs,gs,rfl,hx.mono s12,wf,s2 _ _ ed,ee,fun f hf=>(gf f hf).2,fun f hf=>(gg f hf).2,af,ag,lf,lg,fun v H3 s3 ro=>q v H3 (s12.trans s3) (ro.any s12)⟩
theorem zfA:zay ["works","faults","row"] ["works","faults"] (zah zci):=⟨rfl,rfl,rfl,by decide+kernel,rfl,by decide+kernel,by decide+kernel⟩
theorem zdX (T:Txt K mg t):FnOk P w K mg base CX0 4 t.f_law_first t.fd_law_first ["works","faults"] (sp_du K):=by
 refine T.d_law_first.F.okB zfA (fun vs H Q E h=>?_) (fun cdv A outer s H vs Q E hr h=>?_)
 ·obtain ⟨x,y,w,fs,rfl,_⟩:=h
  rfl
 obtain ⟨x,y,w,fs,rfl,hx,wf,hy,gd,ap,lf,q⟩:=h
 obtain ⟨a,ga,oa,gv,os,rfl,ha,hg,ho,rg,ro⟩:=za2 hx
 have hu64:=hr.units
 have i1:=wf.i1
 have i6:=wf.i6
 refine ⟨_,(zad (zaS PassesOwn.never rfl (zaD (zal (zjc T) (hr.mono (by decide)) rfl T.d_law_rows.m T.d_law_rows.F.kp T.d_law_rows.b .nil zaH (zaa (zao zaC (bpv 0) zaf (fun _ _=>rfl)) (zac)))) (zai (k:=2) zfA.nd rfl (Or.inl rfl)) (zag (zbd (zaA (zlp hu64) (zal (zeg T) (hr.mono (by decide)) rfl T.d_law_outputs.m T.d_law_outputs.F.kp T.d_law_outputs.b .nil zaH (zaa (bpv 0) (zaa (bpv 1) (zaa (bpv 2) (zac))))) (zal (zeg T) (hr.mono (by decide)) rfl T.d_law_outputs.m T.d_law_outputs.F.kp T.d_law_outputs.b .nil zaH (zaa (bpv 0) (zaa (zax zac) (zaa (bpv 2) (zac))))) (za1 _)) (zag (zaq (bpv 2))) zaF)))
  (zag (zaq zhr))),?_⟩
 refine ⟨_,rfl,a,_,_,_,rfl,rfl,ha,rfl,w.ins,rfl,by omega,i6,fun R qs H1 s1 eR at1=>?_⟩
 have lq:=at1.len
 refine ⟨R,rfl,⟨_,.of eR⟩,zbN (K:=K) (a:=R) (xs:=qs.map V.ref)
  (fun i σ H3=>∃ (o3:Option V),σ = [some (.ref a),some y,o3]∧Same H1 H3∧∀ r∈(zaI w.ins.toNat).take i,decide (zaQ w (zan fs w.gates r w.gates.length)≠zaQ w (zan [] w.gates r w.gates.length))=false)
  ⟨_,rfl,Same.refl _,fun _ z=>nomatch z⟩ (fun i σ H3 _ ⟨_,_,s3,_⟩=>.of (s3 _ _ eR)) ?_ ?_⟩
 ·rintro i y' σ H3 hy' ⟨o3,rfl,s3,no⟩
  rw [List.getElem?_map] at hy'
  cases hz:qs[i]? with
  | none=>rw [hz] at hy';cases hy'
  | some qa=>
   rw [hz] at hy'
   cases hy'
   obtain ⟨row,hrow,hq⟩:=at1.get hz
   obtain ⟨lr,br⟩:=zar _ row (List.mem_of_getElem? hrow)
   have hl:(row.length:Int)=w.ins:=by omega
   have s13:=s1.trans s3
   refine ⟨_,rfl,_,rfl,_,rfl,.ref a,y,qa,w,fs,row,rfl,hx.mono s13,wf,hy.mono s13,fun f hf=>(gd f hf).2,ap,lf,.of (s3 _ _ hq),hl,br,fun ra Ha sa na ea=>?_⟩
   have s1a:=s13.trans sa
   refine ⟨_,rfl,(by show 0≤sizeLine;decide),fun E0 hE0=>?_⟩
   have kE:=zae hE0 (.lst [])
   have s1e:=s1a.trans kE
   refine ⟨_,rfl,.ref a,.ref E0,qa,w,[],row,rfl,hx.mono s1e,wf,.lst (.of zab) .nil,(fun _ z=>nomatch z),List.nodup_nil,Nat.zero_le _,.of (((s3.trans sa).trans kE) _ _ hq),hl,br,fun rb Hb sb nb eb=>?_⟩
   have inj:∀ {xs ys:List Int},xs.map Dat.int=ys.map Dat.int→xs=ys:=fun {xs ys} e=>(List.map_inj_right (f:=Dat.int) (fun _ _ h=>Dat.int.inj h)).mp e
   have sab:=s3.trans (sa.trans (kE.trans sb))
   refine ⟨.list ((zaQ w (zan fs w.gates row w.gates.length)).map Dat.int),.list ((zaQ w (zan [] w.gates row w.gates.length)).map Dat.int),.lst (.of ((kE.trans sb) _ _ ea)) (Reps.ints _),.lst (.of eb) (Reps.ints _),zf4 _,zf4 _,fun ee=>⟨_,rfl,iteF ?_⟩,fun ee=>⟨_,rfl,iteT ?_⟩⟩
   ·refine ⟨_,rfl,sab,fun r hr'=>?_⟩
    rw [List.take_add_one,hrow] at hr'
    rcases List.mem_append.mp hr' with z | z
    ·exact no r z
    ·rw [List.mem_singleton.mp z]
     exact decide_eq_false fun z=>z (inj (Dat.list.inj ee))
   ·refine ⟨_,rfl,q _ _ (s1.trans sab) ?_⟩
    have e1:zaG w fs []=some row:=zjV hrow (decide_eq_true fun z=>ee (by rw [z])) no
    rw [e1]
    exact ⟨qa,rfl,sab _ _ hq⟩
 ·rintro σ H3 ⟨o3,rfl,s3,no⟩
  rw [List.length_map,lq,List.take_length] at no
  refine q _ _ (s1.trans s3) ?_
  have e1:zaG w fs []=none:=List.find?_eq_none.mpr fun r hr'=>by rw [no r hr'];decide
  rw [e1]
  rfl
theorem zfs:zay ["wire","one","other"] ["wire","one","other"] (zah za6):=⟨rfl,rfl,rfl,by decide+kernel,rfl,by decide+kernel,by decide+kernel⟩
theorem zcG (T:Txt K mg t):FnOk P w K mg base CX0 1 t.f_law_moved_wire t.fd_law_moved_wire ["wire","one","other"] (sp_mw K):=by
 refine T.d_law_moved_wire.F.okB zfs (fun vs H Q E h=>?_) (fun cdv A outer s H vs Q E hr h=>?_)
 ·obtain ⟨i,x,y,a,b,rfl,_⟩:=h
  rfl
 obtain ⟨i,x,y,a,b,rfl,hx,hy,q⟩:=h
 obtain ⟨aa,ga,oa,gv,os,rfl,ha,hg,ho,rg,ro⟩:=za2 hx
 obtain ⟨ba,gb,ob,gvb,osb,rfl,hb,hgb,hob,rgb,rob⟩:=za2 hy
 refine ⟨_,(zad (zbd (zaA op_lt (bpv 0) (zao zaC (bpv 2) zaf (fun _ _=>rfl)) (za1 _)) (zag (zaq (zak zbc (zao zaC (bpv 1) zaf (fun _ _=>rfl)) (bpv 0)))) zaF)
  (zag (zaq (zak zbc (zak zbc (zao zaC (bpv 1) zaf (fun _ _=>rfl)) (zaE zaz rfl T.z_len PySem.boot_len (zaa (zao zaC (bpv 1) zaf (fun _ _=>rfl)) (zac)))) (bpv 0))))),?_⟩
 refine ⟨_,rfl,_,rfl,ba,_,_,_,rfl,rfl,hb,rfl,_,_,rfl,rfl,_,rfl,ite2 (fun c=>?_) (fun c=>?_)⟩
 ·have e:=zlL (a:=a) (of_decide_eq_true c)
  refine ⟨_,rfl,aa,_,_,_,rfl,rfl,ha,rfl,_,rfl,_,_,rfl,rfl,?_⟩
  rw [e] at q
  exact q
 ·have e:=zl4 (a:=a) (Int.not_lt.mp fun z=>c (decide_eq_true z))
  have lg:gv.length=a.gates.length:=by rw [rg.length,List.length_map]
  refine ⟨_,rfl,aa,_,_,_,rfl,rfl,ha,rfl,_,rfl,aa,_,_,_,rfl,rfl,ha,rfl,ga,_,rfl,.inl hg,_,_,rfl,rfl,_,rfl,_,_,rfl,rfl,?_⟩
  rw [e,← lg] at q
  exact q
theorem za4:zay ["one","other","gates","outputs","kind","legs"] ["one","other"] (zah zbx):=⟨rfl,rfl,rfl,by decide+kernel,rfl,by decide+kernel,by decide+kernel⟩
theorem zgM (T:Txt K mg t):FnOk P w K mg base CX0 2 t.f_law_together t.fd_law_together ["one","other"] (sp_tg K):=by
 refine T.d_law_together.F.okB za4 (fun vs H Q E h=>?_) (fun cdv A outer s H vs Q E hr h=>?_)
 ·obtain ⟨x,y,a,b,rfl,_⟩:=h
  rfl
 obtain ⟨x,y,a,b,rfl,hx,wa,hy,wb,q⟩:=h
 refine ⟨_,(zad (zaj (k:=2) za4.nd rfl (Or.inl rfl) (zax zac))
  (zad (zaS PassesOwn.never rfl (zaD (zao zaC (bpv 0) zaf (fun _ _=>rfl))) (zcY rfl (zas (zai (k:=4) za4.nd rfl (Or.inl rfl)) (zas (zai (k:=5) za4.nd rfl (Or.inl rfl)) zbq))) (zag (zaR (zb4 PySem.F.plainAttrs_list PySem.F.slot_list_append PySem.F.type_list_append zaM (bpv 2) (zaa (zaB (zaa (bpv 4) (zaa (zbo zdE rfl T.z_tuple PyProof.Rows.boot_tuple (zaa (zaV rfl (N:=["leg","other","one"]) (n:=1) (cap:=[1,0]) (zbG rfl rfl) (zhS (bpv 5)) (zaL (by decide)) (fun _ _ _ _=>(zai (k:=0) (show (["leg","other","one"]:List Str).Nodup by decide+kernel) rfl (Or.inl rfl))) (fun _ _ _ _=>zaJ) (fun _ _ _ _=>(zak zbc (bpv 0) (zak zdL (zao (zfa (K:=K)) (bpv 1) zaf (fun _ _=>rfl)) (zbo zcM rfl T.z_int PyProof.Rows.boot_int (zaa (zcU zm0 (bpv 0) (zao (zfa (K:=K)) (bpv 2) zaf (fun _ _=>rfl)) (za1 _)) (zac))))))) (zac))) (zac)))) (zac))))))
  (zad (zaS PassesOwn.never rfl (zaD (zao zaC (bpv 1) zaf (fun _ _=>rfl))) (zcY rfl (zas (zai (k:=4) za4.nd rfl (Or.inl rfl)) (zas (zai (k:=5) za4.nd rfl (Or.inl rfl)) zbq))) (zag (zaR (zb4 PySem.F.plainAttrs_list PySem.F.slot_list_append PySem.F.type_list_append zaM (bpv 2) (zaa (zaB (zaa (bpv 4) (zaa (zbo zdE rfl T.z_tuple PyProof.Rows.boot_tuple (zaa (zaV rfl (N:=["leg","one","other"]) (n:=1) (cap:=[0,1]) (zbG rfl rfl) (zhS (bpv 5)) (zaL (by decide)) (fun _ _ _ _=>(zai (k:=0) (show (["leg","one","other"]:List Str).Nodup by decide+kernel) rfl (Or.inl rfl))) (fun _ _ _ _=>zaJ) (fun _ _ _ _=>(zal (zcG T) (hr.mono (by decide)) rfl T.d_law_moved_wire.m T.d_law_moved_wire.F.kp T.d_law_moved_wire.b .nil zaH (zaa (bpv 0) (zaa (bpv 1) (zaa (bpv 2) (zac))))))) (zac))) (zac)))) (zac))))))
  (zad (zfV (k:=3) rfl (N:=["wire","other","one"]) (n:=1) (cap:=[1,0]) (zbG rfl rfl) za4.nd rfl rfl (zaD (zao zaC (bpv 0) zaf (fun _ _=>rfl))) (zaL (by decide)) (fun _ _ _ _=>(zai (k:=0) (show (["wire","other","one"]:List Str).Nodup by decide+kernel) rfl (Or.inl rfl))) (fun _ _ _ _=>zaJ) (fun _ _ _ _=>(zak zbc (bpv 0) (zak zdL (zao (zfa (K:=K)) (bpv 1) zaf (fun _ _=>rfl)) (zbo zcM rfl T.z_int PyProof.Rows.boot_int (zaa (zcU zm0 (bpv 0) (zao (zfa (K:=K)) (bpv 2) zaf (fun _ _=>rfl)) (za1 _)) (zac)))))) rfl)
  (zad (zaj (k:=3) za4.nd rfl (Or.inl rfl) (zak zcO (bpv 3) (zaV rfl (N:=["wire","one","other"]) (n:=1) (cap:=[0,1]) (zbG rfl rfl) (zaD (zao zaC (bpv 1) zaf (fun _ _=>rfl))) (zaL (by decide)) (fun _ _ _ _=>(zai (k:=0) (show (["wire","one","other"]:List Str).Nodup by decide+kernel) rfl (Or.inl rfl))) (fun _ _ _ _=>zaJ) (fun _ _ _ _=>(zal (zcG T) (hr.mono (by decide)) rfl T.d_law_moved_wire.m T.d_law_moved_wire.F.kp T.d_law_moved_wire.b .nil zaH (zaa (bpv 0) (zaa (bpv 1) (zaa (bpv 2) (zac)))))))))
  (zag (zaq (zaB (zaa (zak zbc (zao zaC (bpv 0) zaf (fun _ _=>rfl)) (zao zaC (bpv 1) zaf (fun _ _=>rfl))) (zaa (bpv 2) (zaa (bpv 3) (zac)))))))))))),?_⟩
 obtain ⟨aa,ga,oa,gv,os,rfl,ha,hg,ho,rg,ro⟩:=za2 hx
 obtain ⟨ba,gb,ob,gvb,osb,rfl,hb,hgb,hob,rgb,rob⟩:=za2 hy
 have eos:=zdr ro
 subst eos
 have eosb:=zdr rob
 subst eosb
 have lg:gv.length=a.gates.length:=by rw [rg.length,List.length_map]
 have lgb:gvb.length=b.gates.length:=by rw [rgb.length,List.length_map]
 have fa:=wa.few
 have fb:=wb.few
 have oa3:=wa.o3
 have ob3:=wb.o3
 refine ⟨(by show 0≤sizeLine;decide),fun M hM=>?_⟩
 have of0:=Off.start hM (.lst [])
 refine ⟨_,rfl,aa,_,_,_,rfl,rfl,of0.same.seqT ha,rfl,ga,rfl,⟨_,of0.same.seq hg⟩,zbN (K:=K) (a:=ga) (xs:=gv)
  (fun i σ H2=>∃ (o4 o5:Option V) (ms:List V) (G:Hp),σ = [some (.ref aa),some (.ref ba),some (.ref M),none,o4,o5]∧Same H G∧Off [M] G H2∧H2 M=some (.lst ms)∧Reps K G ms (((a.gates.take i).map (ug1 a b)).map zhA))
  ⟨_,_,[],H,rfl,Same.refl _,of0,zab,.nil⟩ (fun i σ H2 _ ⟨_,_,_,_,_,s,o,_⟩=>(s.trans o.same).seq hg) ?_ ?_⟩
 ·rintro i y σ H2 hy2 ⟨o4,o5,ms,G,rfl,sG,of2,eM,rm⟩
  have li:i < gv.length:=(List.getElem?_eq_some_iff.mp hy2).1
  obtain ⟨g1,hg1⟩:∃ g1,a.gates[i]? =some g1:=⟨_,List.getElem?_eq_getElem (by omega)⟩
  obtain ⟨d,hd,rv⟩:=rg.get hy2
  rw [List.getElem?_map,hg1] at hd
  cases hd
  obtain ⟨a1,la,rfl,hA,hL⟩:=zel rv
  have l4:=(wa.legs i g1 hg1).1.le
  have sH2:=sG.trans of2.same
  have DM:∀ {D},H2 D=none→M≠D:=fun {D} h=>zap eM h
  refine ⟨a1,_,rfl,sH2.seqT hA,rfl,_,_,rfl,_,_,rfl,rfl,?_⟩
  refine ⟨_,rfl,.inl ⟨rfl,_,.of eM⟩,_,rfl,_,rfl,la,rfl,⟨_,sH2.seqT hL⟩,fun D hD=>zfY (K:=K) (a:=la) (xs:=g1.2.map V.int) (fun j Hz=>Off [D,M] G Hz∧Hz M=some (.lst ms)∧Hz D=some (.lst (((g1.2.take j).map (mv1 a b)).map V.int))) ⟨of2.opn hD _,by rw [zam (DM hD)];exact eM,zab⟩ (fun j Hz _ z=>(sG.trans z.1.same).seqT hL) ?_ ?_⟩
  ·rintro j y Hz hy ⟨ofz,eMz,eD⟩
   rw [List.getElem?_map] at hy
   cases hz:g1.2[j]? with
   | none=>rw [hz] at hy;cases hy
   | some l=>
    rw [hz] at hy
    cases hy
    have lj:j < g1.2.length:=(List.getElem?_eq_some_iff.mp hz).1
    have sz:=sG.trans ofz.same
    refine ⟨_,rfl,_,rfl,ba,_,_,_,rfl,rfl,sz.seqT hb,rfl,_,rfl,_,rfl,aa,_,_,_,rfl,rfl,sz.seqT ha,rfl,_,_,rfl,rfl,.inr ⟨_,rfl,_,_,rfl,rfl,zll wb.i1 wb.i6 _,_,_,rfl,rfl,?_⟩⟩
    refine ⟨_,eD,big (by rw [List.length_map,List.length_map,List.length_take];omega),ofz.write (.head _) _,by rw [zam (DM hD)];exact eMz,?_⟩
    rw [zab,List.take_add_one,hz]
    show some (HO.lst (_++ [V.int (l+b.ins * if decide (a.ins≤l)=true then 1 else 0)]))=_
    rw [zoz]
    simp
  rintro H4 ⟨of4,eM4,eD4⟩
  have et:g1.2.take (g1.2.map V.int).length=g1.2:=by rw [List.length_map,List.take_length]
  rw [et] at eD4
  refine ⟨D,_,rfl,.inl ⟨.of eD4,fun T1 h1=>⟨(by show 2≤sizeLine;decide),fun T2 h2=>?_⟩⟩⟩
  have ofM:=of4.drop
  have ofA:=ofM.lay h1 (.tup ((g1.2.map (mv1 a b)).map V.int))
  have ofB:=ofA.lay h2 (.tup [.str g1.1,.ref T1])
  have kA:=ofM.add h1 (.tup ((g1.2.map (mv1 a b)).map V.int))
  have kB:=ofA.add h2 (.tup [.str g1.1,.ref T1])
  have eM5:=((zae h1 (.tup ((g1.2.map (mv1 a b)).map V.int))).upd h2 (.tup [.str g1.1,.ref T1])) _ _ eM4
  have lms:ms.length≤i:=by rw [rm.length,List.length_map,List.length_map,List.length_take];omega
  refine ⟨M,ms,_,rfl,rfl,eM5,big (by omega),?_⟩
  refine ⟨_,_,ms++ [.ref T2],_,rfl,(sG.trans kA).trans kB,ofB.write (.head _) _,zab,?_⟩
  rw [List.take_add_one,hg1,List.map_append,List.map_append]
  exact ((rm.mono kA).mono kB).snoc (.tup (.of zab) (.cons (.str _) (.cons ((Rep.tup (.of zab) (Reps.ints _)).mono kB) .nil)))
 rintro σ H1 ⟨o4,o5,ms0,G1,rfl,sG1,of1,eM1,rm0⟩
 rw [lg,List.take_length] at rm0
 refine ⟨_,rfl,ba,_,_,_,rfl,rfl,(sG1.trans of1.same).seqT hb,rfl,gb,rfl,⟨_,(sG1.trans of1.same).seq hgb⟩,zbN (K:=K) (a:=gb) (xs:=gvb)
  (fun i σ H2=>∃ (o4 o5:Option V) (ms:List V) (G:Hp),σ = [some (.ref aa),some (.ref ba),some (.ref M),none,o4,o5]∧Same H G∧Off [M] G H2∧H2 M=some (.lst ms)∧Reps K G ms ((a.gates.map (ug1 a b)++(b.gates.take i).map (ug2 a b)).map zhA))
  ⟨_,_,ms0,G1,rfl,sG1,of1,eM1,by rw [List.take_zero,List.map_nil,List.append_nil];exact rm0⟩ (fun i σ H2 _ ⟨_,_,_,_,_,s,o,_⟩=>(s.trans o.same).seq hgb) ?_ ?_⟩
 ·rintro i y σ H2 hy2 ⟨o4,o5,ms,G,rfl,sG,of2,eM,rm⟩
  have li:i < gvb.length:=(List.getElem?_eq_some_iff.mp hy2).1
  obtain ⟨g1,hg1⟩:∃ g1,b.gates[i]? =some g1:=⟨_,List.getElem?_eq_getElem (by omega)⟩
  obtain ⟨d,hd,rv⟩:=rgb.get hy2
  rw [List.getElem?_map,hg1] at hd
  cases hd
  obtain ⟨a1,la,rfl,hA,hL⟩:=zel rv
  have l4:=(wb.legs i g1 hg1).1.le
  have sH2:=sG.trans of2.same
  have DM:∀ {D},H2 D=none→M≠D:=fun {D} h=>zap eM h
  refine ⟨a1,_,rfl,sH2.seqT hA,rfl,_,_,rfl,_,_,rfl,rfl,?_⟩
  refine ⟨_,rfl,.inl ⟨rfl,_,.of eM⟩,_,rfl,_,rfl,la,rfl,⟨_,sH2.seqT hL⟩,fun D hD=>zfY (K:=K) (a:=la) (xs:=g1.2.map V.int) (fun j Hz=>Off [D,M] G Hz∧Hz M=some (.lst ms)∧Hz D=some (.lst (((g1.2.take j).map (mv2 a b)).map V.int))) ⟨of2.opn hD _,by rw [zam (DM hD)];exact eM,zab⟩ (fun j Hz _ z=>(sG.trans z.1.same).seqT hL) ?_ ?_⟩
  ·rintro j y Hz hyy ⟨ofz,eMz,eD⟩
   rw [List.getElem?_map] at hyy
   cases hz:g1.2[j]? with
   | none=>rw [hz] at hyy;cases hyy
   | some l=>
    rw [hz] at hyy
    cases hyy
    have lj:j < g1.2.length:=(List.getElem?_eq_some_iff.mp hz).1
    have sz:=sG.trans ofz.same
    refine ⟨_,rfl,_,rfl,_,rfl,l,.ref aa,.ref ba,a,b,rfl,hx.mono sz,hy.mono sz,?_⟩
    refine ⟨_,eD,big (by rw [List.length_map,List.length_map,List.length_take];omega),ofz.write (.head _) _,by rw [zam (DM hD)];exact eMz,?_⟩
    rw [zab,List.take_add_one,hz]
    simp
  rintro H4 ⟨of4,eM4,eD4⟩
  have et:g1.2.take (g1.2.map V.int).length=g1.2:=by rw [List.length_map,List.take_length]
  rw [et] at eD4
  refine ⟨D,_,rfl,.inl ⟨.of eD4,fun T1 h1=>⟨(by show 2≤sizeLine;decide),fun T2 h2=>?_⟩⟩⟩
  have ofM:=of4.drop
  have ofA:=ofM.lay h1 (.tup ((g1.2.map (mv2 a b)).map V.int))
  have ofB:=ofA.lay h2 (.tup [.str g1.1,.ref T1])
  have kA:=ofM.add h1 (.tup ((g1.2.map (mv2 a b)).map V.int))
  have kB:=ofA.add h2 (.tup [.str g1.1,.ref T1])
  have eM5:=((zae h1 (.tup ((g1.2.map (mv2 a b)).map V.int))).upd h2 (.tup [.str g1.1,.ref T1])) _ _ eM4
  have lms:ms.length≤20+i:=by rw [rm.length,List.length_map,List.length_append,List.length_map,List.length_map,List.length_take];omega
  refine ⟨M,ms,_,rfl,rfl,eM5,big (by omega),?_⟩
  refine ⟨_,_,ms++ [.ref T2],_,rfl,(sG.trans kA).trans kB,ofB.write (.head _) _,zab,?_⟩
  have el:a.gates.map (ug1 a b)++(b.gates.take (i+1)).map (ug2 a b)=(a.gates.map (ug1 a b)++(b.gates.take i).map (ug2 a b))++ [ug2 a b g1]:=by
   rw [List.take_add_one,hg1,List.append_assoc,List.map_append]
   rfl
  rw [el,List.map_append]
  exact ((rm.mono kA).mono kB).snoc (.tup (.of zab) (.cons (.str _) (.cons ((Rep.tup (.of zab) (Reps.ints _)).mono kB) .nil)))
 rintro σ H2 ⟨o4,o5,ms,G,rfl,sG,of2,eM,rm⟩
 rw [lgb,List.take_length] at rm
 have sH2:=sG.trans of2.same
 have rm2:=rm.mono of2.same
 refine ⟨_,rfl,aa,_,_,_,rfl,rfl,sH2.seqT ha,rfl,oa,rfl,⟨_,sH2.seq ho⟩,fun D hD=>zba (K:=K) (a:=oa) (xs:=a.outs.map V.int) (fun i Hz=>Same H2 Hz∧Hz D=some (.lst (((a.outs.take i).map (mv1 a b)).map V.int))) ⟨zae hD _,zab⟩ (fun i Hz _ z=>(sH2.trans z.1).seq ho) ?_ ?_⟩
 ·rintro j y Hz hyy ⟨sz',eD⟩
  rw [List.getElem?_map] at hyy
  cases hz:a.outs[j]? with
  | none=>rw [hz] at hyy;cases hyy
  | some l=>
   rw [hz] at hyy
   cases hyy
   have lj:j < a.outs.length:=(List.getElem?_eq_some_iff.mp hz).1
   have sz:=sH2.trans sz'
   refine ⟨_,rfl,_,rfl,ba,_,_,_,rfl,rfl,sz.seqT hb,rfl,_,rfl,_,rfl,aa,_,_,_,rfl,rfl,sz.seqT ha,rfl,_,_,rfl,rfl,.inr ⟨_,rfl,_,_,rfl,rfl,zll wb.i1 wb.i6 _,_,_,rfl,rfl,?_⟩⟩
   refine ⟨_,eD,big (by rw [List.length_map,List.length_map,List.length_take];omega),sz'.write hD _,?_⟩
   rw [zab,List.take_add_one,hz]
   show some (HO.lst (_++ [V.int (l+b.ins * if decide (a.ins≤l)=true then 1 else 0)]))=_
   rw [zoz]
   simp
 rintro H3 ⟨s3,eD3⟩
 have et:a.outs.take (a.outs.map V.int).length=a.outs:=by rw [List.length_map,List.take_length]
 rw [et] at eD3
 have sH3:=sH2.trans s3
 refine ⟨_,rfl,_,rfl,ba,_,_,_,rfl,rfl,sH3.seqT hb,rfl,ob,rfl,⟨_,sH3.seq hob⟩,fun D2 hD2=>zba (K:=K) (a:=ob) (xs:=b.outs.map V.int) (fun i Hz=>Same H3 Hz∧Hz D2=some (.lst (((b.outs.take i).map (mv2 a b)).map V.int))) ⟨zae hD2 _,zab⟩ (fun i Hz _ z=>(sH3.trans z.1).seq hob) ?_ ?_⟩
 ·rintro j y Hz hyy ⟨sz',eD⟩
  rw [List.getElem?_map] at hyy
  cases hz:b.outs[j]? with
  | none=>rw [hz] at hyy;cases hyy
  | some l=>
   rw [hz] at hyy
   cases hyy
   have lj:j < b.outs.length:=(List.getElem?_eq_some_iff.mp hz).1
   have sz:=sH3.trans sz'
   refine ⟨_,rfl,_,rfl,_,rfl,l,.ref aa,.ref ba,a,b,rfl,hx.mono sz,hy.mono sz,?_⟩
   refine ⟨_,eD,big (by rw [List.length_map,List.length_map,List.length_take];omega),sz'.write hD2 _,?_⟩
   rw [zab,List.take_add_one,hz]
   simp
 rintro H4 ⟨s4,eD4⟩
 have et2:b.outs.take (b.outs.map V.int).length=b.outs:=by rw [List.length_map,List.take_length]
 rw [et2] at eD4
 refine ⟨D,D2,_,_,rfl,rfl,s4 _ _ eD3,eD4,bigE (by rw [List.length_map,List.length_map,List.length_map,List.length_map];omega),fun O hO=>?_⟩
 have k5:=zae hO (.lst ((a.outs.map (mv1 a b)).map V.int++(b.outs.map (mv2 a b)).map V.int))
 have s5:=s4.trans k5
 have sH5:=sH3.trans s5
 refine ⟨_,rfl,aa,_,_,_,rfl,rfl,sH5.seqT ha,rfl,_,rfl,ba,_,_,_,rfl,rfl,sH5.seqT hb,rfl,_,_,rfl,rfl,_,rfl,_,rfl,(by show 3≤sizeLine;decide),fun R hR=>?_⟩
 have k6:=zae hR (.tup [.int (a.ins+b.ins),.ref M,.ref O])
 refine q R _ (sH5.trans k6) (.tup (.of zab) (.cons (.int _) (.cons ?_ (.cons ?_ .nil))))
 ·exact (Rep.lst (.of ((s3.trans s5) _ _ eM)) (rm2.mono (s3.trans s5))).mono k6
 ·refine Rep.mono k6 ?_
  show Rep K _ (.ref O) (.list ((a.outs.map (mv1 a b)++b.outs.map (mv2 a b)).map Dat.int))
  refine .lst (.of zab) ?_
  rw [← List.map_append]
  exact Reps.ints _
theorem zdU:zay ["one","other","faults","second","found","fault"] ["one","other","faults","second"] (zah zch):=⟨rfl,rfl,rfl,by decide+kernel,rfl,by decide+kernel,by decide+kernel⟩
theorem zfw (T:Txt K mg t):FnOk P w K mg base CX0 2 t.f_law_moved t.fd_law_moved ["one","other","faults","second"] (sp_mvd K):=by
 refine T.d_law_moved.F.okB zdU (fun vs H Q E h=>?_) (fun cdv A outer s H vs Q E hr h=>?_)
 ·obtain ⟨x,y,z,a,b,fs,c,rfl,_⟩:=h
  rfl
 obtain ⟨x,y,z,a,b,fs,c,rfl,hx,hy,hz,gd,lf,q⟩:=h
 refine ⟨_,(zad (zaj (k:=4) zdU.nd rfl (Or.inl rfl) (zax zac))
  (zad (zaS PassesOwn.never rfl (zaD (bpv 2)) (zai (k:=5) zdU.nd rfl (Or.inl rfl)) (zag (zbd (zkf (zlh (zaA zc3 (zao zaC (bpv 5) zaf (fun _ _=>rfl)) zav (za1 _)) (zjH (zlr (bpv 3))))) (zag (zaR (zb4 PySem.F.plainAttrs_list PySem.F.slot_list_append PySem.F.type_list_append zaM (bpv 4) (zaa (zaB (zaa zav (zaa (zal (zcG T) (hr.mono (by decide)) rfl T.d_law_moved_wire.m T.d_law_moved_wire.F.kp T.d_law_moved_wire.b .nil zaH (zaa (zao zaC (bpv 5) zaf (fun _ _=>rfl)) (zaa (bpv 0) (zaa (bpv 1) (zac))))) (zaa (zao zaC (bpv 5) zaf (fun _ _=>rfl)) (zac))))) (zac))))) (zag (zbd (zaA zc3 (zao zaC (bpv 5) zaf (fun _ _=>rfl)) zav (za1 _)) (zag (zaR (zb4 PySem.F.plainAttrs_list PySem.F.slot_list_append PySem.F.type_list_append zaM (bpv 4) (zaa (zaB (zaa zav (zaa (zak zbc (zao zaC (bpv 5) zaf (fun _ _=>rfl)) (zak zdL (zao zaC (bpv 1) zaf (fun _ _=>rfl)) (zbo zcM rfl T.z_int PyProof.Rows.boot_int (zaa (zcU zm0 (zao zaC (bpv 5) zaf (fun _ _=>rfl)) (zao zaC (bpv 0) zaf (fun _ _=>rfl)) (za1 _)) (zac))))) (zaa (zao zaC (bpv 5) zaf (fun _ _=>rfl)) (zac))))) (zac))))) (zag (zaR (zb4 PySem.F.plainAttrs_list PySem.F.slot_list_append PySem.F.type_list_append zaM (bpv 4) (zaa (zak zi7 (zaB (zaa zav (zaa (zak zbc (zao zaC (bpv 5) zaf (fun _ _=>rfl)) (zak zdL (zaE zaz rfl T.z_len PySem.boot_len (zaa (zao zaC (bpv 0) zaf (fun _ _=>rfl)) (zac))) (zbo zcM rfl T.z_int PyProof.Rows.boot_int (zaa (bpv 3) (zac))))) (zac)))) (zbs ziY (bpv 5) (zbt zaf) zcC)) (zac))))))))))
  (zag (zaq (bpv 4))))),?_⟩
 obtain ⟨aa,ga,oa,gv,os,rfl,ha,hg,ho,rg,ro⟩:=za2 hx
 obtain ⟨ba,gb,ob,gvb,osb,rfl,hb,hgb,hob,rgb,rob⟩:=za2 hy
 have lg:gv.length=a.gates.length:=by rw [rg.length,List.length_map]
 cases hz with
 | @lst za ys _ hq rq=>
  have ly:ys.length=fs.length:=by rw [rq.length,List.length_map]
  refine ⟨(by show 0≤sizeLine;decide),fun F hF=>?_⟩
  have of0:=Off.start hF (.lst [])
  refine ⟨_,rfl,za,rfl,⟨_,of0.same.seq hq⟩,zbN (K:=K) (a:=za) (xs:=ys)
   (fun i σ H2=>∃ (o5:Option V) (ms:List V) (G:Hp),σ = [some (.ref aa),some (.ref ba),some (.ref za),some (.bl c),some (.ref F),o5]∧Same H G∧Off [F] G H2∧H2 F=some (.lst ms)∧Reps K G ms (((fs.take i).map (mvF c a b)).map fltD))
   ⟨_,[],H,rfl,Same.refl _,of0,zab,.nil⟩ (fun i σ H2 _ ⟨_,_,_,_,s,o,_⟩=>(s.trans o.same).seq hq) ?_ ?_⟩
  ·rintro i v σ H2 hv ⟨o5,ms,G,rfl,sG,of2,eF,rm⟩
   obtain ⟨dd,hdd,rv⟩:=rq.get hv
   rw [List.getElem?_map] at hdd
   cases hz:fs[i]? with
   | none=>rw [hz] at hdd;cases hdd
   | some f=>
    rw [hz] at hdd
    cases hdd
    have gf:=gd f (List.mem_of_getElem? hz)
    obtain ⟨fa1,rfl,hf⟩:=ziS rv
    have li:i < fs.length:=(List.getElem?_eq_some_iff.mp hz).1
    have sH2:=sG.trans of2.same
    have hf2:=sH2.seqT hf
    have lms:ms.length≤i:=by rw [rm.length,List.length_map,List.length_map,List.length_take];omega
    have et:((fs.take (i+1)).map (mvF c a b)).map fltD=((fs.take i).map (mvF c a b)).map fltD++ [fltD (mvF c a b f)]:=by rw [List.take_add_one,hz,List.map_append,List.map_append];rfl
    have fin:∀ (H3:Hp) (T3:Addr),Off [F] G H3→H3 F=some (.lst ms)→H3 T3=none→∃ (o5:Option V) (ms2:List V) (G2:Hp),[some (V.ref aa),some (.ref ba),some (.ref za),some (.bl c),some (.ref F),some (.ref fa1)]= [some (.ref aa),some (.ref ba),some (.ref za),some (.bl c),some (.ref F),o5]∧Same H G2∧Off [F] G2 (upd (upd H3 T3 (.tup ((mvF c a b f).place.map kV++ [.int f.worth]))) F (.lst (ms++ [.ref T3])))∧(upd (upd H3 T3 (.tup ((mvF c a b f).place.map kV++ [.int f.worth]))) F (.lst (ms++ [.ref T3]))) F=some (.lst ms2)∧Reps K G2 ms2 (((fs.take (i+1)).map (mvF c a b)).map fltD):=fun H3 T3 of3 eF3 h3=>by
     refine ⟨_,_,_,rfl,sG.trans (of3.add h3 (.tup ((mvF c a b f).place.map kV++ [.int f.worth]))),(of3.lay h3 _).write (.head _) _,zab,?_⟩
     rw [et]
     refine (rm.mono (of3.add h3 _)).snoc ?_
     have ew:(mvF c a b f).worth=f.worth:=by unfold mvF;cases c <;> rfl
     have:=zlb (K:=K) (f:=mvF c a b f) (H:=upd G T3 (.tup ((mvF c a b f).place.map kV++ [.int f.worth]))) (a:=T3) (.of (by rw [zab,ew]))
     exact this
    rcases zaP gf with ⟨i0,hi0,ep⟩ | ⟨k0,i0,hk0,hi0,ep⟩
    ·rw [ep] at hf2
     have hf3:SqT K H2 fa1 [.str "wire",.int i0,.int f.worth]:=hf2
     refine ⟨_,rfl,fa1,_,_,_,rfl,rfl,hf3,rfl,rfl,_,rfl,ifY rfl ?_⟩
     cases c with
     | true=>
      refine ⟨_,rfl,_,rfl,iteT ?_⟩
      refine ⟨_,rfl,.inl ⟨rfl,_,.of eF⟩,_,rfl,fa1,_,_,_,rfl,rfl,hf3,rfl,_,rfl,_,rfl,i0,.ref aa,.ref ba,a,b,rfl,hx.mono sH2,hy.mono sH2,?_⟩
      refine ⟨_,rfl,fa1,_,_,_,rfl,rfl,hf3,rfl,(by show 3≤sizeLine;decide),fun T1 h1=>?_⟩
      refine ⟨F,ms,_,rfl,rfl,zae h1 _ _ _ eF,big (by omega),?_⟩
      have:=fin H2 T1 of2 eF h1
      have e2:(mvF true a b f).place.map kV++ [.int f.worth]= [V.str "wire",.int (mv2 a b i0),.int f.worth]:=by
       show (mvP2 a b f.place).map kV++_=_
       rw [ep]
       rfl
      rw [e2] at this
      exact this
     | false=>
      refine ⟨_,rfl,_,rfl,iteF ?_⟩
      refine ⟨_,rfl,fa1,_,_,_,rfl,rfl,hf3,rfl,rfl,_,rfl,ifY rfl ?_⟩
      refine ⟨_,rfl,.inl ⟨rfl,_,.of eF⟩,_,rfl,fa1,_,_,_,rfl,rfl,hf3,rfl,_,rfl,ba,_,_,_,rfl,rfl,sH2.seqT hb,rfl,_,rfl,fa1,_,_,_,rfl,rfl,hf3,rfl,_,rfl,aa,_,_,_,rfl,rfl,sH2.seqT ha,rfl,_,_,rfl,rfl,.inr ⟨_,rfl,_,_,rfl,rfl,.inr (by split <;> exact ⟨by decide,by decide⟩),_,_,rfl,rfl,?_⟩⟩
      refine ⟨_,rfl,fa1,_,_,_,rfl,rfl,hf3,rfl,(by show 3≤sizeLine;decide),fun T1 h1=>?_⟩
      refine ⟨F,ms,_,rfl,rfl,zae h1 _ _ _ eF,big (by omega),?_⟩
      have:=fin H2 T1 of2 eF h1
      have e2:(mvF false a b f).place.map kV++ [.int f.worth]= [V.str "wire",.int ((i0:Int)+b.ins * if decide (a.ins≤(i0:Int))=true then 1 else 0),.int f.worth]:=by
       show (mvP1 a b f.place).map kV++_=_
       rw [ep,zoz]
       rfl
      rw [e2] at this
      exact this
    ·rw [ep] at hf2
     have hf3:SqT K H2 fa1 [.str "leg",.int k0,.int i0,.int f.worth]:=hf2
     refine ⟨_,rfl,fa1,_,_,_,rfl,rfl,hf3,rfl,rfl,_,rfl,ifN (by decide+kernel) (iteF ?_)⟩
     refine ⟨_,rfl,fa1,_,_,_,rfl,rfl,hf3,rfl,rfl,_,rfl,ifN (by decide+kernel) ?_⟩
     refine ⟨_,rfl,.inl ⟨rfl,_,.of eF⟩,_,rfl,fa1,_,_,_,rfl,rfl,hf3,rfl,_,rfl,aa,_,_,_,rfl,rfl,sH2.seqT ha,rfl,ga,_,rfl,.inl (sH2.seq hg),_,rfl,.inr ⟨_,rfl,_,_,rfl,rfl,.inr (by split <;> exact ⟨by decide,by decide⟩),_,_,rfl,rfl,(by show 2≤sizeLine;decide),fun T1 h1=>?_⟩⟩
     have k1:=zae h1 (.tup [V.str "leg",.int ((k0:Int)+(gv.length:Int) * if c=true then 1 else 0)])
     refine ⟨_,rfl,_,rfl,fa1,_,rfl,k1.seqT hf3,(fun z=>nomatch (show (2:Nat)=0 from z.1)),fun T2 h2=>?_⟩
     have k2:=zae h2 (.tup [V.int i0,.int f.worth])
     have of3:=(of2.new h1 (.tup [V.str "leg",.int ((k0:Int)+(gv.length:Int) * if c=true then 1 else 0)])).new h2 (.tup [V.int i0,.int f.worth])
     refine ⟨T1,T2,[V.str "leg",.int ((k0:Int)+(gv.length:Int) * if c=true then 1 else 0)],[V.int i0,.int f.worth],rfl,rfl,.of (k2 _ _ zab),.of zab,(fun z=>nomatch z),(by show 4≤sizeLine;decide),(fun z=>nomatch z),fun _ T3 h3=>?_⟩
     refine ⟨F,ms,_,rfl,rfl,zae h3 _ _ _ ((k1.trans k2) _ _ eF),big (by omega),?_⟩
     have:=fin _ T3 of3 ((k1.trans k2) _ _ eF) h3
     have e2:(mvF c a b f).place.map kV++ [.int f.worth]= [V.str "leg",.int ((k0:Int)+(gv.length:Int) * if c=true then 1 else 0)]++ [V.int i0,.int f.worth]:=by
      rw [lg]
      cases c with
      | true=>
       show (mvP2 a b f.place).map kV++_=_
       rw [ep,if_pos rfl,Int.mul_one]
       rfl
      | false=>
       show (mvP1 a b f.place).map kV++_=_
       rw [ep,if_neg Bool.false_ne_true,Int.mul_zero,Int.add_zero]
       rfl
     rw [e2] at this
     exact this
  ·rintro σ H2 ⟨o5,ms,G,rfl,sG,of2,eF,rm⟩
   rw [ly,List.take_length] at rm
   exact ⟨_,rfl,q F ms H2 (sG.trans of2.same) eF (rm.mono of2.same)⟩
theorem zdZ:zay ["one","other","faults","others","rows","first","second"] ["one","other","faults","others"] (zah zcZ):=⟨rfl,rfl,rfl,by decide+kernel,rfl,by decide+kernel,by decide+kernel⟩
theorem zhg (T:Txt K mg t):FnOk P w K mg base CX0 5 t.f_law_due t.fd_law_due ["one","other","faults","others"] (zoD K):=by
 refine T.d_law_due.F.okB zdZ (fun vs H Q E h=>?_) (fun cdv A outer s H vs Q E hr h=>?_)
 ·obtain ⟨x,y,z,u,a,b,fs,gs,rfl,_⟩:=h
  rfl
 obtain ⟨x,y,z,u,a,b,fs,gs,rfl,hx,wa,hy,wb,hz,gf,af,lf,hu,gg,ag,lg,q⟩:=h
 have hu64:=hr.units
 refine ⟨_,(zad (zaj (k:=4) zdZ.nd rfl (Or.inl rfl) (zax zac))
  (zad (zaj (k:=5) zdZ.nd rfl (Or.inl rfl) (zal (zdX T) (hr.mono (by decide)) rfl T.d_law_first.m T.d_law_first.F.kp T.d_law_first.b .nil zaH (zaa (bpv 0) (zaa (bpv 2) (zac)))))
  (zad (zaj (k:=6) zdZ.nd rfl (Or.inl rfl) (zal (zdX T) (hr.mono (by decide)) rfl T.d_law_first.m T.d_law_first.F.kp T.d_law_first.b .nil zaH (zaa (bpv 1) (zaa (bpv 3) (zac)))))
  (zad (zbd (zeZ (zhx (bpv 5))) (zag (zaR (zb4 PySem.F.plainAttrs_list PySem.F.slot_list_append PySem.F.type_list_append zaM (bpv 4) (zaa (zak zcO (bpv 5) (zak zl8 (zax (zaa zaf (zac))) (zao zaC (bpv 1) zaf (fun _ _=>rfl)))) (zac))))) zaF)
  (zad (zbd (zeZ (zhx (bpv 6))) (zag (zaR (zb4 PySem.F.plainAttrs_list PySem.F.slot_list_append PySem.F.type_list_append zaM (bpv 4) (zaa (zak zcO (zak zl8 (zax (zaa zaf (zac))) (zao zaC (bpv 0) zaf (fun _ _=>rfl))) (bpv 6)) (zac))))) zaF)
  (zag (zaq (zao zaN (zak zcO (zaE (ziz hu64) rfl T.z_sorted (by rfl) (zaa (bpv 4) (zac))) (zax (zaa zhr (zac)))) zaf (fun _ _=>rfl))))))))),?_⟩
 obtain ⟨aa,ga,oa,gv,os,rfl,ha,hg,ho,rg,ro⟩:=za2 hx
 obtain ⟨ba,gb,ob,gvb,osb,rfl,hb,hgb,hob,rgb,rob⟩:=za2 hy
 have a1:=wa.i1
 have a6:=wa.i6
 have b1:=wb.i1
 have b6:=wb.i6
 refine ⟨(by show 0≤sizeLine;decide),fun R hR=>?_⟩
 have k0:=zae hR (.lst [])
 refine ⟨_,rfl,_,rfl,.ref aa,z,a,fs,rfl,hx.mono k0,wa,hz.mono k0,gf,af,lf,fun v1 H1 s1 r1=>?_⟩
 have s01:=k0.trans s1
 refine ⟨_,rfl,_,rfl,.ref ba,u,b,gs,rfl,hy.mono s01,wb,hu.mono s01,gg,ag,lg,fun v2 H2 s2 r2=>?_⟩
 have s02:=s01.trans s2
 have eR:=(s1.trans s2) _ _ (zab (H:=H) (a:=R) (o:=.lst []))
 have r1':=r1.mono s2
 have p1:Nat:=1
 obtain ⟨n1,e1⟩:∃ n,a.ins.toNat=n:=⟨_,rfl⟩
 obtain ⟨n2,e2⟩:∃ n,b.ins.toNat=n:=⟨_,rfl⟩
 rw [e1,e2] at q
 cases eo1:zaG a fs [] with
 | none=>
  rw [eo1] at r1' q
  have ev1:v1= .non:=r1'
  subst ev1
  refine ⟨_,rfl,_,rfl,isNone ?_⟩
  cases eo2:zaG b gs [] with
  | none=>
   rw [eo2] at r2 q
   have ev2:v2= .non:=r2
   subst ev2
   refine ⟨_,rfl,_,rfl,isNone ?_⟩
   refine ⟨_,rfl,R,([]:List (List Int×Addr)),n1+n2,rfl,eR,(fun _ zz=>nomatch zz),(by simp),fun D hD=>?_⟩
   have kD:=zae hD (.lst ((srtL ([]:List (List Int×Addr))).map fun p=>V.ref p.2))
   refine ⟨(by show 1≤sizeLine;decide),fun Nn hN=>?_⟩
   have kN9:=zae hN (.lst [.non])
   refine ⟨D,Nn,_,_,rfl,rfl,kN9 _ _ zab,zab,bigE (by rw [List.length_map,zeK];simp),fun C hC=>?_⟩
   have kC:=zae hC (.lst (((srtL ([]:List (List Int×Addr))).map fun p=>V.ref p.2)++ [.non]))
   have s9:=(kD.trans kN9).trans kC
   have sf:=s02.trans s9
   exact ⟨C,_,_,_,rfl,rfl,.of zab,rfl,q _ _ sf rfl⟩
  | some s2r=>
   rw [eo2] at r2 q
   obtain ⟨q2,rfl,eq2⟩:=r2
   have lf2:=(zd0 eo2).1
   rw [e2] at lf2
   refine ⟨_,rfl,_,rfl,zjB ?_⟩
   refine ⟨_,rfl,.inl ⟨rfl,_,.of eR⟩,(by show 1≤sizeLine;decide),fun Z2 hZ2=>?_⟩
   have kZ2:=zae hZ2 (.lst [.int 0])
   have t03:=s02.trans kZ2
   refine ⟨_,rfl,aa,_,_,_,rfl,rfl,t03.seqT ha,rfl,Z2,_,_,rfl,rfl,zab,by omega,by omega,(by show 1 * a.ins.toNat≤sizeLine;exact bigE (by omega)),fun Y2 hY2=>?_⟩
   rw [zeG,e1]
   have kY2:=zae hY2 (.lst ((List.replicate n1 (0:Int)).map V.int))
   have t04:=t03.trans kY2
   refine ⟨_,rfl,Y2,q2,_,_,rfl,rfl,zab,(kZ2.trans kY2) _ _ eq2,bigE (by rw [List.length_map,List.length_map,List.length_replicate];omega),fun N2 hN2=>?_⟩
   rw [← List.map_append]
   have kN2:=zae hN2 (.lst ((List.replicate n1 0++s2r).map V.int))
   have t05:=t04.trans kN2
   have k26:=(kZ2.trans kY2).trans kN2
   refine ⟨R,_,_,rfl,rfl,k26 _ _ eR,big (by simp),?_⟩
   have NR2:N2≠R:=fun zz=>by rw [zz,(kZ2.trans kY2) _ _ eR] at hN2;cases hN2
   have eR7:(upd (upd (upd (upd H2 Z2 (.lst [.int 0])) Y2 (.lst ((List.replicate n1 (0:Int)).map V.int))) N2 (.lst ((List.replicate n1 0++s2r).map V.int))) R (.lst (([]:List V)++ [.ref N2]))) R=some (.lst (([]:List V)++ [.ref N2])):=zab
   have eN7:(upd (upd (upd (upd H2 Z2 (.lst [.int 0])) Y2 (.lst ((List.replicate n1 (0:Int)).map V.int))) N2 (.lst ((List.replicate n1 0++s2r).map V.int))) R (.lst (([]:List V)++ [.ref N2]))) N2=some (.lst ((List.replicate n1 0++s2r).map V.int)):=by rw [zam NR2];exact zab
   have sw7:Same H (upd (upd (upd (upd H2 Z2 (.lst [.int 0])) Y2 (.lst ((List.replicate n1 (0:Int)).map V.int))) N2 (.lst ((List.replicate n1 0++s2r).map V.int))) R (.lst (([]:List V)++ [.ref N2]))):=t05.write hR _
   have s67:znR R H2 (upd (upd (upd (upd H2 Z2 (.lst [.int 0])) Y2 (.lst ((List.replicate n1 (0:Int)).map V.int))) N2 (.lst ((List.replicate n1 0++s2r).map V.int))) R (.lst (([]:List V)++ [.ref N2]))):=fun bb o ne e=>by rw [zam ne];exact k26 _ _ e
   generalize upd (upd (upd (upd H2 Z2 (.lst [.int 0])) Y2 (.lst ((List.replicate n1 (0:Int)).map V.int))) N2 (.lst ((List.replicate n1 0++s2r).map V.int))) R (.lst (([]:List V)++ [.ref N2]))=H7 at eR7 eN7 sw7 s67
   have l2:(List.replicate n1 (0:Int)++s2r).length=n1+n2:=by rw [List.length_append,List.length_replicate,lf2]
   refine ⟨_,rfl,R,[(List.replicate n1 0++s2r,N2)],n1+n2,rfl,eR7,(fun p hp=>by rw [List.mem_singleton.mp hp];exact ⟨eN7,l2⟩),(by simp),fun D hD=>?_⟩
   have kD:=zae hD (.lst ((srtL [(List.replicate n1 0++s2r,N2)]).map fun p=>V.ref p.2))
   refine ⟨(by show 1≤sizeLine;decide),fun Nn hN=>?_⟩
   have kN9:=zae hN (.lst [.non])
   refine ⟨D,Nn,_,_,rfl,rfl,kN9 _ _ zab,zab,bigE (by rw [List.length_map,zeK];simp),fun C hC=>?_⟩
   have kC:=zae hC (.lst (((srtL [(List.replicate n1 0++s2r,N2)]).map fun p=>V.ref p.2)++ [.non]))
   have s9:=(kD.trans kN9).trans kC
   have sf:=sw7.trans s9
   exact ⟨C,_,_,_,rfl,rfl,.of zab,rfl,q _ _ sf ⟨N2,rfl,s9 _ _ eN7⟩⟩
 | some f=>
  rw [eo1] at r1' q
  obtain ⟨q1,rfl,eq1⟩:=r1'
  have lf1:=(zd0 eo1).1
  rw [e1] at lf1
  refine ⟨_,rfl,_,rfl,zjB ?_⟩
  refine ⟨_,rfl,.inl ⟨rfl,_,.of eR⟩,_,rfl,(by show 1≤sizeLine;decide),fun Z hZ=>?_⟩
  have kZ:=zae hZ (.lst [.int 0])
  have s03:=s02.trans kZ
  refine ⟨_,rfl,ba,_,_,_,rfl,rfl,s03.seqT hb,rfl,Z,_,_,rfl,rfl,zab,by omega,by omega,(by show 1 * b.ins.toNat≤sizeLine;exact bigE (by omega)),fun Y hY=>?_⟩
  rw [zeG,e2]
  have kY:=zae hY (.lst ((List.replicate n2 (0:Int)).map V.int))
  have s04:=s03.trans kY
  refine ⟨q1,Y,_,_,rfl,rfl,(kZ.trans kY) _ _ eq1,zab,bigE (by rw [List.length_map,List.length_map,List.length_replicate];omega),fun N1 hN1=>?_⟩
  rw [← List.map_append]
  have kN:=zae hN1 (.lst ((f++List.replicate n2 0).map V.int))
  have s05:=s04.trans kN
  have k25:=(kZ.trans kY).trans kN
  refine ⟨R,_,_,rfl,rfl,k25 _ _ eR,(by decide),?_⟩
  have NR:N1≠R:=fun zz=>by rw [zz,(kZ.trans kY) _ _ eR] at hN1;cases hN1
  have sw:Same H (upd (upd (upd (upd H2 Z (.lst [.int 0])) Y (.lst ((List.replicate n2 (0:Int)).map V.int))) N1 (.lst ((f++List.replicate n2 0).map V.int))) R (.lst ([]++ [.ref N1]))):=s05.write hR _
  have eR6:(upd (upd (upd (upd H2 Z (.lst [.int 0])) Y (.lst ((List.replicate n2 (0:Int)).map V.int))) N1 (.lst ((f++List.replicate n2 0).map V.int))) R (.lst ([]++ [.ref N1]))) R=some (.lst [.ref N1]):=zab
  have eN6:(upd (upd (upd (upd H2 Z (.lst [.int 0])) Y (.lst ((List.replicate n2 (0:Int)).map V.int))) N1 (.lst ((f++List.replicate n2 0).map V.int))) R (.lst ([]++ [.ref N1]))) N1=some (.lst ((f++List.replicate n2 0).map V.int)):=by rw [zam NR];exact zab
  have s26:znR R H2 (upd (upd (upd (upd H2 Z (.lst [.int 0])) Y (.lst ((List.replicate n2 (0:Int)).map V.int))) N1 (.lst ((f++List.replicate n2 0).map V.int))) R (.lst ([]++ [.ref N1]))):=fun bb o ne e=>by rw [zam ne];exact k25 _ _ e
  generalize upd (upd (upd (upd H2 Z (.lst [.int 0])) Y (.lst ((List.replicate n2 (0:Int)).map V.int))) N1 (.lst ((f++List.replicate n2 0).map V.int))) R (.lst ([]++ [.ref N1]))=H6 at sw eR6 eN6 s26
  have l1:(f++List.replicate n2 (0:Int)).length=n1+n2:=by rw [List.length_append,List.length_replicate,lf1]
  cases eo2:zaG b gs [] with
  | none=>
   rw [eo2] at r2 q
   have ev2:v2= .non:=r2
   subst ev2
   refine ⟨_,rfl,_,rfl,isNone ?_⟩
   refine ⟨_,rfl,R,[(f++List.replicate n2 0,N1)],n1+n2,rfl,eR6,(fun p hp=>by rw [List.mem_singleton.mp hp];exact ⟨eN6,l1⟩),(by simp),fun D hD=>?_⟩
   have kD:=zae hD (.lst ((srtL [(f++List.replicate n2 0,N1)]).map fun p=>V.ref p.2))
   refine ⟨(by show 1≤sizeLine;decide),fun Nn hN=>?_⟩
   have kN9:=zae hN (.lst [.non])
   refine ⟨D,Nn,_,_,rfl,rfl,kN9 _ _ zab,zab,bigE (by rw [List.length_map,zeK];simp),fun C hC=>?_⟩
   have kC:=zae hC (.lst (((srtL [(f++List.replicate n2 0,N1)]).map fun p=>V.ref p.2)++ [.non]))
   have s9:=(kD.trans kN9).trans kC
   have sf:=sw.trans s9
   exact ⟨C,_,_,_,rfl,rfl,.of zab,rfl,q _ _ sf ⟨N1,rfl,s9 _ _ eN6⟩⟩
  | some s2r=>
   rw [eo2] at r2 q
   obtain ⟨q2,rfl,eq2⟩:=r2
   have q2R:q2≠R:=fun zz=>by
    have lr:=(zd0 eo2).1
    rw [zz,eR] at eq2
    have b2:([]:List V)=s2r.map V.int:=HO.lst.inj (Option.some.inj eq2)
    have b3:=congrArg List.length b2
    rw [List.length_map,lr] at b3
    simp at b3
    omega
   have eq6:=s26 _ _ q2R eq2
   have N1R:N1≠R:=NR
   have lf2:=(zd0 eo2).1
   rw [e2] at lf2
   refine ⟨_,rfl,_,rfl,zjB ?_⟩
   refine ⟨_,rfl,.inl ⟨rfl,_,.of eR6⟩,(by show 1≤sizeLine;decide),fun Z2 hZ2=>?_⟩
   have kZ2:=zae hZ2 (.lst [.int 0])
   have t03:=sw.trans kZ2
   refine ⟨_,rfl,aa,_,_,_,rfl,rfl,t03.seqT ha,rfl,Z2,_,_,rfl,rfl,zab,by omega,by omega,(by show 1 * a.ins.toNat≤sizeLine;exact bigE (by omega)),fun Y2 hY2=>?_⟩
   rw [zeG,e1]
   have kY2:=zae hY2 (.lst ((List.replicate n1 (0:Int)).map V.int))
   have t04:=t03.trans kY2
   refine ⟨_,rfl,Y2,q2,_,_,rfl,rfl,zab,(kZ2.trans kY2) _ _ eq6,bigE (by rw [List.length_map,List.length_map,List.length_replicate];omega),fun N2 hN2=>?_⟩
   rw [← List.map_append]
   have kN2:=zae hN2 (.lst ((List.replicate n1 0++s2r).map V.int))
   have t05:=t04.trans kN2
   have k26:=(kZ2.trans kY2).trans kN2
   refine ⟨R,_,_,rfl,rfl,k26 _ _ eR6,big (by simp),?_⟩
   have NR2:N2≠R:=fun zz=>by rw [zz,(kZ2.trans kY2) _ _ eR6] at hN2;cases hN2
   have eR7:(upd (upd (upd (upd H6 Z2 (.lst [.int 0])) Y2 (.lst ((List.replicate n1 (0:Int)).map V.int))) N2 (.lst ((List.replicate n1 0++s2r).map V.int))) R (.lst ([V.ref N1]++ [.ref N2]))) R=some (.lst ([V.ref N1]++ [.ref N2])):=zab
   have eN7:(upd (upd (upd (upd H6 Z2 (.lst [.int 0])) Y2 (.lst ((List.replicate n1 (0:Int)).map V.int))) N2 (.lst ((List.replicate n1 0++s2r).map V.int))) R (.lst ([V.ref N1]++ [.ref N2]))) N2=some (.lst ((List.replicate n1 0++s2r).map V.int)):=by rw [zam NR2];exact zab
   have sw7:Same H (upd (upd (upd (upd H6 Z2 (.lst [.int 0])) Y2 (.lst ((List.replicate n1 (0:Int)).map V.int))) N2 (.lst ((List.replicate n1 0++s2r).map V.int))) R (.lst ([V.ref N1]++ [.ref N2]))):=t05.write hR _
   have s67:znR R H6 (upd (upd (upd (upd H6 Z2 (.lst [.int 0])) Y2 (.lst ((List.replicate n1 (0:Int)).map V.int))) N2 (.lst ((List.replicate n1 0++s2r).map V.int))) R (.lst ([V.ref N1]++ [.ref N2]))):=fun bb o ne e=>by rw [zam ne];exact k26 _ _ e
   generalize upd (upd (upd (upd H6 Z2 (.lst [.int 0])) Y2 (.lst ((List.replicate n1 (0:Int)).map V.int))) N2 (.lst ((List.replicate n1 0++s2r).map V.int))) R (.lst ([V.ref N1]++ [.ref N2]))=H7 at eR7 eN7 sw7 s67
   have l2:(List.replicate n1 (0:Int)++s2r).length=n1+n2:=by rw [List.length_append,List.length_replicate,lf2]
   have eN17:=s67 _ _ N1R eN6
   refine ⟨_,rfl,R,[(f++List.replicate n2 0,N1),(List.replicate n1 0++s2r,N2)],n1+n2,rfl,eR7,(fun p hp=>by
    rcases List.mem_cons.mp hp with rfl | hp
    ·exact ⟨eN17,l1⟩
    ·rw [List.mem_singleton.mp hp]
     exact ⟨eN7,l2⟩),(by simp),fun D hD=>?_⟩
   have kD:=zae hD (.lst ((srtL [(f++List.replicate n2 0,N1),(List.replicate n1 0++s2r,N2)]).map fun p=>V.ref p.2))
   refine ⟨(by show 1≤sizeLine;decide),fun Nn hN=>?_⟩
   have kN9:=zae hN (.lst [.non])
   refine ⟨D,Nn,_,_,rfl,rfl,kN9 _ _ zab,zab,bigE (by rw [List.length_map,zeK];simp),fun C hC=>?_⟩
   have kC:=zae hC (.lst (((srtL [(f++List.replicate n2 0,N1),(List.replicate n1 0++s2r,N2)]).map fun p=>V.ref p.2)++ [.non]))
   have s9:=(kD.trans kN9).trans kC
   have sf:=sw7.trans s9
   have lt:=lt_le (l1.trans l2.symm)
   by_cases c:zaT (f++List.replicate n2 0) (List.replicate n1 0++s2r)=true
   ·rw [c] at lt
    have es:srtL [(f++List.replicate n2 0,N1),(List.replicate n1 0++s2r,N2)]= [(f++List.replicate n2 0,N1),(List.replicate n1 0++s2r,N2)]:=if_neg (by rw [lt];decide)
    refine ⟨C,_,_,_,rfl,rfl,.of zab,by rw [es];rfl,q _ _ sf ?_⟩
    show zfg _ (some (if zaT (f++List.replicate n2 0) (List.replicate n1 0++s2r)=true then f++List.replicate n2 0 else List.replicate n1 0++s2r)) _
    rw [if_pos c]
    exact ⟨N1,rfl,s9 _ _ eN17⟩
   ·rw [Bool.eq_false_iff.mpr c] at lt
    have es:srtL [(f++List.replicate n2 0,N1),(List.replicate n1 0++s2r,N2)]= [(List.replicate n1 0++s2r,N2),(f++List.replicate n2 0,N1)]:=if_pos lt
    refine ⟨C,_,_,_,rfl,rfl,.of zab,by rw [es];rfl,q _ _ sf ?_⟩
    show zfg _ (some (if zaT (f++List.replicate n2 0) (List.replicate n1 0++s2r)=true then f++List.replicate n2 0 else List.replicate n1 0++s2r)) _
    rw [if_neg c]
    exact ⟨N2,rfl,s9 _ _ eN7⟩
theorem zdq:zay ["script","half","one","other","both","row","faults","others","ones","seconds","due","word","answer"] ["script"] (zah zg0):=⟨rfl,rfl,rfl,by decide+kernel,rfl,by decide+kernel,by decide+kernel⟩
theorem ok_law (T:Txt K mg t):FnOk P w K mg base CX0 16 t.f_law t.fd_law ["script"] (zkb K):=by
 refine T.d_law.F.okB zdq (fun vs H Q E h=>?_) (fun cdv A outer s H vs Q E hr h=>?_)
 ·obtain ⟨a,ns,rfl,_⟩:=h
  rfl
 obtain ⟨a,ns,rfl,hS,h63,q⟩:=h
 have hu64:=hr.units
 refine ⟨_,(zad (zaj (k:=1) zdq.nd rfl (Or.inl rfl) (zak zbc zaf (zak ze0 (zaE zaz rfl T.z_len PySem.boot_len (zaa (bpv 0) (zac))) zaf)))
  (zad (zaj (k:=2) zdq.nd rfl (Or.inl rfl) (zal (zfy T) (hr.mono (by decide)) rfl T.d_law_works.m T.d_law_works.F.kp T.d_law_works.b .nil zaH (zaa (zbs zdy (bpv 0) zcC (zbt (bpv 1))) (zaa zaf (zaa zaf (zaa zaf (zac)))))))
  (zad (zaj (k:=3) zdq.nd rfl (Or.inl rfl) (zal (zfy T) (hr.mono (by decide)) rfl T.d_law_works.m T.d_law_works.F.kp T.d_law_works.b .nil zaH (zaa (zak zcO (zax (zaa (zal (zcK T) (hr.mono (by decide)) rfl T.d_law_cell_at.m T.d_law_cell_at.F.kp T.d_law_cell_at.b .nil zaH (zaa (bpv 0) (zaa zaf (zac)))) (zac))) (zbs zdy (bpv 0) (zbt (bpv 1)) zcC)) (zaa zaf (zaa zaf (zaa zaf (zac)))))))
  (zad (zaj (k:=4) zdq.nd rfl (Or.inl rfl) (zal (zgM T) (hr.mono (by decide)) rfl T.d_law_together.m T.d_law_together.F.kp T.d_law_together.b .nil zaH (zaa (bpv 2) (zaa (bpv 3) (zac)))))
  (zad (zaj (k:=5) zdq.nd rfl (Or.inl rfl) (zal (zdh T) (hr.mono (by decide)) rfl T.d_law_numbers.m T.d_law_numbers.F.kp T.d_law_numbers.b .nil zaH (zaa (zak zbc (zal (zcK T) (hr.mono (by decide)) rfl T.d_law_cell_at.m T.d_law_cell_at.F.kp T.d_law_cell_at.b .nil zaH (zaa (bpv 0) (zaa zaf (zac)))) (zak zdL zaf (zal (zcK T) (hr.mono (by decide)) rfl T.d_law_cell_at.m T.d_law_cell_at.F.kp T.d_law_cell_at.b .nil zaH (zaa (bpv 0) (zaa zaf (zac)))))) (zaa zaf (zaa zaf (zac))))))
  (zad (zaj (k:=6) zdq.nd rfl (Or.inl rfl) (zal (zc5 T) (hr.mono (by decide)) rfl T.d_law_some_faults.m T.d_law_some_faults.F.kp T.d_law_some_faults.b .nil zaH (zaa (bpv 2) (zaa (zbs zdy (bpv 5) zcC (zbt zaf)) (zac)))))
  (zad (zaj (k:=7) zdq.nd rfl (Or.inl rfl) (zal (zc5 T) (hr.mono (by decide)) rfl T.d_law_some_faults.m T.d_law_some_faults.F.kp T.d_law_some_faults.b .nil zaH (zaa (bpv 3) (zaa (zbs zdy (bpv 5) (zbt zaf) zcC) (zac)))))
  (zad (zaj (k:=8) zdq.nd rfl (Or.inl rfl) (zal (zfw T) (hr.mono (by decide)) rfl T.d_law_moved.m T.d_law_moved.F.kp T.d_law_moved.b .nil zaH (zaa (bpv 2) (zaa (bpv 3) (zaa (bpv 6) (zaa zka (zac)))))))
  (zad (zaj (k:=9) zdq.nd rfl (Or.inl rfl) (zal (zfw T) (hr.mono (by decide)) rfl T.d_law_moved.m T.d_law_moved.F.kp T.d_law_moved.b .nil zaH (zaa (bpv 2) (zaa (bpv 3) (zaa (bpv 7) (zaa zka (zac)))))))
  (zad (zaj (k:=10) zdq.nd rfl (Or.inl rfl) (zal (zhg T) (hr.mono (by decide)) rfl T.d_law_due.m T.d_law_due.F.kp T.d_law_due.b .nil zaH (zaa (bpv 2) (zaa (bpv 3) (zaa (bpv 6) (zaa (bpv 7) (zac)))))))
  (zad (zbd (zkf (znh (zaA (zlp hu64) (zal (zeB T) (hr.mono (by decide)) rfl T.d_first_test.m T.d_first_test.F.kp T.d_first_test.b .nil zaH (zaa (bpv 4) (zaa (zak zcO (bpv 8) (bpv 9)) (zac)))) (bpv 10) (za1 _)) (zli (zaA (zlp hu64) (zal (ziL T) (hr.mono (by decide)) rfl T.d_parted_at.m T.d_parted_at.F.kp T.d_parted_at.b .nil zaH (zaa (bpv 4) (zaa (bpv 9) (zaa (bpv 8) (zac))))) (bpv 10) (za1 _))))) (zag (zaq zka)) zaF)
  (zad (zhK (zal (zii T) (hr.mono (by decide)) rfl T.d_test_told.m T.d_test_told.F.kp T.d_test_told.b .nil zaH (zaa (bpv 4) (zaa (bpv 8) (zac)))) (zcY rfl (zas (zai (k:=11) zdq.nd rfl (Or.inl rfl)) (zas (zai (k:=12) zdq.nd rfl (Or.inl rfl)) zbq))))
  (zad (zbd (zaA op_ne (zcU zc3 (bpv 11) zav (za1 _)) (znF (zhx (zal (zdX T) (hr.mono (by decide)) rfl T.d_law_first.m T.d_law_first.F.kp T.d_law_first.b .nil zaH (zaa (bpv 2) (zaa (bpv 6) (zac)))))) (za1 _)) (zag (zaq zka)) zaF)
  (zag (zaq (zcU (zny hu64) (zal (zeB T) (hr.mono (by decide)) rfl T.d_first_test.m T.d_first_test.F.kp T.d_first_test.b .nil zaH (zaa (bpv 4) (zaa (bpv 9) (zac)))) (zal (zhg T) (hr.mono (by decide)) rfl T.d_law_due.m T.d_law_due.F.kp T.d_law_due.b .nil zaH (zaa (bpv 2) (zaa (bpv 3) (zaa (zax zac) (zaa (bpv 7) (zac)))))) (za1 _))))))))))))))))),?_⟩
 refine ⟨_,rfl,a,_,rfl,.inl hS,_,_,rfl,rfl,⟨by decide,by decide⟩,_,_,rfl,rfl,?_⟩
 have hf1: 1≤1+((ns.map V.int).length:Int) / 2:=by omega
 obtain ⟨m1,em1,lm1⟩:=zmA ns none (some (1+((ns.map V.int).length:Int) / 2))
 refine ⟨_,rfl,_,rfl,_,rfl,a,_,rfl,hS,fun S1 h1=>?_⟩
 have k1:=zae h1 (.lst (cutV (ns.map V.int) none (some (1+((ns.map V.int).length:Int) / 2))))
 refine ⟨S1,m1,3,5,8,rfl,.of (zab.trans (congrArg (fun l=>some (HO.lst l)) em1)),by omega,by decide,by decide,by decide,by decide,fun r1 wa H1 s1 rw1 wfa ia ga oa=>?_⟩
 have s01:=k1.trans s1
 refine ⟨_,rfl,a,ns,1,rfl,s01.seq hS,fun c1=>⟨(by show 1≤sizeLine;decide),fun L1 hL1=>?_⟩⟩
 have kL:=zae hL1 (.lst [.int c1])
 have s02:=s01.trans kL
 obtain ⟨m2,em2,lm2⟩:=zm7 ns hf1 h63
 refine ⟨_,rfl,_,rfl,_,rfl,a,_,rfl,s02.seq hS,fun S2 h2=>?_⟩
 have k2:=zae h2 (.lst (cutV (ns.map V.int) (some (1+((ns.map V.int).length:Int) / 2)) none))
 have s03:=s02.trans k2
 refine ⟨L1,S2,_,_,rfl,rfl,k2 _ _ zab,zab,bigE (by rw [em2,List.length_map];show 1+m2.length≤_;omega),fun S3 h3=>?_⟩
 have k3:=zae h3 (.lst ([V.int c1]++cutV (ns.map V.int) (some (1+((ns.map V.int).length:Int) / 2)) none))
 have s04:=s03.trans k3
 refine ⟨S3,c1::m2,3,5,8,rfl,.of (zab.trans (congrArg (fun l=>some (HO.lst (V.int c1::l))) em2)),by rw [List.length_cons];omega,by decide,by decide,by decide,by decide,fun r2 wb H2 s2 rw2 wfb ib gb ob=>?_⟩
 have s12:=((kL.trans k2).trans k3).trans s2
 have s05:=s04.trans s2
 have rwa2:=rw1.mono s12
 refine ⟨_,rfl,_,rfl,.ref r1,.ref r2,wa,wb,rfl,rwa2,wfa,rw2,wfb,fun rb H3 s3 rwb=>?_⟩
 have wfs:WF 20 (zce wa wb):=znS wfa wfb (by omega) (by omega) (by omega)
 have s06:=s05.trans s3
 refine ⟨_,rfl,a,ns,0,rfl,s06.seq hS,fun c0=>⟨_,rfl,a,ns,1,rfl,s06.seq hS,fun c2=>⟨_,_,rfl,rfl,.inl ⟨by decide,by decide⟩,_,_,rfl,rfl,_,18,210,rfl,by decide,by decide,by decide,fun R row H4 s4 nR eR lr br=>?_⟩⟩⟩
 have cut:∀ (lo hi:Option Int) (x y:Int),0≤x→y=x+9→y≤18→cutV (row.map V.int) lo hi=cutV (row.map V.int) (some x) (some y)→∃ zs:List Int,cutV (row.map V.int) lo hi=zs.map V.int∧zs.length=9∧∀ z∈zs,0≤z:=fun lo hi x y h0 h1 h2 e=>by
  refine ⟨_,e.trans (zjl row h0 (by omega) (by omega)),by rw [List.length_take,List.length_drop];omega,fun z hz=>(br z (List.mem_of_mem_drop (List.mem_of_mem_take hz))).1⟩
 obtain ⟨zs,ezs,lz,bz⟩:=cut none (some 9) 0 9 (by decide) rfl (by decide) (zm3 _ _)
 obtain ⟨us,eus,lu,bu⟩:=cut (some 9) none 9 18 (by decide) rfl (by decide) (by rw [zol,List.length_map,lr];rfl)
 refine ⟨_,rfl,_,rfl,_,rfl,R,_,rfl,.of eR,fun X1 hX1=>?_⟩
 have kX1:=zae hX1 (.lst (cutV (row.map V.int) none (some 9)))
 have s34:=s3.trans (s4.trans kX1)
 refine ⟨.ref r1,X1,wa,zs,rfl,rwa2.mono s34,wfa,.of (zab.trans (congrArg (fun l=>some (HO.lst l)) ezs)),lz,bz,fun fa fs H5 s5 nfa gf=>?_⟩
 have s35:=s34.trans s5
 refine ⟨_,rfl,_,rfl,_,rfl,R,_,rfl,.of ((kX1.trans s5) _ _ eR),fun X2 hX2=>?_⟩
 have kX2:=zae hX2 (.lst (cutV (row.map V.int) (some 9) none))
 have s36:=s35.trans kX2
 refine ⟨.ref r2,X2,wb,us,rfl,rw2.mono s36,wfb,.of (zab.trans (congrArg (fun l=>some (HO.lst l)) eus)),lu,bu,fun fb gs H6 s6 nfb gg=>?_⟩
 have s26:=s36.trans s6
 have rA:=rwa2.mono s26
 have rB:=rw2.mono s26
 have rS:=rwb.mono ((s4.trans kX1).trans (s5.trans (kX2.trans s6)))
 have gf6:=gf.mono (kX2.trans s6)
 have lf:=gf.few
 have lg:=gg.few
 refine ⟨_,rfl,_,rfl,_,rfl,.ref r1,.ref r2,.ref fa,wa,wb,fs,false,rfl,rA,rB,gf6.rep,gf6.good,by omega,fun Ao va H7 s7 eAo rAo=>?_⟩
 refine ⟨_,rfl,_,rfl,_,rfl,.ref r1,.ref r2,.ref fb,wa,wb,gs,true,rfl,rA.mono s7,rB.mono s7,(gg.mono s7).rep,gg.good,by omega,fun Bo vb H8 s8 eBo rBo=>?_⟩
 have s68:=s7.trans s8
 refine ⟨_,rfl,_,rfl,_,rfl,_,rfl,.ref r1,.ref r2,.ref fa,.ref fb,wa,wb,fs,gs,rfl,rA.mono s68,wfa,rB.mono s68,wfb,(gf6.mono s68).rep,gf6.good,gf6.apart,by omega,(gg.mono s68).rep,gg.good,gg.apart,by omega,fun dv H9 s9 rdv=>?_⟩
 have s69:=s68.trans s9
 have ha:=wfa.i1
 have hb:=wfb.i1
 have nogs:∀ f∈([]:List Flt),zb2 wb f:=fun _ z=>nomatch z
 have nofs:∀ f∈([]:List Flt),zb2 wa f:=fun _ z=>nomatch z
 have e1:zcT wa wb fs []=fs.map (mvF false wa wb):=by unfold zcT;rw [List.map_nil,List.append_nil];rfl
 have e2:zcT wa wb [] gs=gs.map (mvF true wa wb):=by unfold zcT;rfl
 have e12:zcT wa wb fs gs=fs.map (mvF false wa wb)++gs.map (mvF true wa wb):=rfl
 have F1:=zd8 wfa wfb gf6.good gg.good nofs nogs
 have F2:=zd8 wfa wfb nofs gg.good gf6.good nogs
 have F3:=zd8 wfa wfb gf6.good nogs nofs nogs
 have F4:=zd8 wfa wfb nofs gg.good nofs nogs
 have e0:zcT wa wb [] []= []:=rfl
 rw [e0] at F1 F3 F4
 rw [e1] at F2 F3
 rw [e2] at F2 F4
 rw [zi8 wa [] fs] at F2
 have noF:zaG wb [] []=none:=zgy fun _ _ _=>rfl
 rw [noF] at F3
 have g1:=zge ha hb gf6.good nogs
 have g2:=zge ha hb nofs gg.good
 have g12:=zge ha hb gf6.good gg.good
 have p1:=ze3 ha hb gf6.good nogs gf6.apart List.nodup_nil
 have p2:=ze3 ha hb nofs gg.good List.nodup_nil gg.apart
 have p12:=ze3 ha hb gf6.good gg.good gf6.apart gg.apart
 rw [e1] at g1 p1
 rw [e2] at g2 p2
 rw [e12] at g12 p12 F1
 have lma:(fs.map (mvF false wa wb)).length=fs.length:=List.length_map _
 have lmb:(gs.map (mvF true wa wb)).length=gs.length:=List.length_map _
 have lva:va.length=fs.length:=by rw [rAo.length,List.length_map,List.length_map]
 have lvb:vb.length=gs.length:=by rw [rBo.length,List.length_map,List.length_map]
 have eA9:=(s8.trans s9) _ _ eAo
 have eB9:=s9 _ _ eBo
 have rA9:=rAo.mono (s8.trans s9)
 have rB9:=rBo.mono s9
 have rS9:=rS.mono s69
 refine ⟨_,rfl,_,rfl,_,rfl,Ao,Bo,va,vb,rfl,rfl,eA9,eB9,bigE (by omega),fun U hU=>?_⟩
 have kU:=zae hU (.lst (va++vb))
 refine ⟨.ref rb,.ref U,zce wa wb,fs.map (mvF false wa wb)++gs.map (mvF true wa wb),rfl,rS9.mono kU,wfs,.lst (.of zab) (by rw [List.map_append];exact (rA9.mono kU).append (rB9.mono kU)),g12,p12,by rw [List.length_append];omega,fun v10 H10 s10 ro10=>?_⟩
 have t10:=kU.trans s10
 rw [F1] at ro10
 refine ⟨_,rfl,_,_,ro10.at.rep,(rdv.mono t10).rep,zdM _,zdM _,fun _=>⟨_,rfl,iteF ?_⟩,fun z=>absurd rfl z⟩
 refine ⟨_,rfl,_,rfl,_,rfl,.ref rb,.ref Bo,.ref Ao,zce wa wb,gs.map (mvF true wa wb),fs.map (mvF false wa wb),rfl,rS9.mono t10,wfs,(Rep.lst (.of eB9) rB9).mono t10,g2,p2,by omega,(Rep.lst (.of eA9) rA9).mono t10,g1,p1,by omega,fun v11 H11 s11 ro11=>?_⟩
 have t11:=t10.trans s11
 rw [F2] at ro11
 refine ⟨_,rfl,_,_,ro11.at.rep,(rdv.mono t11).rep,zdM _,zdM _,fun _=>⟨_,rfl,iteF ?_⟩,fun z=>absurd rfl z⟩
 refine ⟨_,rfl,_,rfl,.ref rb,.ref Ao,zce wa wb,fs.map (mvF false wa wb),rfl,rS9.mono t11,wfs,(Rep.lst (.of eA9) rA9).mono t11,g1,p1,by omega,fun t12 H12 s12 n12 told=>?_⟩
 have u12:=t11.trans s12
 have s6c:=s69.trans u12
 rcases told with ⟨eo,v,et,rp⟩ | ⟨rw0,q0,eo,et,nq,eq0⟩
 ·refine ⟨t12,_,rfl,.of et,rfl,_,_,rfl,_,_,rfl,rfl,?_⟩
  rw [F3] at eo
  have en:zaG wa fs []=none:=by
   cases hc:zaG wa fs [] with
   | none=>rfl
   | some f=>rw [hc] at eo;cases eo
  refine ⟨_,rfl,rfl,_,rfl,_,rfl,.ref r1,.ref fa,wa,fs,rfl,(rA.mono s6c),wfa,(gf6.mono s6c).rep,gf6.good,gf6.apart,by omega,fun v13 H13 s13 r13=>?_⟩
  rw [en] at r13
  have ev:v13= .non:=r13
  subst ev
  refine ⟨rfl,_,rfl,iteNS (by decide+kernel) ?_⟩
  have u13:=u12.trans s13
  have s6d:=s69.trans u13
  refine ⟨_,rfl,_,rfl,.ref rb,.ref Bo,zce wa wb,gs.map (mvF true wa wb),rfl,rS9.mono u13,wfs,(Rep.lst (.of eB9) rB9).mono u13,g2,p2,by omega,fun v14 H14 s14 ro14=>?_⟩
  rw [F4] at ro14
  refine ⟨_,rfl,_,rfl,(by show 0≤sizeLine;decide),fun E0 hE0=>?_⟩
  have kE:=zae hE0 (.lst [])
  have s6e:=(s6d.trans s14).trans kE
  refine ⟨_,rfl,.ref r1,.ref r2,.ref E0,.ref fb,wa,wb,[],gs,rfl,rA.mono s6e,wfa,rB.mono s6e,wfb,.lst (.of zab) .nil,nofs,List.nodup_nil,Nat.zero_le _,(gg.mono s6e).rep,gg.good,gg.apart,by omega,fun v15 H15 s15 r15=>?_⟩
  exact ⟨_,_,(ro14.at.mono (kE.trans s15)).rep,r15.rep,zdM _,zdM _,fun _=>q _,fun z=>absurd rfl z⟩
 ·refine ⟨t12,_,rfl,.of et,rfl,_,_,rfl,_,_,rfl,rfl,?_⟩
  rw [F3] at eo
  refine ⟨_,rfl,rfl,_,rfl,_,rfl,.ref r1,.ref fa,wa,fs,rfl,(rA.mono s6c),wfa,(gf6.mono s6c).rep,gf6.good,gf6.apart,by omega,fun v13 H13 s13 r13=>?_⟩
  obtain ⟨q1,ev⟩:∃ q1,v13= .ref q1:=by
   cases hc:zaG wa fs [] with
   | none=>rw [hc] at eo;cases eo
   | some f=>
    rw [hc] at r13
    obtain ⟨q1,e,_⟩:=r13
    exact ⟨q1,e⟩
  subst ev
  refine ⟨rfl,_,rfl,iteNS (congrArg V.bl (by rw [decide_eq_true rfl,decide_eq_false (fun z=>nomatch z)];rfl)) ?_⟩
  have u13:=u12.trans s13
  have s6d:=s69.trans u13
  refine ⟨_,rfl,_,rfl,.ref rb,.ref Bo,zce wa wb,gs.map (mvF true wa wb),rfl,rS9.mono u13,wfs,(Rep.lst (.of eB9) rB9).mono u13,g2,p2,by omega,fun v14 H14 s14 ro14=>?_⟩
  rw [F4] at ro14
  refine ⟨_,rfl,_,rfl,(by show 0≤sizeLine;decide),fun E0 hE0=>?_⟩
  have kE:=zae hE0 (.lst [])
  have s6e:=(s6d.trans s14).trans kE
  refine ⟨_,rfl,.ref r1,.ref r2,.ref E0,.ref fb,wa,wb,[],gs,rfl,rA.mono s6e,wfa,rB.mono s6e,wfb,.lst (.of zab) .nil,nofs,List.nodup_nil,Nat.zero_le _,(gg.mono s6e).rep,gg.good,gg.apart,by omega,fun v15 H15 s15 r15=>?_⟩
  exact ⟨_,_,(ro14.at.mono (kE.trans s15)).rep,r15.rep,zdM _,zdM _,fun _=>q _,fun z=>absurd rfl z⟩
end
theorem all_mk {l:PySem.W.OpenLaw}{w:World}{K:PySem.W.Frag}{h:Heap}{mg:Str→Option Value}{fa f1 f2 f3 f4 f5 f6 f7 f8 f9 f10 f11 f12 f13 f14 f15 f16 f17 f18 f19 f20 f21 f22 f23 f24 f25 f26 f27 f28 f29 f30 f31 f32 f33 f34 f35 f36 f37 f38 f39 f40 f41:Addr}(X:K.In h)(G:h.Ns mainGlobals mg)(hfa:mg "law" =some (.ref fa))
  {od1 an1 od2 an2 od3 an3 od4 an4 od5 an5 od6 an6 od7 an7 od8 an8 od9 an9 od10 an10 od11 an11 od12 an12 od13 an13 od14 an14 od15 an15 od16 an16 od17 an17 od18 an18 od19 an19 od20 an20 od21 an21 od22 an22 od23 an23 od24 an24 od25 an25 od26 an26 od27 an27 od28 an28 od29 an29 od30 an30 od31 an31 od32 an32 od33 an33 od34 an34 od35 an35 od36 an36 od37 an37 od38 an38 od39 an39 od40 an40 od41 an41:Option Addr} {sl1 sl2 sl3 sl4 sl5 sl6 sl7 sl8 sl9 sl10 sl11 sl12 sl13 sl14 sl15 sl16 sl17 sl18 sl19 sl20 sl21 sl22 sl23 sl24 sl25 sl26 sl27 sl28 sl29 sl30 sl31 sl32 sl33 sl34 sl35 sl36 sl37 sl38 sl39 sl40 sl41:Array (Option Value)} {oc1 kV1 dc1 pm1 cd1 ct1 oc2 kV2 dc2 pm2 cd2 ct2 oc3 kV3 dc3 pm3 cd3 ct3 oc4 kV4 dc4 pm4 cd4 ct4 oc5 kV5 dc5 pm5 cd5 ct5 oc6 kV6 dc6 pm6 cd6 ct6 oc7 kV7 dc7 pm7 cd7 ct7 oc8 kV8 dc8 pm8 cd8 ct8 oc9 kV9 dc9 pm9 cd9 ct9 oc10 kV10 dc10 pm10 cd10 ct10 oc11 kV11 dc11 pm11 cd11 ct11 oc12 kV12 dc12 pm12 cd12 ct12 oc13 kV13 dc13 pm13 cd13 ct13 oc14 kV14 dc14 pm14 cd14 ct14 oc15 kV15 dc15 pm15 cd15 ct15 oc16 kV16 dc16 pm16 cd16 ct16 oc17 kV17 dc17 pm17 cd17 ct17 oc18 kV18 dc18 pm18 cd18 ct18 oc19 kV19 dc19 pm19 cd19 ct19 oc20 kV20 dc20 pm20 cd20 ct20 oc21 kV21 dc21 pm21 cd21 ct21 oc22 kV22 dc22 pm22 cd22 ct22 oc23 kV23 dc23 pm23 cd23 ct23 oc24 kV24 dc24 pm24 cd24 ct24 oc25 kV25 dc25 pm25 cd25 ct25 oc26 kV26 dc26 pm26 cd26 ct26 oc27 kV27 dc27 pm27 cd27 ct27 oc28 kV28 dc28 pm28 cd28 ct28 oc29 kV29 dc29 pm29 cd29 ct29 oc30 kV30 dc30 pm30 cd30 ct30 oc31 kV31 dc31 pm31 cd31 ct31 oc32 kV32 dc32 pm32 cd32 ct32 oc33 kV33 dc33 pm33 cd33 ct33 oc34 kV34 dc34 pm34 cd34 ct34 oc35 kV35 dc35 pm35 cd35 ct35 oc36 kV36 dc36 pm36 cd36 ct36 oc37 kV37 dc37 pm37 cd37 ct37 oc38 kV38 dc38 pm38 cd38 ct38 oc39 kV39 dc39 pm39 cd39 ct39 oc40 kV40 dc40 pm40 cd40 ct40 oc41 kV41 dc41 pm41 cd41 ct41:Value}
  (a1:PySem.W.nsIn K mainGlobals "every_row" =some (some (.ref f1))) (l1:K.lookup f1=some ⟨oc1,od1,.func (PySem.W.fnOf "every_row" "every_row" (zaw zco) (zau zco) (zah zco) .none kV1 dc1 pm1 an1 cd1 ct1),sl1⟩) (c1:PySem.W.codeIn K cd1 "every_row" =true) (k1:PySem.W.keepIn K (.ref f1)=true)
  {T2:Addr} {cT2:Value} {dT2:Option Addr} {kT2:Tok} {nT2:Nat} {sT2:Array (Option Value)}
  (a2:PySem.W.nsIn K mainGlobals "gate_worth" =some (some (.ref f2))) (l2:K.lookup f2=some ⟨oc2,od2,.func (PySem.W.fnOf "gate_worth" "gate_worth" (zaw zb5) (zau zb5) (zah zb5) (.ref T2) kV2 dc2 pm2 an2 cd2 ct2),sl2⟩) (c2:PySem.W.codeIn K cd2 "gate_worth" =true) (k2:PySem.W.keepIn K (.ref f2)=true)
  (v2:K.lookup T2=some ⟨cT2,dT2,.seq #[.int 1 kT2] nT2,sT2⟩)
  (a3:PySem.W.nsIn K mainGlobals "every_fault" =some (some (.ref f3))) (l3:K.lookup f3=some ⟨oc3,od3,.func (PySem.W.fnOf "every_fault" "every_fault" (zaw zbU) (zau zbU) (zah zbU) .none kV3 dc3 pm3 an3 cd3 ct3),sl3⟩) (c3:PySem.W.codeIn K cd3 "every_fault" =true) (k3:PySem.W.keepIn K (.ref f3)=true)
  (a4:PySem.W.nsIn K mainGlobals "stuck_places" =some (some (.ref f4))) (l4:K.lookup f4=some ⟨oc4,od4,.func (PySem.W.fnOf "stuck_places" "stuck_places" (zaw zbz) (zau zbz) (zah zbz) .none kV4 dc4 pm4 an4 cd4 ct4),sl4⟩) (c4:PySem.W.codeIn K cd4 "stuck_places" =true) (k4:PySem.W.keepIn K (.ref f4)=true)
  {T5:Addr} {cT5:Value} {dT5:Option Addr} {kT5:Tok} {nT5:Nat} {sT5:Array (Option Value)}
  (a5:PySem.W.nsIn K mainGlobals "worths_with" =some (some (.ref f5))) (l5:K.lookup f5=some ⟨oc5,od5,.func (PySem.W.fnOf "worths_with" "worths_with" (zaw zbP) (zau zbP) (zah zbP) (.ref T5) kV5 dc5 pm5 an5 cd5 ct5),sl5⟩) (c5:PySem.W.codeIn K cd5 "worths_with" =true) (k5:PySem.W.keepIn K (.ref f5)=true)
  (v5:K.lookup T5=some ⟨cT5,dT5,.seq #[.int 1 kT5] nT5,sT5⟩)
  (a6:PySem.W.nsIn K mainGlobals "leg_worths" =some (some (.ref f6))) (l6:K.lookup f6=some ⟨oc6,od6,.func (PySem.W.fnOf "leg_worths" "leg_worths" (zaw zcc) (zau zcc) (zah zcc) .none kV6 dc6 pm6 an6 cd6 ct6),sl6⟩) (c6:PySem.W.codeIn K cd6 "leg_worths" =true) (k6:PySem.W.keepIn K (.ref f6)=true)
  {T7:Addr} {cT7:Value} {dT7:Option Addr} {kT7:Tok} {nT7:Nat} {sT7:Array (Option Value)}
  (a7:PySem.W.nsIn K mainGlobals "outputs_with" =some (some (.ref f7))) (l7:K.lookup f7=some ⟨oc7,od7,.func (PySem.W.fnOf "outputs_with" "outputs_with" (zaw zbB) (zau zbB) (zah zbB) (.ref T7) kV7 dc7 pm7 an7 cd7 ct7),sl7⟩) (c7:PySem.W.codeIn K cd7 "outputs_with" =true) (k7:PySem.W.keepIn K (.ref f7)=true)
  (v7:K.lookup T7=some ⟨cT7,dT7,.seq #[.int 1 kT7] nT7,sT7⟩)
  (a8:PySem.W.nsIn K mainGlobals "every_pairs" =some (some (.ref f8))) (l8:K.lookup f8=some ⟨oc8,od8,.func (PySem.W.fnOf "every_pairs" "every_pairs" (zaw zbO) (zau zbO) (zah zbO) .none kV8 dc8 pm8 an8 cd8 ct8),sl8⟩) (c8:PySem.W.codeIn K cd8 "every_pairs" =true) (k8:PySem.W.keepIn K (.ref f8)=true)
  (a9:PySem.W.nsIn K mainGlobals "input_pairs" =some (some (.ref f9))) (l9:K.lookup f9=some ⟨oc9,od9,.func (PySem.W.fnOf "input_pairs" "input_pairs" (zaw zbK) (zau zbK) (zah zbK) .none kV9 dc9 pm9 an9 cd9 ct9),sl9⟩) (c9:PySem.W.codeIn K cd9 "input_pairs" =true) (k9:PySem.W.keepIn K (.ref f9)=true)
  (a10:PySem.W.nsIn K mainGlobals "leg_pairs" =some (some (.ref f10))) (l10:K.lookup f10=some ⟨oc10,od10,.func (PySem.W.fnOf "leg_pairs" "leg_pairs" (zaw zcl) (zau zcl) (zah zcl) .none kV10 dc10 pm10 an10 cd10 ct10),sl10⟩) (c10:PySem.W.codeIn K cd10 "leg_pairs" =true) (k10:PySem.W.keepIn K (.ref f10)=true)
  (a11:PySem.W.nsIn K mainGlobals "with_stuck" =some (some (.ref f11))) (l11:K.lookup f11=some ⟨oc11,od11,.func (PySem.W.fnOf "with_stuck" "with_stuck" (zaw zca) (zau zca) (zah zca) .none kV11 dc11 pm11 an11 cd11 ct11),sl11⟩) (c11:PySem.W.codeIn K cd11 "with_stuck" =true) (k11:PySem.W.keepIn K (.ref f11)=true)
  (a12:PySem.W.nsIn K mainGlobals "gate_pairs" =some (some (.ref f12))) (l12:K.lookup f12=some ⟨oc12,od12,.func (PySem.W.fnOf "gate_pairs" "gate_pairs" (zaw zb8) (zau zb8) (zah zb8) .none kV12 dc12 pm12 an12 cd12 ct12),sl12⟩) (c12:PySem.W.codeIn K cd12 "gate_pairs" =true) (k12:PySem.W.keepIn K (.ref f12)=true)
  (a13:PySem.W.nsIn K mainGlobals "every_choice" =some (some (.ref f13))) (l13:K.lookup f13=some ⟨oc13,od13,.func (PySem.W.fnOf "every_choice" "every_choice" (zaw zby) (zau zby) (zah zby) .none kV13 dc13 pm13 an13 cd13 ct13),sl13⟩) (c13:PySem.W.codeIn K cd13 "every_choice" =true) (k13:PySem.W.keepIn K (.ref f13)=true)
  (a14:PySem.W.nsIn K mainGlobals "chosen_pair" =some (some (.ref f14))) (l14:K.lookup f14=some ⟨oc14,od14,.func (PySem.W.fnOf "chosen_pair" "chosen_pair" (zaw zbS) (zau zbS) (zah zbS) .none kV14 dc14 pm14 an14 cd14 ct14),sl14⟩) (c14:PySem.W.codeIn K cd14 "chosen_pair" =true) (k14:PySem.W.keepIn K (.ref f14)=true)
  (a15:PySem.W.nsIn K mainGlobals "outputs_alike" =some (some (.ref f15))) (l15:K.lookup f15=some ⟨oc15,od15,.func (PySem.W.fnOf "outputs_alike" "outputs_alike" (zaw zbi) (zau zbi) (zah zbi) .none kV15 dc15 pm15 an15 cd15 ct15),sl15⟩) (c15:PySem.W.codeIn K cd15 "outputs_alike" =true) (k15:PySem.W.keepIn K (.ref f15)=true)
  (a16:PySem.W.nsIn K mainGlobals "are_alike" =some (some (.ref f16))) (l16:K.lookup f16=some ⟨oc16,od16,.func (PySem.W.fnOf "are_alike" "are_alike" (zaw zcg) (zau zcg) (zah zcg) .none kV16 dc16 pm16 an16 cd16 ct16),sl16⟩) (c16:PySem.W.codeIn K cd16 "are_alike" =true) (k16:PySem.W.keepIn K (.ref f16)=true)
  (a17:PySem.W.nsIn K mainGlobals "outputs_seen" =some (some (.ref f17))) (l17:K.lookup f17=some ⟨oc17,od17,.func (PySem.W.fnOf "outputs_seen" "outputs_seen" (zaw zbA) (zau zbA) (zah zbA) .none kV17 dc17 pm17 an17 cd17 ct17),sl17⟩) (c17:PySem.W.codeIn K cd17 "outputs_seen" =true) (k17:PySem.W.keepIn K (.ref f17)=true)
  (a18:PySem.W.nsIn K mainGlobals "rows_at_once" =some (some (.ref f18))) (l18:K.lookup f18=some ⟨oc18,od18,.func (PySem.W.fnOf "rows_at_once" "rows_at_once" (zaw zbv) (zau zbv) (zah zbv) .none kV18 dc18 pm18 an18 cd18 ct18),sl18⟩) (c18:PySem.W.codeIn K cd18 "rows_at_once" =true) (k18:PySem.W.keepIn K (.ref f18)=true)
  (a19:PySem.W.nsIn K mainGlobals "first_unlike" =some (some (.ref f19))) (l19:K.lookup f19=some ⟨oc19,od19,.func (PySem.W.fnOf "first_unlike" "first_unlike" (zaw zbC) (zau zbC) (zah zbC) .none kV19 dc19 pm19 an19 cd19 ct19),sl19⟩) (c19:PySem.W.codeIn K cd19 "first_unlike" =true) (k19:PySem.W.keepIn K (.ref f19)=true)
  (a20:PySem.W.nsIn K mainGlobals "unlike_numbers" =some (some (.ref f20))) (l20:K.lookup f20=some ⟨oc20,od20,.func (PySem.W.fnOf "unlike_numbers" "unlike_numbers" (zaw za7) (zau za7) (zah za7) .none kV20 dc20 pm20 an20 cd20 ct20),sl20⟩) (c20:PySem.W.codeIn K cd20 "unlike_numbers" =true) (k20:PySem.W.keepIn K (.ref f20)=true)
  (a21:PySem.W.nsIn K mainGlobals "first_test" =some (some (.ref f21))) (l21:K.lookup f21=some ⟨oc21,od21,.func (PySem.W.fnOf "first_test" "first_test" (zaw zb7) (zau zb7) (zah zb7) .none kV21 dc21 pm21 an21 cd21 ct21),sl21⟩) (c21:PySem.W.codeIn K cd21 "first_test" =true) (k21:PySem.W.keepIn K (.ref f21)=true)
  (a22:PySem.W.nsIn K mainGlobals "test_told" =some (some (.ref f22))) (l22:K.lookup f22=some ⟨oc22,od22,.func (PySem.W.fnOf "test_told" "test_told" (zaw zcn) (zau zcn) (zah zcn) .none kV22 dc22 pm22 an22 cd22 ct22),sl22⟩) (c22:PySem.W.codeIn K cd22 "test_told" =true) (k22:PySem.W.keepIn K (.ref f22)=true)
  (a23:PySem.W.nsIn K mainGlobals "paper_behind" =some (some (.ref f23))) (l23:K.lookup f23=some ⟨oc23,od23,.func (PySem.W.fnOf "paper_behind" "paper_behind" (zaw zbu) (zau zbu) (zah zbu) .none kV23 dc23 pm23 an23 cd23 ct23),sl23⟩) (c23:PySem.W.codeIn K cd23 "paper_behind" =true) (k23:PySem.W.keepIn K (.ref f23)=true)
  (a24:PySem.W.nsIn K mainGlobals "parted_at" =some (some (.ref f24))) (l24:K.lookup f24=some ⟨oc24,od24,.func (PySem.W.fnOf "parted_at" "parted_at" (zaw zcm) (zau zcm) (zah zcm) .none kV24 dc24 pm24 an24 cd24 ct24),sl24⟩) (c24:PySem.W.codeIn K cd24 "parted_at" =true) (k24:PySem.W.keepIn K (.ref f24)=true)
  (a25:PySem.W.nsIn K mainGlobals "_law_cell_at" =some (some (.ref f25))) (l25:K.lookup f25=some ⟨oc25,od25,.func (PySem.W.fnOf "_law_cell_at" "_law_cell_at" (zaw zbQ) (zau zbQ) (zah zbQ) .none kV25 dc25 pm25 an25 cd25 ct25),sl25⟩) (c25:PySem.W.codeIn K cd25 "_law_cell_at" =true) (k25:PySem.W.keepIn K (.ref f25)=true)
  (a26:PySem.W.nsIn K mainGlobals "_law_numbers" =some (some (.ref f26))) (l26:K.lookup f26=some ⟨oc26,od26,.func (PySem.W.fnOf "_law_numbers" "_law_numbers" (zaw zbT) (zau zbT) (zah zbT) .none kV26 dc26 pm26 an26 cd26 ct26),sl26⟩) (c26:PySem.W.codeIn K cd26 "_law_numbers" =true) (k26:PySem.W.keepIn K (.ref f26)=true)
  (a27:PySem.W.nsIn K mainGlobals "_law_gate" =some (some (.ref f27))) (l27:K.lookup f27=some ⟨oc27,od27,.func (PySem.W.fnOf "_law_gate" "_law_gate" (zaw zcF) (zau zcF) (zah zcF) .none kV27 dc27 pm27 an27 cd27 ct27),sl27⟩) (c27:PySem.W.codeIn K cd27 "_law_gate" =true) (k27:PySem.W.keepIn K (.ref f27)=true)
  (a28:PySem.W.nsIn K mainGlobals "_law_works" =some (some (.ref f28))) (l28:K.lookup f28=some ⟨oc28,od28,.func (PySem.W.fnOf "_law_works" "_law_works" (zaw zcj) (zau zcj) (zah zcj) .none kV28 dc28 pm28 an28 cd28 ct28),sl28⟩) (c28:PySem.W.codeIn K cd28 "_law_works" =true) (k28:PySem.W.keepIn K (.ref f28)=true)
  (a29:PySem.W.nsIn K mainGlobals "_law_worth" =some (some (.ref f29))) (l29:K.lookup f29=some ⟨oc29,od29,.func (PySem.W.fnOf "_law_worth" "_law_worth" (zaw zcp) (zau zcp) (zah zcp) .none kV29 dc29 pm29 an29 cd29 ct29),sl29⟩) (c29:PySem.W.codeIn K cd29 "_law_worth" =true) (k29:PySem.W.keepIn K (.ref f29)=true)
  (a30:PySem.W.nsIn K mainGlobals "_law_things" =some (some (.ref f30))) (l30:K.lookup f30=some ⟨oc30,od30,.func (PySem.W.fnOf "_law_things" "_law_things" (zaw zb6) (zau zb6) (zah zb6) .none kV30 dc30 pm30 an30 cd30 ct30),sl30⟩) (c30:PySem.W.codeIn K cd30 "_law_things" =true) (k30:PySem.W.keepIn K (.ref f30)=true)
  (a31:PySem.W.nsIn K mainGlobals "_law_wires" =some (some (.ref f31))) (l31:K.lookup f31=some ⟨oc31,od31,.func (PySem.W.fnOf "_law_wires" "_law_wires" (zaw zck) (zau zck) (zah zck) .none kV31 dc31 pm31 an31 cd31 ct31),sl31⟩) (c31:PySem.W.codeIn K cd31 "_law_wires" =true) (k31:PySem.W.keepIn K (.ref f31)=true)
  (a32:PySem.W.nsIn K mainGlobals "_law_outputs" =some (some (.ref f32))) (l32:K.lookup f32=some ⟨oc32,od32,.func (PySem.W.fnOf "_law_outputs" "_law_outputs" (zaw zbR) (zau zbR) (zah zbR) .none kV32 dc32 pm32 an32 cd32 ct32),sl32⟩) (c32:PySem.W.codeIn K cd32 "_law_outputs" =true) (k32:PySem.W.keepIn K (.ref f32)=true)
  (a33:PySem.W.nsIn K mainGlobals "_law_rows" =some (some (.ref f33))) (l33:K.lookup f33=some ⟨oc33,od33,.func (PySem.W.fnOf "_law_rows" "_law_rows" (zaw zcH) (zau zcH) (zah zcH) .none kV33 dc33 pm33 an33 cd33 ct33),sl33⟩) (c33:PySem.W.codeIn K cd33 "_law_rows" =true) (k33:PySem.W.keepIn K (.ref f33)=true)
  (a34:PySem.W.nsIn K mainGlobals "_law_every_fault" =some (some (.ref f34))) (l34:K.lookup f34=some ⟨oc34,od34,.func (PySem.W.fnOf "_law_every_fault" "_law_every_fault" (zaw zaY) (zau zaY) (zah zaY) .none kV34 dc34 pm34 an34 cd34 ct34),sl34⟩) (c34:PySem.W.codeIn K cd34 "_law_every_fault" =true) (k34:PySem.W.keepIn K (.ref f34)=true)
  (a35:PySem.W.nsIn K mainGlobals "_law_some_faults" =some (some (.ref f35))) (l35:K.lookup f35=some ⟨oc35,od35,.func (PySem.W.fnOf "_law_some_faults" "_law_some_faults" (zaw za0) (zau za0) (zah za0) .none kV35 dc35 pm35 an35 cd35 ct35),sl35⟩) (c35:PySem.W.codeIn K cd35 "_law_some_faults" =true) (k35:PySem.W.keepIn K (.ref f35)=true)
  (a36:PySem.W.nsIn K mainGlobals "_law_first" =some (some (.ref f36))) (l36:K.lookup f36=some ⟨oc36,od36,.func (PySem.W.fnOf "_law_first" "_law_first" (zaw zci) (zau zci) (zah zci) .none kV36 dc36 pm36 an36 cd36 ct36),sl36⟩) (c36:PySem.W.codeIn K cd36 "_law_first" =true) (k36:PySem.W.keepIn K (.ref f36)=true)
  (a37:PySem.W.nsIn K mainGlobals "_law_moved_wire" =some (some (.ref f37))) (l37:K.lookup f37=some ⟨oc37,od37,.func (PySem.W.fnOf "_law_moved_wire" "_law_moved_wire" (zaw za6) (zau za6) (zah za6) .none kV37 dc37 pm37 an37 cd37 ct37),sl37⟩) (c37:PySem.W.codeIn K cd37 "_law_moved_wire" =true) (k37:PySem.W.keepIn K (.ref f37)=true)
  (a38:PySem.W.nsIn K mainGlobals "_law_together" =some (some (.ref f38))) (l38:K.lookup f38=some ⟨oc38,od38,.func (PySem.W.fnOf "_law_together" "_law_together" (zaw zbx) (zau zbx) (zah zbx) .none kV38 dc38 pm38 an38 cd38 ct38),sl38⟩) (c38:PySem.W.codeIn K cd38 "_law_together" =true) (k38:PySem.W.keepIn K (.ref f38)=true)
  (a39:PySem.W.nsIn K mainGlobals "_law_moved" =some (some (.ref f39))) (l39:K.lookup f39=some ⟨oc39,od39,.func (PySem.W.fnOf "_law_moved" "_law_moved" (zaw zch) (zau zch) (zah zch) .none kV39 dc39 pm39 an39 cd39 ct39),sl39⟩) (c39:PySem.W.codeIn K cd39 "_law_moved" =true) (k39:PySem.W.keepIn K (.ref f39)=true)
  (a40:PySem.W.nsIn K mainGlobals "_law_due" =some (some (.ref f40))) (l40:K.lookup f40=some ⟨oc40,od40,.func (PySem.W.fnOf "_law_due" "_law_due" (zaw zcZ) (zau zcZ) (zah zcZ) .none kV40 dc40 pm40 an40 cd40 ct40),sl40⟩) (c40:PySem.W.codeIn K cd40 "_law_due" =true) (k40:PySem.W.keepIn K (.ref f40)=true)
  (a41:PySem.W.nsIn K mainGlobals "law" =some (some (.ref f41))) (l41:K.lookup f41=some ⟨oc41,od41,.func (PySem.W.fnOf "law" "law" (zaw zg0) (zau zg0) (zah zg0) .none kV41 dc41 pm41 an41 cd41 ct41),sl41⟩) (c41:PySem.W.codeIn K cd41 "law" =true) (k41:PySem.W.keepIn K (.ref f41)=true)
  (z1:PySem.W.nsIn K mainGlobals "all" =some none)
  (z2:PySem.W.nsIn K mainGlobals "dict" =some none)
  (z3:PySem.W.nsIn K mainGlobals "enumerate" =some none)
  (z4:PySem.W.nsIn K mainGlobals "int" =some none)
  (z5:PySem.W.nsIn K mainGlobals "len" =some none)
  (z6:PySem.W.nsIn K mainGlobals "max" =some none)
  (z7:PySem.W.nsIn K mainGlobals "min" =some none)
  (z8:PySem.W.nsIn K mainGlobals "range" =some none)
  (z9:PySem.W.nsIn K mainGlobals "set" =some none)
  (z10:PySem.W.nsIn K mainGlobals "sorted" =some none)
  (z11:PySem.W.nsIn K mainGlobals "sum" =some none)
  (z12:PySem.W.nsIn K mainGlobals "tuple" =some none)
  (z13:PySem.W.nsIn K mainGlobals "zip" =some none)
  {u1_:Addr} (au1:PySem.W.nsIn K mainGlobals "FOLDED_KINDS" =some (some (.ref u1_))) (ku1:TupK K u1_ ["and","or","odd"])
  :∃ fd:FuncData,(∀ (s:Shared) (v:Value),BindsTo s fd ⟨[v],[]⟩ [("script",v)])∧∀ base:Heap,K.In base→base.Ns mainGlobals mg→FnOk l.prog w K mg base CX0 16 fa fd ["script"] (zkb K):=by
 have e:=hfa.symm.trans (PySem.W.mg_of X G a41)
 cases e
 have F1:=zaW (st:=zco) l1 c1 k1
 have b1:=F1.binds (ps:=["works"]) fun _ _ _ _ _ _ us hl=>by obtain ⟨x0,e⟩:=zg2 hl;subst e;rfl
 have F2:=zi6 (st:=zb5) l2 c2 k2
 have b2:=F2.binds (ps:=["kind","worths","ones"]) (ds:=[]) fun _ _ _ _ _ _ s us X hl=>match us,hl with | [_,_,_],_=>PySem.W.binds_K X rfl v2 rfl rfl rfl
 have e2:=F2.binds (ps:=["kind","worths","ones"]) (ds:=[.int 1 kT2]) fun _ _ _ _ _ _ s us X hl=>match us,(show us.length=2 by rw [List.length_append] at hl;exact Nat.succ.inj hl) with | [_,_],_=>PySem.W.binds_K X rfl v2 rfl rfl rfl
 have F3:=zaW (st:=zbU) l3 c3 k3
 have b3:=F3.binds (ps:=["works"]) fun _ _ _ _ _ _ us hl=>by obtain ⟨x0,e⟩:=zg2 hl;subst e;rfl
 have F4:=zaW (st:=zbz) l4 c4 k4
 have b4:=F4.binds (ps:=["works","faults"]) fun _ _ _ _ _ _ us hl=>by obtain ⟨x0,x1,e⟩:=zfO hl;subst e;rfl
 have F5:=zi6 (st:=zbP) l5 c5 k5
 have b5:=F5.binds (ps:=["works","stuck","row","ones"]) (ds:=[]) fun _ _ _ _ _ _ s us X hl=>match us,hl with | [_,_,_,_],_=>PySem.W.binds_K X rfl v5 rfl rfl rfl
 have e5:=F5.binds (ps:=["works","stuck","row","ones"]) (ds:=[.int 1 kT5]) fun _ _ _ _ _ _ s us X hl=>match us,(show us.length=3 by rw [List.length_append] at hl;exact Nat.succ.inj hl) with | [_,_,_],_=>PySem.W.binds_K X rfl v5 rfl rfl rfl
 have F6:=zaW (st:=zcc) l6 c6 k6
 have b6:=F6.binds (ps:=["stuck","gate","worths"]) fun _ _ _ _ _ _ us hl=>by obtain ⟨x0,x1,x2,e⟩:=ze8 hl;subst e;rfl
 have F7:=zi6 (st:=zbB) l7 c7 k7
 have b7:=F7.binds (ps:=["works","stuck","row","ones"]) (ds:=[]) fun _ _ _ _ _ _ s us X hl=>match us,hl with | [_,_,_,_],_=>PySem.W.binds_K X rfl v7 rfl rfl rfl
 have e7:=F7.binds (ps:=["works","stuck","row","ones"]) (ds:=[.int 1 kT7]) fun _ _ _ _ _ _ s us X hl=>match us,(show us.length=3 by rw [List.length_append] at hl;exact Nat.succ.inj hl) with | [_,_,_],_=>PySem.W.binds_K X rfl v7 rfl rfl rfl
 have F8:=zaW (st:=zbO) l8 c8 k8
 have b8:=F8.binds (ps:=["works","stuck","known"]) fun _ _ _ _ _ _ us hl=>by obtain ⟨x0,x1,x2,e⟩:=ze8 hl;subst e;rfl
 have F9:=zaW (st:=zbK) l9 c9 k9
 have b9:=F9.binds (ps:=["worth"]) fun _ _ _ _ _ _ us hl=>by obtain ⟨x0,e⟩:=zg2 hl;subst e;rfl
 have F10:=zaW (st:=zcl) l10 c10 k10
 have b10:=F10.binds (ps:=["stuck","gate","wires"]) fun _ _ _ _ _ _ us hl=>by obtain ⟨x0,x1,x2,e⟩:=ze8 hl;subst e;rfl
 have F11:=zaW (st:=zca) l11 c11 k11
 have b11:=F11.binds (ps:=["pairs","stuck","place"]) fun _ _ _ _ _ _ us hl=>by obtain ⟨x0,x1,x2,e⟩:=ze8 hl;subst e;rfl
 have F12:=zaW (st:=zb8) l12 c12 k12
 have b12:=F12.binds (ps:=["kind","legs"]) fun _ _ _ _ _ _ us hl=>by obtain ⟨x0,x1,e⟩:=zfO hl;subst e;rfl
 have F13:=zaW (st:=zby) l13 c13 k13
 have b13:=F13.binds (ps:=["legs"]) fun _ _ _ _ _ _ us hl=>by obtain ⟨x0,e⟩:=zg2 hl;subst e;rfl
 have F14:=zaW (st:=zbS) l14 c14 k14
 have b14:=F14.binds (ps:=["kind","choice"]) fun _ _ _ _ _ _ us hl=>by obtain ⟨x0,x1,e⟩:=zfO hl;subst e;rfl
 have F15:=zaW (st:=zbi) l15 c15 k15
 have b15:=F15.binds (ps:=["works","stuck","known"]) fun _ _ _ _ _ _ us hl=>by obtain ⟨x0,x1,x2,e⟩:=ze8 hl;subst e;rfl
 have F16:=zaW (st:=zcg) l16 c16 k16
 have b16:=F16.binds (ps:=["pairs"]) fun _ _ _ _ _ _ us hl=>by obtain ⟨x0,e⟩:=zg2 hl;subst e;rfl
 have F17:=zaW (st:=zbA) l17 c17 k17
 have b17:=F17.binds (ps:=["works","stuck"]) fun _ _ _ _ _ _ us hl=>by obtain ⟨x0,x1,e⟩:=zfO hl;subst e;rfl
 have F18:=zaW (st:=zbv) l18 c18 k18
 have b18:=F18.binds (ps:=["inputs"]) fun _ _ _ _ _ _ us hl=>by obtain ⟨x0,e⟩:=zg2 hl;subst e;rfl
 have F19:=zaW (st:=zbC) l19 c19 k19
 have b19:=F19.binds (ps:=["works","stuck","others"]) fun _ _ _ _ _ _ us hl=>by obtain ⟨x0,x1,x2,e⟩:=ze8 hl;subst e;rfl
 have F20:=zaW (st:=za7) l20 c20 k20
 have b20:=F20.binds (ps:=["seen","others"]) fun _ _ _ _ _ _ us hl=>by obtain ⟨x0,x1,e⟩:=zfO hl;subst e;rfl
 have F21:=zaW (st:=zb7) l21 c21 k21
 have b21:=F21.binds (ps:=["works","faults"]) fun _ _ _ _ _ _ us hl=>by obtain ⟨x0,x1,e⟩:=zfO hl;subst e;rfl
 have F22:=zaW (st:=zcn) l22 c22 k22
 have b22:=F22.binds (ps:=["works","faults"]) fun _ _ _ _ _ _ us hl=>by obtain ⟨x0,x1,e⟩:=zfO hl;subst e;rfl
 have F23:=zaW (st:=zbu) l23 c23 k23
 have b23:=F23.binds (ps:=["works","stuck","known"]) fun _ _ _ _ _ _ us hl=>by obtain ⟨x0,x1,x2,e⟩:=ze8 hl;subst e;rfl
 have F24:=zaW (st:=zcm) l24 c24 k24
 have b24:=F24.binds (ps:=["works","faults","others"]) fun _ _ _ _ _ _ us hl=>by obtain ⟨x0,x1,x2,e⟩:=ze8 hl;subst e;rfl
 have F25:=zaW (st:=zbQ) l25 c25 k25
 have b25:=F25.binds (ps:=["script","k"]) fun _ _ _ _ _ _ us hl=>by obtain ⟨x0,x1,e⟩:=zfO hl;subst e;rfl
 have F26:=zaW (st:=zbT) l26 c26 k26
 have b26:=F26.binds (ps:=["cell","many","base"]) fun _ _ _ _ _ _ us hl=>by obtain ⟨x0,x1,x2,e⟩:=ze8 hl;subst e;rfl
 have F27:=zaW (st:=zcF) l27 c27 k27
 have b27:=F27.binds (ps:=["row","wires","two"]) fun _ _ _ _ _ _ us hl=>by obtain ⟨x0,x1,x2,e⟩:=ze8 hl;subst e;rfl
 have F28:=zaW (st:=zcj) l28 c28 k28
 have b28:=F28.binds (ps:=["script","most_inputs","most_gates","most_of_two"]) fun _ _ _ _ _ _ us hl=>by obtain ⟨x0,x1,x2,x3,e⟩:=zom hl;subst e;rfl
 have F29:=zaW (st:=zcp) l29 c29 k29
 have b29:=F29.binds (ps:=["kind","legs"]) fun _ _ _ _ _ _ us hl=>by obtain ⟨x0,x1,e⟩:=zfO hl;subst e;rfl
 have F30:=zaW (st:=zb6) l30 c30 k30
 have b30:=F30.binds (ps:=["faults"]) fun _ _ _ _ _ _ us hl=>by obtain ⟨x0,e⟩:=zg2 hl;subst e;rfl
 have F31:=zaW (st:=zck) l31 c31 k31
 have b31:=F31.binds (ps:=["works","stuck","row"]) fun _ _ _ _ _ _ us hl=>by obtain ⟨x0,x1,x2,e⟩:=ze8 hl;subst e;rfl
 have F32:=zaW (st:=zbR) l32 c32 k32
 have b32:=F32.binds (ps:=["works","faults","row"]) fun _ _ _ _ _ _ us hl=>by obtain ⟨x0,x1,x2,e⟩:=ze8 hl;subst e;rfl
 have F33:=zaW (st:=zcH) l33 c33 k33
 have b33:=F33.binds (ps:=["inputs"]) fun _ _ _ _ _ _ us hl=>by obtain ⟨x0,e⟩:=zg2 hl;subst e;rfl
 have F34:=zaW (st:=zaY) l34 c34 k34
 have b34:=F34.binds (ps:=["works"]) fun _ _ _ _ _ _ us hl=>by obtain ⟨x0,e⟩:=zg2 hl;subst e;rfl
 have F35:=zaW (st:=za0) l35 c35 k35
 have b35:=F35.binds (ps:=["works","row"]) fun _ _ _ _ _ _ us hl=>by obtain ⟨x0,x1,e⟩:=zfO hl;subst e;rfl
 have F36:=zaW (st:=zci) l36 c36 k36
 have b36:=F36.binds (ps:=["works","faults"]) fun _ _ _ _ _ _ us hl=>by obtain ⟨x0,x1,e⟩:=zfO hl;subst e;rfl
 have F37:=zaW (st:=za6) l37 c37 k37
 have b37:=F37.binds (ps:=["wire","one","other"]) fun _ _ _ _ _ _ us hl=>by obtain ⟨x0,x1,x2,e⟩:=ze8 hl;subst e;rfl
 have F38:=zaW (st:=zbx) l38 c38 k38
 have b38:=F38.binds (ps:=["one","other"]) fun _ _ _ _ _ _ us hl=>by obtain ⟨x0,x1,e⟩:=zfO hl;subst e;rfl
 have F39:=zaW (st:=zch) l39 c39 k39
 have b39:=F39.binds (ps:=["one","other","faults","second"]) fun _ _ _ _ _ _ us hl=>by obtain ⟨x0,x1,x2,x3,e⟩:=zom hl;subst e;rfl
 have F40:=zaW (st:=zcZ) l40 c40 k40
 have b40:=F40.binds (ps:=["one","other","faults","others"]) fun _ _ _ _ _ _ us hl=>by obtain ⟨x0,x1,x2,x3,e⟩:=zom hl;subst e;rfl
 have F41:=zaW (st:=zg0) l41 c41 k41
 have b41:=F41.binds (ps:=["script"]) fun _ _ _ _ _ _ us hl=>by obtain ⟨x0,e⟩:=zg2 hl;subst e;rfl
 refine ⟨PySem.W.fnOf "law" "law" (zaw zg0) (zau zg0) (zah zg0) .none kV41 dc41 pm41 an41 cd41 ct41,fun s v=>.of_eq rfl,fun base _ _=>?_⟩
 exact ok_law (t:=⟨f1,_,f2,_,T2,kT2,f3,_,f4,_,f5,_,T5,kT5,f6,_,f7,_,T7,kT7,f8,_,f9,_,f10,_,f11,_,f12,_,f13,_,f14,_,f15,_,f16,_,f17,_,f18,_,f19,_,f20,_,f21,_,f22,_,f23,_,f24,_,f25,_,f26,_,f27,_,f28,_,f29,_,f30,_,f31,_,f32,_,f33,_,f34,_,f35,_,f36,_,f37,_,f38,_,f39,_,f40,_,_,_,u1_⟩) ⟨⟨F1,b1,PySem.W.mg_of X G a1⟩,⟨F2,b2,e2,PySem.W.mg_of X G a2⟩,⟨F3,b3,PySem.W.mg_of X G a3⟩,⟨F4,b4,PySem.W.mg_of X G a4⟩,⟨F5,b5,e5,PySem.W.mg_of X G a5⟩,⟨F6,b6,PySem.W.mg_of X G a6⟩,⟨F7,b7,e7,PySem.W.mg_of X G a7⟩,⟨F8,b8,PySem.W.mg_of X G a8⟩,⟨F9,b9,PySem.W.mg_of X G a9⟩,⟨F10,b10,PySem.W.mg_of X G a10⟩,⟨F11,b11,PySem.W.mg_of X G a11⟩,⟨F12,b12,PySem.W.mg_of X G a12⟩,⟨F13,b13,PySem.W.mg_of X G a13⟩,⟨F14,b14,PySem.W.mg_of X G a14⟩,⟨F15,b15,PySem.W.mg_of X G a15⟩,⟨F16,b16,PySem.W.mg_of X G a16⟩,⟨F17,b17,PySem.W.mg_of X G a17⟩,⟨F18,b18,PySem.W.mg_of X G a18⟩,⟨F19,b19,PySem.W.mg_of X G a19⟩,⟨F20,b20,PySem.W.mg_of X G a20⟩,⟨F21,b21,PySem.W.mg_of X G a21⟩,⟨F22,b22,PySem.W.mg_of X G a22⟩,⟨F23,b23,PySem.W.mg_of X G a23⟩,⟨F24,b24,PySem.W.mg_of X G a24⟩,⟨F25,b25,PySem.W.mg_of X G a25⟩,⟨F26,b26,PySem.W.mg_of X G a26⟩,⟨F27,b27,PySem.W.mg_of X G a27⟩,⟨F28,b28,PySem.W.mg_of X G a28⟩,⟨F29,b29,PySem.W.mg_of X G a29⟩,⟨F30,b30,PySem.W.mg_of X G a30⟩,⟨F31,b31,PySem.W.mg_of X G a31⟩,⟨F32,b32,PySem.W.mg_of X G a32⟩,⟨F33,b33,PySem.W.mg_of X G a33⟩,⟨F34,b34,PySem.W.mg_of X G a34⟩,⟨F35,b35,PySem.W.mg_of X G a35⟩,⟨F36,b36,PySem.W.mg_of X G a36⟩,⟨F37,b37,PySem.W.mg_of X G a37⟩,⟨F38,b38,PySem.W.mg_of X G a38⟩,⟨F39,b39,PySem.W.mg_of X G a39⟩,⟨F40,b40,PySem.W.mg_of X G a40⟩,⟨F41,b41,PySem.W.mg_of X G a41⟩,PySem.W.mg_none_of X G z1,PySem.W.mg_none_of X G z2,PySem.W.mg_none_of X G z3,PySem.W.mg_none_of X G z4,PySem.W.mg_none_of X G z5,PySem.W.mg_none_of X G z6,PySem.W.mg_none_of X G z7,PySem.W.mg_none_of X G z8,PySem.W.mg_none_of X G z9,PySem.W.mg_none_of X G z10,PySem.W.mg_none_of X G z11,PySem.W.mg_none_of X G z12,PySem.W.mg_none_of X G z13,PySem.W.mg_of X G au1,ku1⟩
theorem walk {l:PySem.W.OpenLaw}{q:Program}{loose:List Str}{XP:(Str→Option Value)→Heap→Prop}{YP:World→Heap→Prop}{d:DefRec}{K:Params→PySem.W.Frag}(hn:l.most=some 63)(hdf:d.params.defaults= [])
  (hY:∀ (w:World) (h:Heap),YP w h→(K w.params).In h)
  (F:∀ (w:World) (mg:Str→Option Value) (fa:Addr) (h:Heap),(K w.params).In h→h.Ns mainGlobals mg→mg d.name=some (.ref fa)→
   ∃ fd:FuncData,(∀ (s:Shared) (u:Value),BindsTo s fd ⟨[u],[]⟩ [("script",u)])∧∀ base:Heap,(K w.params).In base→base.Ns mainGlobals mg→FnOk l.prog w (K w.params) mg base CX0 16 fa fd ["script"] (zkb (K w.params))):
  PySem.W.WalkO q loose XP YP l.row.toRowW d [] (fun f vs=>PySem.call f vs):=
 L2.zor (n:=63) (k:=16) (x:="script") (CX:=fun _=>CX0) (sp:=fun w=>zkb (K w.params)) hn (by decide) hdf ⟨rfl,by decide,by decide,rfl⟩ hY F (fun _ _ a ns hl _ hS=>⟨a,ns,rfl,hS,hl,fun _=>rfl⟩) fun _ _ _ _ _ z=>z
end My
open PySem PySem.W PyProof.Rows
set_option maxRecDepth 100000 in
set_option maxHeartbeats 0 in
theorem PySem.Challenge.cw_stuckwires_k26_whole_works_side_by_side_holds : PySem.Challenge.rw_stuckwires_k26_whole_works_side_by_side.Holds := by
 w_on;o_law
 refine PySem.W.holds_open (q:=My.view) (loose:=["gate_worth","worths_with","outputs_with"])
  (Xt:=fun s=>xlAt My.view [] s && recOk (RowW.records (OpenRow.toRowW PySem.Challenge.rw_stuckwires_k26_whole_works_side_by_side.row)) s) (XP:=XL My.view [])
  (Yf:=Hook.obs (kHook My.part My.zh9 (fun _=>by kernel_rfl))) (Ya:=Hook.val (kHook My.part My.zh9 (fun _=>by kernel_rfl)))
  (YP:=Hook.says (kHook My.part My.zh9 (fun _=>by kernel_rfl))) (N:=3546) ?hl (Hook.of _) (Hook.keeps _)
  (fun s e=>xl_of s (Bool.and_eq_true_iff.mp e).1) XL.keeps (by rfl) (by rfl) (by rfl)
  (fun s e=>recFacts_of (Bool.and_eq_true_iff.mp e).2) (by rfl) (by first | assumption | decide+kernel) (by decide+kernel)
  ⟨rfl,rfl,rfl,rfl,rfl,by decide+kernel⟩ ?hw ?hc
 case hl=>exact My.hl0
 case hw=>w_witness2
 k_fill
 refine My.walk (l:=PySem.Challenge.rw_stuckwires_k26_whole_works_side_by_side) rfl rfl (fun w h Y=>PySem.W.kIn_of Y) ?F
 case F=>
  intro w mg fa h KX G hmg
  refine' My.all_mk KX G hmg ?a1 ?l1 ?c1 ?k1 ?a2 ?l2 ?c2 ?k2 ?v2 ?a3 ?l3 ?c3 ?k3 ?a4 ?l4 ?c4 ?k4 ?a5 ?l5 ?c5 ?k5 ?v5 ?a6 ?l6 ?c6 ?k6 ?a7 ?l7 ?c7 ?k7 ?v7 ?a8 ?l8 ?c8 ?k8 ?a9 ?l9 ?c9 ?k9 ?a10 ?l10 ?c10 ?k10 ?a11 ?l11 ?c11 ?k11 ?a12 ?l12 ?c12 ?k12 ?a13 ?l13 ?c13 ?k13 ?a14 ?l14 ?c14 ?k14 ?a15 ?l15 ?c15 ?k15 ?a16 ?l16 ?c16 ?k16 ?a17 ?l17 ?c17 ?k17 ?a18 ?l18 ?c18 ?k18 ?a19 ?l19 ?c19 ?k19 ?a20 ?l20 ?c20 ?k20 ?a21 ?l21 ?c21 ?k21 ?a22 ?l22 ?c22 ?k22 ?a23 ?l23 ?c23 ?k23 ?a24 ?l24 ?c24 ?k24 ?a25 ?l25 ?c25 ?k25 ?a26 ?l26 ?c26 ?k26 ?a27 ?l27 ?c27 ?k27 ?a28 ?l28 ?c28 ?k28 ?a29 ?l29 ?c29 ?k29 ?a30 ?l30 ?c30 ?k30 ?a31 ?l31 ?c31 ?k31 ?a32 ?l32 ?c32 ?k32 ?a33 ?l33 ?c33 ?k33 ?a34 ?l34 ?c34 ?k34 ?a35 ?l35 ?c35 ?k35 ?a36 ?l36 ?c36 ?k36 ?a37 ?l37 ?c37 ?k37 ?a38 ?l38 ?c38 ?k38 ?a39 ?l39 ?c39 ?k39 ?a40 ?l40 ?c40 ?k40 ?a41 ?l41 ?c41 ?k41 ?z1 ?z2 ?z3 ?z4 ?z5 ?z6 ?z7 ?z8 ?z9 ?z10 ?z11 ?z12 ?z13 ?au1 ?ku1
  (case a1=>k_is)
  (case l1=>k_is)
  (case c1=>k_is)
  (case k1=>k_is)
  (case a2=>k_is)
  (case l2=>k_is)
  (case c2=>k_is)
  (case k2=>k_is)
  (case v2=>k_is)
  (case a3=>k_is)
  (case l3=>k_is)
  (case c3=>k_is)
  (case k3=>k_is)
  (case a4=>k_is)
  (case l4=>k_is)
  (case c4=>k_is)
  (case k4=>k_is)
  (case a5=>k_is)
  (case l5=>k_is)
  (case c5=>k_is)
  (case k5=>k_is)
  (case v5=>k_is)
  (case a6=>k_is)
  (case l6=>k_is)
  (case c6=>k_is)
  (case k6=>k_is)
  (case a7=>k_is)
  (case l7=>k_is)
  (case c7=>k_is)
  (case k7=>k_is)
  (case v7=>k_is)
  (case a8=>k_is)
  (case l8=>k_is)
  (case c8=>k_is)
  (case k8=>k_is)
  (case a9=>k_is)
  (case l9=>k_is)
  (case c9=>k_is)
  (case k9=>k_is)
  (case a10=>k_is)
  (case l10=>k_is)
  (case c10=>k_is)
  (case k10=>k_is)
  (case a11=>k_is)
  (case l11=>k_is)
  (case c11=>k_is)
  (case k11=>k_is)
  (case a12=>k_is)
  (case l12=>k_is)
  (case c12=>k_is)
  (case k12=>k_is)
  (case a13=>k_is)
  (case l13=>k_is)
  (case c13=>k_is)
  (case k13=>k_is)
  (case a14=>k_is)
  (case l14=>k_is)
  (case c14=>k_is)
  (case k14=>k_is)
  (case a15=>k_is)
  (case l15=>k_is)
  (case c15=>k_is)
  (case k15=>k_is)
  (case a16=>k_is)
  (case l16=>k_is)
  (case c16=>k_is)
  (case k16=>k_is)
  (case a17=>k_is)
  (case l17=>k_is)
  (case c17=>k_is)
  (case k17=>k_is)
  (case a18=>k_is)
  (case l18=>k_is)
  (case c18=>k_is)
  (case k18=>k_is)
  (case a19=>k_is)
  (case l19=>k_is)
  (case c19=>k_is)
  (case k19=>k_is)
  (case a20=>k_is)
  (case l20=>k_is)
  (case c20=>k_is)
  (case k20=>k_is)
  (case a21=>k_is)
  (case l21=>k_is)
  (case c21=>k_is)
  (case k21=>k_is)
  (case a22=>k_is)
  (case l22=>k_is)
  (case c22=>k_is)
  (case k22=>k_is)
  (case a23=>k_is)
  (case l23=>k_is)
  (case c23=>k_is)
  (case k23=>k_is)
  (case a24=>k_is)
  (case l24=>k_is)
  (case c24=>k_is)
  (case k24=>k_is)
  (case a25=>k_is)
  (case l25=>k_is)
  (case c25=>k_is)
  (case k25=>k_is)
  (case a26=>k_is)
  (case l26=>k_is)
  (case c26=>k_is)
  (case k26=>k_is)
  (case a27=>k_is)
  (case l27=>k_is)
  (case c27=>k_is)
  (case k27=>k_is)
  (case a28=>k_is)
  (case l28=>k_is)
  (case c28=>k_is)
  (case k28=>k_is)
  (case a29=>k_is)
  (case l29=>k_is)
  (case c29=>k_is)
  (case k29=>k_is)
  (case a30=>k_is)
  (case l30=>k_is)
  (case c30=>k_is)
  (case k30=>k_is)
  (case a31=>k_is)
  (case l31=>k_is)
  (case c31=>k_is)
  (case k31=>k_is)
  (case a32=>k_is)
  (case l32=>k_is)
  (case c32=>k_is)
  (case k32=>k_is)
  (case a33=>k_is)
  (case l33=>k_is)
  (case c33=>k_is)
  (case k33=>k_is)
  (case a34=>k_is)
  (case l34=>k_is)
  (case c34=>k_is)
  (case k34=>k_is)
  (case a35=>k_is)
  (case l35=>k_is)
  (case c35=>k_is)
  (case k35=>k_is)
  (case a36=>k_is)
  (case l36=>k_is)
  (case c36=>k_is)
  (case k36=>k_is)
  (case a37=>k_is)
  (case l37=>k_is)
  (case c37=>k_is)
  (case k37=>k_is)
  (case a38=>k_is)
  (case l38=>k_is)
  (case c38=>k_is)
  (case k38=>k_is)
  (case a39=>k_is)
  (case l39=>k_is)
  (case c39=>k_is)
  (case k39=>k_is)
  (case a40=>k_is)
  (case l40=>k_is)
  (case c40=>k_is)
  (case k40=>k_is)
  (case a41=>k_is)
  (case l41=>k_is)
  (case c41=>k_is)
  (case k41=>k_is)
  (case z1=>k_is)
  (case z2=>k_is)
  (case z3=>k_is)
  (case z4=>k_is)
  (case z5=>k_is)
  (case z6=>k_is)
  (case z7=>k_is)
  (case z8=>k_is)
  (case z9=>k_is)
  (case z10=>k_is)
  (case z11=>k_is)
  (case z12=>k_is)
  (case z13=>k_is)
  (case au1=>k_is)
  (case ku1=>(unfold L2.TupK;kernel_rfl))
