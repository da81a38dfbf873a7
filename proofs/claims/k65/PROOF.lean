import PyProof.Rows.All
import Wide.All
import OpenK.AllK
import Wide.FinOn
import Lean
import PyProof.EqAt
import PyProof.EqKinds
import PyProof.TupleCall
import PySem.Challenge.RW_stuckwires_k65_rows_put_and_run
set_option Elab.async false
set_option linter.all false
set_option maxRecDepth 100000
set_option genSizeOf false
local macro_rules | `(tactic| omega) => `(tactic| lia)
namespace L2
open PySem
noncomputable def defArgs (s : Stmt) : Arguments := match s with
  | .FunctionDef _ a _ _ _ _ _ _ _ _ => a
  | _ => { posonlyargs := [], args := [], vararg := none, kwonlyargs := [], kw_defaults := [], kwarg := none, defaults := [] }
noncomputable def defBody (s : Stmt) : List Stmt := match s with
  | .FunctionDef _ _ b _ _ _ _ _ _ _ => b
  | _ => []
noncomputable def defScope (s : Stmt) : Scope := match s with
  | .FunctionDef _ _ _ _ _ _ sc _ _ _ => sc
  | _ => { kind := .function, names := [], isGenerator := false, isCoroutine := false }
end L2
namespace My
open PySem L2
noncomputable def top (i : Nat) : Stmt := PySem.Challenge.pw_stuckwires_k65_rows_put_and_run.main.body.getD i (.Pass ⟨0, 0, 0, 0⟩)
noncomputable def clsBody (s : Stmt) : List Stmt := match s with
  | .ClassDef _ _ _ b .. => b
  | _ => []
noncomputable abbrev mt (i j : Nat) : Stmt := (clsBody (top i)).getD j (.Pass ⟨0, 0, 0, 0⟩)
noncomputable abbrev s_works_of : Stmt := top 10
noncomputable abbrev s_check_gate : Stmt := top 11
noncomputable abbrev s_is_kind : Stmt := top 12
noncomputable abbrev s_are_wires_below : Stmt := top 13
noncomputable abbrev s_wire_worths : Stmt := top 14
noncomputable abbrev s_outputs_at : Stmt := top 15
noncomputable abbrev s_check_row : Stmt := top 17
noncomputable abbrev s_gate_worth : Stmt := top 18
noncomputable abbrev s_read_works : Stmt := top 72
noncomputable abbrev s_read_row : Stmt := top 75
noncomputable abbrev s_read_number : Stmt := top 76
noncomputable abbrev s_read_order : Stmt := top 79
noncomputable abbrev s_read_things : Stmt := top 80
noncomputable abbrev s_read_worths : Stmt := top 82
noncomputable abbrev s_told_of : Stmt := top 85
noncomputable abbrev s_shown : Stmt := top 87
noncomputable abbrev s_law_stir : Stmt := top 89
noncomputable abbrev s_law_deck : Stmt := top 90
noncomputable abbrev s_law_take : Stmt := top 91
noncomputable abbrev s_law_legs : Stmt := top 92
noncomputable abbrev s_law_works : Stmt := top 93
noncomputable abbrev s_law_gate : Stmt := top 95
noncomputable abbrev s_law_worths : Stmt := top 96
noncomputable abbrev s_law_row : Stmt := top 97
noncomputable abbrev s_law_text : Stmt := top 98
noncomputable abbrev s_law_told : Stmt := top 99
noncomputable abbrev s_law_put : Stmt := top 100
noncomputable abbrev s_law_figures : Stmt := top 101
noncomputable abbrev s_law_runs : Stmt := top 102
noncomputable abbrev s_law : Stmt := top 103
noncomputable abbrev s_Desk___init__ : Stmt := mt 84 0
noncomputable abbrev s_Desk_say : Stmt := mt 84 1
noncomputable abbrev s_Desk_keep_rows : Stmt := mt 84 2
end My
namespace My
open PySem PySem.W
noncomputable abbrev dE (P : Params) (x : Str) (n : Nat) (v : Value) : DictEntry := .mk (PyData.keyHash P x) (.str x n) v
noncomputable abbrev tO (vs : Array Value) : Obj := .mk (.type "tuple") none (.seq vs) #[]
noncomputable abbrev fO (x : Str) (s : Stmt) (dV kV doc pm : Value) (an : Option Addr) (cd ct : Value) : Obj := .mk (.type "function") none (.func (PySem.W.fnOf x x (L2.defArgs s) (L2.defBody s) (L2.defScope s) dV kV doc pm an cd ct)) #[]
noncomputable abbrev fM (x y : Str) (s : Stmt) (dV kV doc pm : Value) (an : Option Addr) (cd ct : Value) : Obj := .mk (.type "function") none (.func (PySem.W.fnOf x y (L2.defArgs s) (L2.defBody s) (L2.defScope s) dV kV doc pm an cd ct)) #[]
noncomputable abbrev fD (x : Str) (s : Stmt) (f : Str) (n c : Nat) : Obj := fO x s .none .none .none (.str f n) none (.ref c) .none
noncomputable abbrev cO (x : Str) (n : Nat) (l a : Int) (r : Nat) (u v : Value) (q : Nat) (t : Nat) : Obj := .mk (.type "code") none (.fields #[.str x n, .str x (n + 1), .str "/claim/cut.py" (n + 2), .int l 0, .int a 0, .int 0 0, .int 0 0, .int 3 0, .ref r, .bool true, .int 181 0, .ref (r + 1), .none, u, v, .ref q, .int t 0, .int l 0, .str "/claim/cut.py" (t + 1)]) #[]
noncomputable def part : Params → Frag := fun P =>
  (nat_lit 3, PySem.Obj.mk (.type "dict") none (PySem.Data.dict #[dE P "__name__" 165 (.str "law_stuckwires_k65_rows_put_and_run" 922), dE P "__doc__" 166 .none, dE P "__package__" 167 .none, dE P "__loader__" 168 (.builtin "__main__.__loader__#opaque"), dE P "__spec__" 169 .none, dE P "__annotations__" 170 (.ref 6), dE P "__builtins__" 171 (.ref 4), dE P "__file__" 173 (.str "/claim/cut.py" 172), dE P "__cached__" 174 .none, dE P "StuckError" 206 (.ref 24), dE P "NoWorks" 222 (.ref 37), dE P "NoRow" 238 (.ref 49), dE P "NoFault" 254 (.ref 61), dE P "NoText" 270 (.ref 73), dE P "NoOrder" 286 (.ref 85), dE P "TooMany" 302 (.ref 97), dE P "LEG_BOUNDS" 333 (.ref 100), dE P "works_of" 344 (.ref 114), dE P "check_gate" 354 (.ref 121), dE P "is_kind" 361 (.ref 128), dE P "are_wires_below" 367 (.ref 133), dE P "wire_worths" 373 (.ref 138), dE P "outputs_at" 379 (.ref 143), dE P "every_row" 385 (.ref 148), dE P "check_row" 391 (.ref 153), dE P "gate_worth" 403 (.ref 161), dE P "every_fault" 411 (.ref 166), dE P "stuck_places" 423 (.ref 173), dE P "worths_with" 430 (.ref 179), dE P "leg_worths" 436 (.ref 184), dE P "outputs_with" 443 (.ref 190), dE P "outputs_seen" 451 (.ref 195), dE P "rows_at_once" 457 (.ref 200), dE P "outputs_in" 463 (.ref 205), dE P "seen_of_each" 472 (.ref 212), dE P "first_unlike" 482 (.ref 219), dE P "unlike_numbers" 488 (.ref 224), dE P "finding_rows" 500 (.ref 231), dE P "MOST_INPUTS" 504 (.int 3 503), dE P "fewest_rows" 510 (.ref 236), dE P "check_inputs" 517 (.ref 243), dE P "meets_each" 523 (.ref 248), dE P "meet" 529 (.ref 253), dE P "fewest_numbers" 535 (.ref 258), dE P "longer_choices" 541 (.ref 263), dE P "WELL" 545 (.ref 264), dE P "what_fits" 553 (.ref 271), dE P "next_row" 563 (.ref 278), dE P "seen_of_fitting" 574 (.ref 285), dE P "seen_of_all" 582 (.ref 292), dE P "row_number" 591 (.ref 299), dE P "left_behind" 597 (.ref 304), dE P "next_number" 603 (.ref 309), dE P "parts_at" 615 (.ref 316), dE P "first_test" 625 (.ref 323), dE P "parted_at" 636 (.ref 330), dE P "CONSTANTS" 641 (.ref 331), dE P "is_spare" 650 (.ref 338), dE P "is_bare" 656 (.ref 343), dE P "made_less" 663 (.ref 350), dE P "gate_faults" 669 (.ref 355), dE P "wire_of" 677 (.ref 362), dE P "constants_stuck" 687 (.ref 369), dE P "stuck_unseen" 700 (.ref 376), dE P "stuck_for_good" 706 (.ref 381), dE P "leg_behind" 716 (.ref 388), dE P "wire_behind" 725 (.ref 395), dE P "without_unread" 731 (.ref 400), dE P "read_wires" 740 (.ref 407), dE P "FIGURES" 744 (.str "0123456789" 743), dE P "show_works" 750 (.ref 412), dE P "read_works" 756 (.ref 417), dE P "read_fault" 766 (.ref 424), dE P "shown_row" 772 (.ref 429), dE P "read_row" 778 (.ref 434), dE P "read_number" 787 (.ref 441), dE P "WORDS_ALONE" 795 (.ref 442), dE P "read_order" 803 (.ref 449), dE P "read_things" 809 (.ref 454), dE P "two_parts" 818 (.ref 461), dE P "read_worths" 824 (.ref 466), dE P "Desk" 898 (.ref 511), dE P "told_of" 907 (.ref 522), dE P "shown_or" 915 (.ref 529), dE P "shown" 921 (.ref 534), dE P "_law_stir" 932 (.ref 541), dE P "_law_deck" 939 (.ref 548), dE P "_law_take" 948 (.ref 555), dE P "_law_legs" 956 (.ref 562), dE P "_law_works" 962 (.ref 567), dE P "_law_copied" 969 (.ref 574), dE P "_law_gate" 975 (.ref 579), dE P "_law_worths" 994 (.ref 586), dE P "_law_row" 1000 (.ref 591), dE P "_law_text" 1013 (.ref 598), dE P "_law_told" 1025 (.ref 605), dE P "_law_put" 1031 (.ref 610), dE P "_law_figures" 1037 (.ref 615), dE P "_law_runs" 1043 (.ref 620), dE P "law" 1058 (.ref 627)] 100) #[]) ::
  (nat_lit 15, tO #[.type "ValueError"]) ::
  (nat_lit 22, tO #[]) ::
  (nat_lit 23, PySem.Obj.mk (.type "dict") none (PySem.Data.dict #[dE P "__module__" 196 (.str "stuckwires.errors" 187), dE P "__firstlineno__" 200 (.int 2 199), dE P "__static_attributes__" 201 (.ref 22), dE P "__weakref__" 203 (.ref 25), dE P "__doc__" 204 .none] 3) #[]) ::
  (nat_lit 24, PySem.Obj.mk (.type "type") none (PySem.Data.cls (PySem.ClassData.mk "StuckError" [.type "ValueError"] [.ref 24, .type "ValueError", .type "Exception", .type "BaseException", .type "object"] 23 "StuckError" Bool.true [] [.ref 37, .ref 49, .ref 61, .ref 73, .ref 85, .ref 97] Bool.false none Bool.false)) #[Option.some (.ref 15), none, Option.some (.str "StuckError" 189), Option.some (.str "StuckError" 197), Option.some (.builtin "ValueError.__new__"), Option.some (.bool Bool.true)]) ::
  (nat_lit 25, PySem.Obj.mk (.type "getset_descriptor") none (PySem.Data.fields #[.str "__weakref__" 202, .ref 24, .builtin "ExceptionGroup.__weakref__", .none]) #[]) ::
  (nat_lit 28, tO #[.ref 24]) ::
  (nat_lit 35, tO #[]) ::
  (nat_lit 36, PySem.Obj.mk (.type "dict") none (PySem.Data.dict #[dE P "__module__" 214 (.str "stuckwires.errors" 187), dE P "__firstlineno__" 218 (.int 4 217), dE P "__static_attributes__" 219 (.ref 35), dE P "__doc__" 220 .none] 2) #[]) ::
  (nat_lit 37, PySem.Obj.mk (.type "type") none (PySem.Data.cls (PySem.ClassData.mk "NoWorks" [.ref 24] [.ref 37, .ref 24, .type "ValueError", .type "Exception", .type "BaseException", .type "object"] 36 "NoWorks" Bool.true [] [] Bool.false none Bool.false)) #[Option.some (.ref 28), none, Option.some (.str "NoWorks" 207), Option.some (.str "NoWorks" 215), Option.some (.builtin "ValueError.__new__"), Option.some (.bool Bool.true)]) ::
  (nat_lit 40, tO #[.ref 24]) ::
  (nat_lit 47, tO #[]) ::
  (nat_lit 48, PySem.Obj.mk (.type "dict") none (PySem.Data.dict #[dE P "__module__" 230 (.str "stuckwires.errors" 187), dE P "__firstlineno__" 234 (.int 6 233), dE P "__static_attributes__" 235 (.ref 47), dE P "__doc__" 236 .none] 2) #[]) ::
  (nat_lit 49, PySem.Obj.mk (.type "type") none (PySem.Data.cls (PySem.ClassData.mk "NoRow" [.ref 24] [.ref 49, .ref 24, .type "ValueError", .type "Exception", .type "BaseException", .type "object"] 48 "NoRow" Bool.true [] [] Bool.false none Bool.false)) #[Option.some (.ref 40), none, Option.some (.str "NoRow" 223), Option.some (.str "NoRow" 231), Option.some (.builtin "ValueError.__new__"), Option.some (.bool Bool.true)]) ::
  (nat_lit 52, tO #[.ref 24]) ::
  (nat_lit 59, tO #[]) ::
  (nat_lit 60, PySem.Obj.mk (.type "dict") none (PySem.Data.dict #[dE P "__module__" 246 (.str "stuckwires.errors" 187), dE P "__firstlineno__" 250 (.int 8 249), dE P "__static_attributes__" 251 (.ref 59), dE P "__doc__" 252 .none] 2) #[]) ::
  (nat_lit 61, PySem.Obj.mk (.type "type") none (PySem.Data.cls (PySem.ClassData.mk "NoFault" [.ref 24] [.ref 61, .ref 24, .type "ValueError", .type "Exception", .type "BaseException", .type "object"] 60 "NoFault" Bool.true [] [] Bool.false none Bool.false)) #[Option.some (.ref 52), none, Option.some (.str "NoFault" 239), Option.some (.str "NoFault" 247), Option.some (.builtin "ValueError.__new__"), Option.some (.bool Bool.true)]) ::
  (nat_lit 64, tO #[.ref 24]) ::
  (nat_lit 71, tO #[]) ::
  (nat_lit 72, PySem.Obj.mk (.type "dict") none (PySem.Data.dict #[dE P "__module__" 262 (.str "stuckwires.errors" 187), dE P "__firstlineno__" 266 (.int 10 265), dE P "__static_attributes__" 267 (.ref 71), dE P "__doc__" 268 .none] 2) #[]) ::
  (nat_lit 73, PySem.Obj.mk (.type "type") none (PySem.Data.cls (PySem.ClassData.mk "NoText" [.ref 24] [.ref 73, .ref 24, .type "ValueError", .type "Exception", .type "BaseException", .type "object"] 72 "NoText" Bool.true [] [] Bool.false none Bool.false)) #[Option.some (.ref 64), none, Option.some (.str "NoText" 255), Option.some (.str "NoText" 263), Option.some (.builtin "ValueError.__new__"), Option.some (.bool Bool.true)]) ::
  (nat_lit 76, tO #[.ref 24]) ::
  (nat_lit 83, tO #[]) ::
  (nat_lit 84, PySem.Obj.mk (.type "dict") none (PySem.Data.dict #[dE P "__module__" 278 (.str "stuckwires.errors" 187), dE P "__firstlineno__" 282 (.int 12 281), dE P "__static_attributes__" 283 (.ref 83), dE P "__doc__" 284 .none] 2) #[]) ::
  (nat_lit 85, PySem.Obj.mk (.type "type") none (PySem.Data.cls (PySem.ClassData.mk "NoOrder" [.ref 24] [.ref 85, .ref 24, .type "ValueError", .type "Exception", .type "BaseException", .type "object"] 84 "NoOrder" Bool.true [] [] Bool.false none Bool.false)) #[Option.some (.ref 76), none, Option.some (.str "NoOrder" 271), Option.some (.str "NoOrder" 279), Option.some (.builtin "ValueError.__new__"), Option.some (.bool Bool.true)]) ::
  (nat_lit 88, tO #[.ref 24]) ::
  (nat_lit 95, tO #[]) ::
  (nat_lit 96, PySem.Obj.mk (.type "dict") none (PySem.Data.dict #[dE P "__module__" 294 (.str "stuckwires.errors" 187), dE P "__firstlineno__" 298 (.int 14 297), dE P "__static_attributes__" 299 (.ref 95), dE P "__doc__" 300 .none] 2) #[]) ::
  (nat_lit 97, PySem.Obj.mk (.type "type") none (PySem.Data.cls (PySem.ClassData.mk "TooMany" [.ref 24] [.ref 97, .ref 24, .type "ValueError", .type "Exception", .type "BaseException", .type "object"] 96 "TooMany" Bool.true [] [] Bool.false none Bool.false)) #[Option.some (.ref 88), none, Option.some (.str "TooMany" 287), Option.some (.str "TooMany" 295), Option.some (.builtin "ValueError.__new__"), Option.some (.bool Bool.true)]) ::
  (nat_lit 100, PySem.Obj.mk (.type "dict") none (PySem.Data.dict #[dE P "and" 305 (.ref 101), dE P "or" 308 (.ref 102), dE P "odd" 311 (.ref 103), dE P "not" 314 (.ref 104), dE P "choose" 317 (.ref 105), dE P "zero" 320 (.ref 106), dE P "one" 323 (.ref 107)] 7) #[]) ::
  (nat_lit 101, tO #[.int 2 306, .int 4 307]) ::
  (nat_lit 102, tO #[.int 2 309, .int 4 310]) ::
  (nat_lit 103, tO #[.int 2 312, .int 4 313]) ::
  (nat_lit 104, tO #[.int 1 315, .int 1 316]) ::
  (nat_lit 105, tO #[.int 3 318, .int 3 319]) ::
  (nat_lit 106, tO #[.int 0 321, .int 0 322]) ::
  (nat_lit 107, tO #[.int 0 324, .int 0 325]) ::
  (nat_lit 108, tO #[]) ::
  (nat_lit 110, tO #[.str "inputs" 337, .str "gates" 338, .str "outputs" 339, .str "gate" 340, .str "body" 341]) ::
  (nat_lit 111, tO #[]) ::
  (nat_lit 113, cO "works_of" 334 18 3 108 (.ref 110) (.ref 111) 112 342) ::
  (nat_lit 114, fD "works_of" s_works_of "stuckwires.works" 303 113) ::
  (nat_lit 115, tO #[]) ::
  (nat_lit 117, tO #[.str "kind" 348, .str "legs" 349, .str "own_wire" 350, .str "bounds" 351]) ::
  (nat_lit 118, tO #[]) ::
  (nat_lit 120, cO "check_gate" 345 28 3 115 (.ref 117) (.ref 118) 119 352) ::
  (nat_lit 121, fD "check_gate" s_check_gate "stuckwires.works" 303 120) ::
  (nat_lit 122, tO #[]) ::
  (nat_lit 124, tO #[.str "word" 358]) ::
  (nat_lit 125, tO #[]) ::
  (nat_lit 127, cO "is_kind" 355 36 1 122 (.ref 124) (.ref 125) 126 359) ::
  (nat_lit 128, fD "is_kind" s_is_kind "stuckwires.works" 303 127) ::
  (nat_lit 129, tO #[]) ::
  (nat_lit 132, cO "are_wires_below" 362 38 2 129 .none .none 131 365) ::
  (nat_lit 133, fD "are_wires_below" s_are_wires_below "stuckwires.works" 303 132) ::
  (nat_lit 134, tO #[]) ::
  (nat_lit 137, cO "wire_worths" 368 40 2 134 .none .none 136 371) ::
  (nat_lit 138, fD "wire_worths" s_wire_worths "stuckwires.works" 303 137) ::
  (nat_lit 139, tO #[]) ::
  (nat_lit 142, cO "outputs_at" 374 46 2 139 .none .none 141 377) ::
  (nat_lit 143, fD "outputs_at" s_outputs_at "stuckwires.works" 303 142) ::
  (nat_lit 149, tO #[]) ::
  (nat_lit 152, cO "check_row" 386 54 2 149 .none .none 151 389) ::
  (nat_lit 153, fD "check_row" s_check_row "stuckwires.works" 303 152) ::
  (nat_lit 154, tO #[.int 1 392]) ::
  (nat_lit 155, tO #[]) ::
  (nat_lit 157, tO #[.str "kind" 396, .str "worths" 397, .str "ones" 398, .str "told" 399, .str "worth" 400]) ::
  (nat_lit 158, tO #[]) ::
  (nat_lit 160, cO "gate_worth" 393 59 3 155 (.ref 157) (.ref 158) 159 401) ::
  (nat_lit 161, fO "gate_worth" s_gate_worth (.ref 154) .none .none (.str "stuckwires.works" 303) none (.ref 160) .none) ::
  (nat_lit 413, tO #[]) ::
  (nat_lit 416, cO "read_works" 751 294 1 413 .none .none 415 754) ::
  (nat_lit 417, fD "read_works" s_read_works "stuckwires.texts" 741 416) ::
  (nat_lit 430, tO #[]) ::
  (nat_lit 433, cO "read_row" 773 317 1 430 .none .none 432 776) ::
  (nat_lit 434, fD "read_row" s_read_row "stuckwires.texts" 741 433) ::
  (nat_lit 435, tO #[]) ::
  (nat_lit 437, tO #[.str "text" 782, .str "number" 783, .str "sign" 784]) ::
  (nat_lit 438, tO #[]) ::
  (nat_lit 440, cO "read_number" 779 320 1 435 (.ref 437) (.ref 438) 439 785) ::
  (nat_lit 441, fD "read_number" s_read_number "stuckwires.texts" 741 440) ::
  (nat_lit 442, tO #[.str "clear" 790, .str "fewest" 791, .str "bare" 792, .str "less" 793, .str "next" 794]) ::
  (nat_lit 443, tO #[]) ::
  (nat_lit 445, tO #[.str "row" 799, .str "parts" 800]) ::
  (nat_lit 446, tO #[]) ::
  (nat_lit 448, cO "read_order" 796 331 1 443 (.ref 445) (.ref 446) 447 801) ::
  (nat_lit 449, fD "read_order" s_read_order "stuckwires.orders" 788 448) ::
  (nat_lit 450, tO #[]) ::
  (nat_lit 453, cO "read_things" 804 340 2 450 .none .none 452 807) ::
  (nat_lit 454, fD "read_things" s_read_things "stuckwires.orders" 788 453) ::
  (nat_lit 462, tO #[]) ::
  (nat_lit 465, cO "read_worths" 819 357 1 462 .none .none 464 822) ::
  (nat_lit 466, fD "read_worths" s_read_worths "stuckwires.orders" 788 465) ::
  (nat_lit 474, tO #[]) ::
  (nat_lit 476, tO #[.str "self" 842]) ::
  (nat_lit 477, tO #[]) ::
  (nat_lit 479, PySem.Obj.mk (.type "code") none (PySem.Data.fields #[.str "__init__" 839, .str "Desk.__init__" 840, .str "/claim/cut.py" 841, .int 364 0, .int 1 0, .int 0 0, .int 0 0, .int 3 0, .ref 474, .bool Bool.true, .int 181 0, .ref 475, .none, .ref 476, .ref 477, .ref 478, .int 843 0, .int 364 0, .str "/claim/cut.py" 844]) #[]) ::
  (nat_lit 480, fM "__init__" "Desk.__init__" s_Desk___init__ .none .none .none (.str "stuckwires.desk" 825) none (.ref 479) .none) ::
  (nat_lit 481, tO #[]) ::
  (nat_lit 483, tO #[.str "self" 849, .str "row" 850, .str "order" 851, .str "word" 852, .str "works" 853]) ::
  (nat_lit 484, tO #[]) ::
  (nat_lit 486, PySem.Obj.mk (.type "code") none (PySem.Data.fields #[.str "say" 846, .str "Desk.say" 847, .str "/claim/cut.py" 848, .int 368 0, .int 2 0, .int 0 0, .int 0 0, .int 3 0, .ref 481, .bool Bool.true, .int 181 0, .ref 482, .none, .ref 483, .ref 484, .ref 485, .int 854 0, .int 368 0, .str "/claim/cut.py" 855]) #[]) ::
  (nat_lit 487, fM "say" "Desk.say" s_Desk_say .none .none .none (.str "stuckwires.desk" 825) none (.ref 486) .none) ::
  (nat_lit 488, tO #[]) ::
  (nat_lit 490, tO #[.str "self" 860, .str "rows" 861, .str "count" 862]) ::
  (nat_lit 491, tO #[]) ::
  (nat_lit 493, PySem.Obj.mk (.type "code") none (PySem.Data.fields #[.str "keep_rows" 857, .str "Desk.keep_rows" 858, .str "/claim/cut.py" 859, .int 384 0, .int 2 0, .int 0 0, .int 0 0, .int 3 0, .ref 488, .bool Bool.true, .int 181 0, .ref 489, .none, .ref 490, .ref 491, .ref 492, .int 863 0, .int 384 0, .str "/claim/cut.py" 864]) #[]) ::
  (nat_lit 494, fM "keep_rows" "Desk.keep_rows" s_Desk_keep_rows .none .none .none (.str "stuckwires.desk" 825) none (.ref 493) .none) ::
  (nat_lit 495, tO #[]) ::
  (nat_lit 497, tO #[.str "self" 869, .str "works" 870, .str "less" 871, .str "before" 872, .str "after" 873]) ::
  (nat_lit 498, tO #[]) ::
  (nat_lit 500, PySem.Obj.mk (.type "code") none (PySem.Data.fields #[.str "keep_less" 866, .str "Desk.keep_less" 867, .str "/claim/cut.py" 868, .int 390 0, .int 2 0, .int 0 0, .int 0 0, .int 3 0, .ref 495, .bool Bool.true, .int 181 0, .ref 496, .none, .ref 497, .ref 498, .ref 499, .int 874 0, .int 390 0, .str "/claim/cut.py" 875]) #[]) ::
  (nat_lit 501, PySem.Obj.mk (.type "function") none (PySem.Data.func (PySem.FuncData.mk "keep_less" "Desk.keep_less" (PySem.Arguments.mk [] [PySem.Arg.mk "self" none (PySem.Pos.mk 390 18 390 22), PySem.Arg.mk "works" none (PySem.Pos.mk 390 24 390 29)] none [] [] none []) (PySem.FuncBody.stmts [PySem.Stmt.Assign [PySem.Expr.Name "less" (PySem.Pos.mk 391 8 391 12)] (PySem.Expr.Call (PySem.Expr.Name "made_less" (PySem.Pos.mk 391 15 391 24)) [PySem.Expr.Name "works" (PySem.Pos.mk 391 25 391 30)] [] (PySem.Pos.mk 391 15 391 31)) (PySem.Pos.mk 391 8 391 31), PySem.Stmt.Expr (PySem.Expr.Call (PySem.Expr.Attribute (PySem.Expr.Name "self" (PySem.Pos.mk 392 8 392 12)) "keep_rows" (PySem.Pos.mk 392 8 392 22)) [PySem.Expr.Call (PySem.Expr.Attribute (PySem.Expr.Call (PySem.Expr.Name "show_works" (PySem.Pos.mk 392 23 392 33)) [PySem.Expr.Name "less" (PySem.Pos.mk 392 34 392 38)] [] (PySem.Pos.mk 392 23 392 39)) "split" (PySem.Pos.mk 392 23 392 45)) [PySem.Expr.Constant (PySem.Const.str "\n") 0 (PySem.Pos.mk 392 46 392 50)] [] (PySem.Pos.mk 392 23 392 51)] [] (PySem.Pos.mk 392 8 392 52)) (PySem.Pos.mk 392 8 392 52), PySem.Stmt.Assign [PySem.Expr.Name "before" (PySem.Pos.mk 393 8 393 14)] (PySem.Expr.Call (PySem.Expr.Name "len" (PySem.Pos.mk 393 17 393 20)) [PySem.Expr.Subscript (PySem.Expr.Name "works" (PySem.Pos.mk 393 21 393 26)) (PySem.Expr.Constant (PySem.Const.int 1) 0 (PySem.Pos.mk 393 27 393 28)) (PySem.Pos.mk 393 21 393 29)] [] (PySem.Pos.mk 393 17 393 30)) (PySem.Pos.mk 393 8 393 30), PySem.Stmt.Assign [PySem.Expr.Name "after" (PySem.Pos.mk 394 8 394 13)] (PySem.Expr.Call (PySem.Expr.Name "len" (PySem.Pos.mk 394 16 394 19)) [PySem.Expr.Subscript (PySem.Expr.Name "less" (PySem.Pos.mk 394 20 394 24)) (PySem.Expr.Constant (PySem.Const.int 1) 0 (PySem.Pos.mk 394 25 394 26)) (PySem.Pos.mk 394 20 394 27)] [] (PySem.Pos.mk 394 16 394 28)) (PySem.Pos.mk 394 8 394 28), PySem.Stmt.Return (Option.some (PySem.Expr.JoinedStr [PySem.Expr.Constant (PySem.Const.str "gates ") 0 (PySem.Pos.mk 395 17 395 23), PySem.Expr.FormattedValue (PySem.Expr.Name "before" (PySem.Pos.mk 395 24 395 30)) (-1) none (PySem.Pos.mk 395 23 395 31), PySem.Expr.Constant (PySem.Const.str " to ") 0 (PySem.Pos.mk 395 31 395 35), PySem.Expr.FormattedValue (PySem.Expr.Name "after" (PySem.Pos.mk 395 36 395 41)) (-1) none (PySem.Pos.mk 395 35 395 42)] (PySem.Pos.mk 395 15 395 43))) (PySem.Pos.mk 395 8 395 43)]) (PySem.Scope.mk PySem.ScopeKind.function [("self", PySem.NameKind.local), ("works", PySem.NameKind.local), ("less", PySem.NameKind.local), ("before", PySem.NameKind.local), ("after", PySem.NameKind.local), ("made_less", PySem.NameKind.globalImplicit), ("show_works", PySem.NameKind.globalImplicit), ("len", PySem.NameKind.globalImplicit)] Bool.false Bool.false []) 3 [] .none .none .none (.str "stuckwires.desk" 825) none (.ref 500) .none 0)) #[]) ::
  (nat_lit 502, tO #[]) ::
  (nat_lit 504, tO #[.str "self" 880, .str "works" 881, .str "row" 882, .str "outputs" 883, .str "answers" 884, .str "count" 885]) ::
  (nat_lit 505, tO #[]) ::
  (nat_lit 507, PySem.Obj.mk (.type "code") none (PySem.Data.fields #[.str "keep_answer" 877, .str "Desk.keep_answer" 878, .str "/claim/cut.py" 879, .int 397 0, .int 4 0, .int 0 0, .int 0 0, .int 3 0, .ref 502, .bool Bool.true, .int 181 0, .ref 503, .none, .ref 504, .ref 505, .ref 506, .int 886 0, .int 397 0, .str "/claim/cut.py" 887]) #[]) ::
  (nat_lit 508, PySem.Obj.mk (.type "function") none (PySem.Data.func (PySem.FuncData.mk "keep_answer" "Desk.keep_answer" (PySem.Arguments.mk [] [PySem.Arg.mk "self" none (PySem.Pos.mk 397 20 397 24), PySem.Arg.mk "works" none (PySem.Pos.mk 397 26 397 31), PySem.Arg.mk "row" none (PySem.Pos.mk 397 33 397 36), PySem.Arg.mk "outputs" none (PySem.Pos.mk 397 38 397 45)] none [] [] none []) (PySem.FuncBody.stmts [PySem.Stmt.Assign [PySem.Expr.Name "answers" (PySem.Pos.mk 398 8 398 15)] (PySem.Expr.BinOp (PySem.Expr.Attribute (PySem.Expr.Name "self" (PySem.Pos.mk 398 18 398 22)) "answers" (PySem.Pos.mk 398 18 398 30)) PySem.Operator.Add (PySem.Expr.List [PySem.Expr.Tuple [PySem.Expr.Name "row" (PySem.Pos.mk 398 35 398 38), PySem.Expr.Name "outputs" (PySem.Pos.mk 398 40 398 47)] 0 (PySem.Pos.mk 398 34 398 48)] (PySem.Pos.mk 398 33 398 49)) (PySem.Pos.mk 398 18 398 49)) (PySem.Pos.mk 398 8 398 49), PySem.Stmt.Assign [PySem.Expr.Name "count" (PySem.Pos.mk 399 8 399 13)] (PySem.Expr.Call (PySem.Expr.Name "len" (PySem.Pos.mk 399 16 399 19)) [PySem.Expr.Call (PySem.Expr.Name "what_fits" (PySem.Pos.mk 399 20 399 29)) [PySem.Expr.Name "works" (PySem.Pos.mk 399 30 399 35), PySem.Expr.Name "answers" (PySem.Pos.mk 399 37 399 44)] [] (PySem.Pos.mk 399 20 399 45)] [] (PySem.Pos.mk 399 16 399 46)) (PySem.Pos.mk 399 8 399 46), PySem.Stmt.Assign [PySem.Expr.Attribute (PySem.Expr.Name "self" (PySem.Pos.mk 400 8 400 12)) "answers" (PySem.Pos.mk 400 8 400 20)] (PySem.Expr.Name "answers" (PySem.Pos.mk 400 23 400 30)) (PySem.Pos.mk 400 8 400 30), PySem.Stmt.Return (Option.some (PySem.Expr.JoinedStr [PySem.Expr.Constant (PySem.Const.str "fits ") 0 (PySem.Pos.mk 401 17 401 22), PySem.Expr.FormattedValue (PySem.Expr.Name "count" (PySem.Pos.mk 401 23 401 28)) (-1) none (PySem.Pos.mk 401 22 401 29)] (PySem.Pos.mk 401 15 401 30))) (PySem.Pos.mk 401 8 401 30)]) (PySem.Scope.mk PySem.ScopeKind.function [("self", PySem.NameKind.local), ("works", PySem.NameKind.local), ("row", PySem.NameKind.local), ("outputs", PySem.NameKind.local), ("answers", PySem.NameKind.local), ("count", PySem.NameKind.local), ("len", PySem.NameKind.globalImplicit), ("what_fits", PySem.NameKind.globalImplicit)] Bool.false Bool.false []) 3 [] .none .none .none (.str "stuckwires.desk" 825) none (.ref 507) .none 0)) #[]) ::
  (nat_lit 509, tO #[.str "answers" 889, .str "rows" 890]) ::
  (nat_lit 510, PySem.Obj.mk (.type "dict") none (PySem.Data.dict #[dE P "__module__" 834 (.str "stuckwires.desk" 825), dE P "__firstlineno__" 838 (.int 362 837), dE P "__init__" 845 (.ref 480), dE P "say" 856 (.ref 487), dE P "keep_rows" 865 (.ref 494), dE P "keep_less" 876 (.ref 501), dE P "keep_answer" 888 (.ref 508), dE P "__static_attributes__" 891 (.ref 509), dE P "__dict__" 893 (.ref 512), dE P "__weakref__" 895 (.ref 513), dE P "__doc__" 896 .none] 4) #[]) ::
  (nat_lit 511, PySem.Obj.mk (.type "type") none (PySem.Data.cls (PySem.ClassData.mk "Desk" [.type "object"] [.ref 511, .type "object"] 510 "Desk" Bool.true [] [] Bool.false none Bool.false)) #[none, none, Option.some (.str "Desk" 827), Option.some (.str "Desk" 835), Option.some (.builtin "object.__new__"), Option.some (.bool Bool.true)]) ::
  (nat_lit 512, PySem.Obj.mk (.type "getset_descriptor") none (PySem.Data.fields #[.str "__dict__" 892, .ref 511, .builtin "function.__dict__", .builtin "function.__dict__#set"]) #[]) ::
  (nat_lit 513, PySem.Obj.mk (.type "getset_descriptor") none (PySem.Data.fields #[.str "__weakref__" 894, .ref 511, .builtin "ExceptionGroup.__weakref__", .none]) #[]) ::
  (nat_lit 516, tO #[]) ::
  (nat_lit 518, tO #[.str "works" 902, .str "order" 903, .str "word" 904]) ::
  (nat_lit 519, tO #[]) ::
  (nat_lit 521, cO "told_of" 899 402 2 516 (.ref 518) (.ref 519) 520 905) ::
  (nat_lit 522, fD "told_of" s_told_of "stuckwires.desk" 825 521) ::
  (nat_lit 530, tO #[]) ::
  (nat_lit 533, cO "shown" 916 415 1 530 .none .none 532 919) ::
  (nat_lit 534, fD "shown" s_shown "stuckwires.desk" 825 533) ::
  (nat_lit 535, tO #[]) ::
  (nat_lit 537, tO #[.str "cell" 927, .str "k" 928, .str "number" 929]) ::
  (nat_lit 538, tO #[]) ::
  (nat_lit 540, cO "_law_stir" 924 418 2 535 (.ref 537) (.ref 538) 539 930) ::
  (nat_lit 541, fD "_law_stir" s_law_stir "law_stuckwires_k65_rows_put_and_run" 922 540) ::
  (nat_lit 542, tO #[]) ::
  (nat_lit 544, tO #[.str "cell" 936]) ::
  (nat_lit 545, tO #[]) ::
  (nat_lit 547, cO "_law_deck" 933 422 1 542 (.ref 544) (.ref 545) 546 937) ::
  (nat_lit 548, fD "_law_deck" s_law_deck "law_stuckwires_k65_rows_put_and_run" 922 547) ::
  (nat_lit 549, tO #[]) ::
  (nat_lit 551, tO #[.str "deck" 943, .str "many" 944, .str "taken" 945]) ::
  (nat_lit 552, tO #[]) ::
  (nat_lit 554, cO "_law_take" 940 426 2 549 (.ref 551) (.ref 552) 553 946) ::
  (nat_lit 555, fD "_law_take" s_law_take "law_stuckwires_k65_rows_put_and_run" 922 554) ::
  (nat_lit 556, tO #[]) ::
  (nat_lit 558, tO #[.str "deck" 952, .str "kind" 953]) ::
  (nat_lit 559, tO #[]) ::
  (nat_lit 561, cO "_law_legs" 949 430 2 556 (.ref 558) (.ref 559) 560 954) ::
  (nat_lit 562, fD "_law_legs" s_law_legs "law_stuckwires_k65_rows_put_and_run" 922 561) ::
  (nat_lit 563, tO #[]) ::
  (nat_lit 566, cO "_law_works" 957 434 2 563 .none .none 565 960) ::
  (nat_lit 567, fD "_law_works" s_law_works "law_stuckwires_k65_rows_put_and_run" 922 566) ::
  (nat_lit 575, tO #[]) ::
  (nat_lit 578, cO "_law_gate" 970 447 2 575 .none .none 577 973) ::
  (nat_lit 579, fD "_law_gate" s_law_gate "law_stuckwires_k65_rows_put_and_run" 922 578) ::
  (nat_lit 580, tO #[]) ::
  (nat_lit 582, tO #[.str "works" 979, .str "stuck" 980, .str "row" 981, .str "inputs" 982, .str "gates" 983, .str "outputs" 984, .str "found" 985, .str "wire" 986, .str "worth" 987, .str "kind" 988, .str "legs" 989, .str "some" 990, .str "place" 991]) ::
  (nat_lit 583, tO #[]) ::
  (nat_lit 585, cO "_law_worths" 976 453 3 580 (.ref 582) (.ref 583) 584 992) ::
  (nat_lit 586, fD "_law_worths" s_law_worths "law_stuckwires_k65_rows_put_and_run" 922 585) ::
  (nat_lit 587, tO #[]) ::
  (nat_lit 590, cO "_law_row" 995 468 2 587 .none .none 589 998) ::
  (nat_lit 591, fD "_law_row" s_law_row "law_stuckwires_k65_rows_put_and_run" 922 590) ::
  (nat_lit 592, tO #[]) ::
  (nat_lit 594, tO #[.str "works" 1004, .str "rows" 1005, .str "kind" 1006, .str "legs" 1007, .str "row" 1008, .str "leg" 1009, .str "wire" 1010]) ::
  (nat_lit 595, tO #[]) ::
  (nat_lit 597, cO "_law_text" 1001 470 1 592 (.ref 594) (.ref 595) 596 1011) ::
  (nat_lit 598, fD "_law_text" s_law_text "law_stuckwires_k65_rows_put_and_run" 922 597) ::
  (nat_lit 599, tO #[]) ::
  (nat_lit 601, tO #[.str "desk" 1017, .str "row" 1018, .str "caught" 1019, .str "found" 1020, .str "e" 1021, .str "kinds" 1022]) ::
  (nat_lit 602, tO #[]) ::
  (nat_lit 604, cO "_law_told" 1014 481 2 599 (.ref 601) (.ref 602) 603 1023) ::
  (nat_lit 605, fD "_law_told" s_law_told "law_stuckwires_k65_rows_put_and_run" 922 604) ::
  (nat_lit 606, tO #[]) ::
  (nat_lit 609, cO "_law_put" 1026 495 2 606 .none .none 608 1029) ::
  (nat_lit 610, fD "_law_put" s_law_put "law_stuckwires_k65_rows_put_and_run" 922 609) ::
  (nat_lit 611, tO #[]) ::
  (nat_lit 614, cO "_law_figures" 1032 499 1 611 .none .none 613 1035) ::
  (nat_lit 615, fD "_law_figures" s_law_figures "law_stuckwires_k65_rows_put_and_run" 922 614) ::
  (nat_lit 616, tO #[]) ::
  (nat_lit 619, cO "_law_runs" 1038 501 3 616 .none .none 618 1041) ::
  (nat_lit 620, fD "_law_runs" s_law_runs "law_stuckwires_k65_rows_put_and_run" 922 619) ::
  (nat_lit 621, tO #[]) ::
  (nat_lit 623, tO #[.str "script" 1047, .str "desks" 1048, .str "kept" 1049, .str "cell" 1050, .str "deck" 1051, .str "works" 1052, .str "at" 1053, .str "rows" 1054, .str "k" 1055]) ::
  (nat_lit 624, tO #[]) ::
  (nat_lit 626, cO "law" 1044 509 1 621 (.ref 623) (.ref 624) 625 1056) ::
  (nat_lit 627, fD "law" s_law "law_stuckwires_k65_rows_put_and_run" 922 626) :: []
def partAt : List Addr := [3, 15, 22, 23, 24, 25, 28, 35, 36, 37, 40, 47, 48, 49, 52, 59, 60, 61, 64, 71, 72, 73, 76, 83, 84, 85, 88, 95, 96, 97, 100, 101, 102, 103, 104, 105, 106, 107, 108, 110, 111, 113, 114, 115, 117, 118, 120, 121, 122, 124, 125, 127, 128, 129, 132, 133, 134, 137, 138, 139, 142, 143, 149, 152, 153, 154, 155, 157, 158, 160, 161, 413, 416, 417, 430, 433, 434, 435, 437, 438, 440, 441, 442, 443, 445, 446, 448, 449, 450, 453, 454, 462, 465, 466, 474, 476, 477, 479, 480, 481, 483, 484, 486, 487, 488, 490, 491, 493, 494, 495, 497, 498, 500, 501, 502, 504, 505, 507, 508, 509, 510, 511, 512, 513, 516, 518, 519, 521, 522, 530, 533, 534, 535, 537, 538, 540, 541, 542, 544, 545, 547, 548, 549, 551, 552, 554, 555, 556, 558, 559, 561, 562, 563, 566, 567, 575, 578, 579, 580, 582, 583, 585, 586, 587, 590, 591, 592, 594, 595, 597, 598, 599, 601, 602, 604, 605, 606, 609, 610, 611, 614, 615, 616, 619, 620, 621, 623, 624, 626, 627]
noncomputable def loo : List Str := "StuckError" :: "NoWorks" :: "NoRow" :: "NoFault" :: "NoText" :: "NoOrder" :: "TooMany" :: "LEG_BOUNDS" :: "works_of" :: "check_gate" :: "is_kind" :: "are_wires_below" :: "wire_worths" :: "outputs_at" :: "every_row" :: "check_row" :: "gate_worth" :: "every_fault" :: "stuck_places" :: "worths_with" :: "leg_worths" :: "outputs_with" :: "outputs_seen" :: "rows_at_once" :: "outputs_in" :: "seen_of_each" :: "first_unlike" :: "unlike_numbers" :: "finding_rows" :: "MOST_INPUTS" :: "fewest_rows" :: "check_inputs" :: "meets_each" :: "meet" :: "fewest_numbers" :: "longer_choices" :: "WELL" :: "what_fits" :: "next_row" :: "seen_of_fitting" :: "seen_of_all" :: "row_number" :: "left_behind" :: "next_number" :: "parts_at" :: "first_test" :: "parted_at" :: "CONSTANTS" :: "is_spare" :: "is_bare" :: "made_less" :: "gate_faults" :: "wire_of" :: "constants_stuck" :: "stuck_unseen" :: "stuck_for_good" :: "leg_behind" :: "wire_behind" :: "without_unread" :: "read_wires" :: "FIGURES" :: "show_works" :: "read_works" :: "read_fault" :: "shown_row" :: "read_row" :: "read_number" :: "WORDS_ALONE" :: "read_order" :: "read_things" :: "two_parts" :: "read_worths" :: "Desk" :: "told_of" :: "shown_or" :: "shown" :: "_law_stir" :: "_law_deck" :: "_law_take" :: "_law_legs" :: "_law_works" :: "_law_copied" :: "_law_gate" :: "_law_worths" :: "_law_row" :: "_law_text" :: "_law_told" :: "_law_put" :: "_law_figures" :: "_law_runs" ::  []
noncomputable def view : Program := { PySem.Challenge.pw_stuckwires_k65_rows_put_and_run with main := { PySem.Challenge.pw_stuckwires_k65_rows_put_and_run.main with body := [103].map top } }
end My
namespace My
open PySem PySem.W
noncomputable def obsC (p q : Program) (loose : List Str) (Xt : Shared → Bool) (P : Params) (s : Shared) :=
  (staticsOk (importedModules p.main.body) (boot_heap P) s.heap && namesBound p s.heap && gensDone s && laidKept (boot_heap P) s.heap, openSeen q loose (importedModules p.main.body) Xt true s)
theorem takeDrop (l : List Stmt) (a b c : Nat) (h : a + b = c) : (l.drop a).take b ++ l.drop c = l.drop a := by
  subst h
  rw [← List.drop_drop]
  exact List.take_append_drop _ _
theorem mapCut {α β : Type} {a b : Option α} {f : α → β} {c : β} (h1 : ∀ r, a = some r → b = some r) (h2 : a.map f = some c) : b.map f = some c := by
  obtain ⟨s, e, e'⟩ := Option.map_eq_some_iff.mp h2
  rw [h1 s e]
  exact congrArg some e'
theorem leftC {p q : Program} {loose : List Str} {Xt : Shared → Bool} {α : Type} {Yf : Shared → α} {Ya : World → α} {N m₀ : Nat} {ann : Option Value}
    (h1 : opening p = plainProg p.main.scope.names) (h2 : Nat.ble 600 N = true) (h3 : ∀ s : Shared, fenceModules? p s = some s)
    (hn : ∀ P, ((boot_heap P).isNs mainGlobals, (boot_heap P).objs.size, (boot_heap P).nsMap mainGlobals (Str.ofString "__annotations__")) = (true, m₀, ann))
    (h : ∀ (w : World) (os : OsState), (topRun treeTable p w m₀ ann N ⟨boot_heap w.params, #[], boot_drawn, boot_toks, os⟩ (topStub p)).map (fun s => obsC p q loose Xt w.params s) = some (true, openGood q loose))
    (hY : ∀ (w : World) (os : OsState), (topRun treeTable p w m₀ ann N ⟨boot_heap w.params, #[], boot_drawn, boot_toks, os⟩ (topStub p)).map Yf = some (Ya w)) :
    LeftO p q loose Xt Yf Ya N := fun w => by
  obtain ⟨s0, e0, e1⟩ := Option.map_eq_some_iff.mp (boot_open h1 h2 h3 w)
  obtain ⟨hp, gs, dr, tk, os⟩ := s0
  have b1 : hp = boot_heap w.params := congrArg Prod.fst e1
  have b2 : gs = ⟨[]⟩ := congrArg (fun x => x.2.1) e1
  have b3 : dr = boot_drawn := congrArg (fun x => x.2.2.1) e1
  have b4 : tk = boot_toks := congrArg (fun x => x.2.2.2) e1
  subst b1 b2 b3 b4
  have n1 : (boot_heap w.params).isNs mainGlobals = true := congrArg Prod.fst (hn w.params)
  have n2 : (boot_heap w.params).objs.size = m₀ := congrArg (fun x => x.2.1) (hn w.params)
  have n3 : (boot_heap w.params).nsMap mainGlobals (Str.ofString "__annotations__") = ann := congrArg (fun x => x.2.2) (hn w.params)
  obtain ⟨sT, r3, r2⟩ := Option.map_eq_some_iff.mp (h w os)
  have y := hY w os
  have c1 := congrArg Prod.fst r2
  have c2 := congrArg Prod.snd r2
  unfold openEnds
  rw [e0]
  show ((topFrom treeTable p w N ⟨boot_heap w.params, ⟨[]⟩, boot_drawn, boot_toks, os⟩).map _) = _
  unfold topFrom
  have n4 : ((boot_heap w.params).isNs mainGlobals && (#[] : Array GenState).size == 0) = true := by rw [n1]; rfl
  show ((match ((boot_heap w.params).isNs mainGlobals && (#[] : Array GenState).size == 0) with
    | true => (topRun treeTable p w (boot_heap w.params).objs.size ((boot_heap w.params).nsMap mainGlobals (Str.ofString "__annotations__")) N ⟨boot_heap w.params, ⟨[]⟩, boot_drawn, boot_toks, os⟩ (topStub p)).bind _
    | false => none).map _) = _
  rw [n4, n2, n3]
  dsimp only
  rw [r3] at y ⊢
  show ((match (staticsOk (importedModules p.main.body) (boot_heap w.params) sT.heap && namesBound p sT.heap && gensDone sT && laidKept (boot_heap w.params) sT.heap) with | true => some sT | false => none).map _) = _
  have c1' : (staticsOk (importedModules p.main.body) (boot_heap w.params) sT.heap && namesBound p sT.heap && gensDone sT && laidKept (boot_heap w.params) sT.heap) = true := c1
  rw [c1']
  exact congrArg some (Prod.ext c2 (Option.some.inj y))
end My
section
open PySem PySem.W PyProof.Rows
noncomputable abbrev My.fY (x y : Str) (s : Stmt) : Obj := .mk .none none (.func (FuncData.mk x y (L2.defArgs s) (.stmts (L2.defBody s)) (L2.defScope s) 0 [] .none .none .none .none none .none .none 0)) #[]
noncomputable abbrev My.fZ (x : Str) (s : Stmt) : Obj := My.fY x x s
open My in
noncomputable def My.nw (P : Params) : List Obj :=
  tO #[] ::
  .mk (.type "code") none (PySem.Data.fields #[.str "<module>" 182, .str "<module>" 183, .str "/claim/cut.py" 184, .int 1 0, .int 0 0, .int 0 0, .int 0 0, .int 0 0, .ref 11, .bool Bool.false, .int 181 0, .ref 12, .none, .none, .none, .none, .int 185 0, .int 1 0, .str "/claim/cut.py" 186]) #[] ::
  .mk (.type "frame") none PySem.Data.plain #[Option.some (.ref 13), Option.some (.ref 3), Option.some (.ref 3), none, Option.some (.str "__main__" 164), none, Option.some (.ref 0)] ::
  tO #[.type "ValueError"] ::
  .mk (.type "builtin_function_or_method") none (PySem.Data.fields #[.builtin "type.__prepare__", .type "type"]) #[] ::
  .mk (.type "dict") none (PySem.Data.dict #[dE P "__module__" 196 (.str "stuckwires.errors" 187), dE P "__qualname__" 198 (.str "StuckError" 197), dE P "__firstlineno__" 200 (.int 2 199), dE P "__static_attributes__" 201 (.ref 22)] 4) #[] ::
  tO #[] ::
  .mk .none none (PySem.Data.fields #[]) #[] ::
  .mk (.type "code") none (PySem.Data.fields #[.str "StuckError" 191, .str "StuckError" 192, .str "/claim/cut.py" 193, .int 2 0, .int 0 0, .int 0 0, .int 0 0, .int 0 0, .ref 18, .bool Bool.false, .int 181 0, .ref 19, .none, .none, .none, .none, .int 194 0, .int 2 0, .str "/claim/cut.py" 195]) #[] ::
  .mk (.type "frame") none PySem.Data.plain #[Option.some (.ref 20), Option.some (.ref 3), Option.some (.ref 17), none, Option.some (.str "stuckwires.errors" 187), none, Option.some (.ref 0)] ::
  tO #[] ::
  .mk (.type "dict") none (PySem.Data.dict #[dE P "__module__" 196 (.str "stuckwires.errors" 187), dE P "__firstlineno__" 200 (.int 2 199), dE P "__static_attributes__" 201 (.ref 22), dE P "__weakref__" 203 (.ref 25), dE P "__doc__" 204 .none] 3) #[] ::
  .mk (.type "type") none (PySem.Data.cls (PySem.ClassData.mk "StuckError" [.type "ValueError"] [.ref 24, .type "ValueError", .type "Exception", .type "BaseException", .type "object"] 23 "StuckError" Bool.true [] [.ref 37, .ref 49, .ref 61, .ref 73, .ref 85, .ref 97] Bool.false none Bool.false)) #[Option.some (.ref 15), none, Option.some (.str "StuckError" 189), Option.some (.str "StuckError" 197), Option.some (.builtin "ValueError.__new__"), Option.some (.bool Bool.true)] ::
  .mk (.type "getset_descriptor") none (PySem.Data.fields #[.str "__weakref__" 202, .ref 24, .builtin "ExceptionGroup.__weakref__", .none]) #[] ::
  .mk (.type "super") none (PySem.Data.fields #[.ref 24, .ref 24, .ref 24]) #[] ::
  .mk (.type "builtin_function_or_method") none (PySem.Data.fields #[.builtin "object.__init_subclass__", .ref 24]) #[] ::
  tO #[.ref 24] ::
  .mk (.type "builtin_function_or_method") none (PySem.Data.fields #[.builtin "type.__prepare__", .type "type"]) #[] ::
  .mk (.type "dict") none (PySem.Data.dict #[dE P "__module__" 214 (.str "stuckwires.errors" 187), dE P "__qualname__" 216 (.str "NoWorks" 215), dE P "__firstlineno__" 218 (.int 4 217), dE P "__static_attributes__" 219 (.ref 35)] 4) #[] ::
  tO #[] ::
  .mk .none none (PySem.Data.fields #[]) #[] ::
  .mk (.type "code") none (PySem.Data.fields #[.str "NoWorks" 209, .str "NoWorks" 210, .str "/claim/cut.py" 211, .int 4 0, .int 0 0, .int 0 0, .int 0 0, .int 0 0, .ref 31, .bool Bool.false, .int 181 0, .ref 32, .none, .none, .none, .none, .int 212 0, .int 4 0, .str "/claim/cut.py" 213]) #[] ::
  .mk (.type "frame") none PySem.Data.plain #[Option.some (.ref 33), Option.some (.ref 3), Option.some (.ref 30), none, Option.some (.str "stuckwires.errors" 187), none, Option.some (.ref 0)] ::
  tO #[] ::
  .mk (.type "dict") none (PySem.Data.dict #[dE P "__module__" 214 (.str "stuckwires.errors" 187), dE P "__firstlineno__" 218 (.int 4 217), dE P "__static_attributes__" 219 (.ref 35), dE P "__doc__" 220 .none] 2) #[] ::
  .mk (.type "type") none (PySem.Data.cls (PySem.ClassData.mk "NoWorks" [.ref 24] [.ref 37, .ref 24, .type "ValueError", .type "Exception", .type "BaseException", .type "object"] 36 "NoWorks" Bool.true [] [] Bool.false none Bool.false)) #[Option.some (.ref 28), none, Option.some (.str "NoWorks" 207), Option.some (.str "NoWorks" 215), Option.some (.builtin "ValueError.__new__"), Option.some (.bool Bool.true)] ::
  .mk (.type "super") none (PySem.Data.fields #[.ref 37, .ref 37, .ref 37]) #[] ::
  .mk (.type "builtin_function_or_method") none (PySem.Data.fields #[.builtin "object.__init_subclass__", .ref 37]) #[] ::
  tO #[.ref 24] ::
  .mk (.type "builtin_function_or_method") none (PySem.Data.fields #[.builtin "type.__prepare__", .type "type"]) #[] ::
  .mk (.type "dict") none (PySem.Data.dict #[dE P "__module__" 230 (.str "stuckwires.errors" 187), dE P "__qualname__" 232 (.str "NoRow" 231), dE P "__firstlineno__" 234 (.int 6 233), dE P "__static_attributes__" 235 (.ref 47)] 4) #[] ::
  tO #[] ::
  .mk .none none (PySem.Data.fields #[]) #[] ::
  .mk (.type "code") none (PySem.Data.fields #[.str "NoRow" 225, .str "NoRow" 226, .str "/claim/cut.py" 227, .int 6 0, .int 0 0, .int 0 0, .int 0 0, .int 0 0, .ref 43, .bool Bool.false, .int 181 0, .ref 44, .none, .none, .none, .none, .int 228 0, .int 6 0, .str "/claim/cut.py" 229]) #[] ::
  .mk (.type "frame") none PySem.Data.plain #[Option.some (.ref 45), Option.some (.ref 3), Option.some (.ref 42), none, Option.some (.str "stuckwires.errors" 187), none, Option.some (.ref 0)] ::
  tO #[] ::
  .mk (.type "dict") none (PySem.Data.dict #[dE P "__module__" 230 (.str "stuckwires.errors" 187), dE P "__firstlineno__" 234 (.int 6 233), dE P "__static_attributes__" 235 (.ref 47), dE P "__doc__" 236 .none] 2) #[] ::
  .mk (.type "type") none (PySem.Data.cls (PySem.ClassData.mk "NoRow" [.ref 24] [.ref 49, .ref 24, .type "ValueError", .type "Exception", .type "BaseException", .type "object"] 48 "NoRow" Bool.true [] [] Bool.false none Bool.false)) #[Option.some (.ref 40), none, Option.some (.str "NoRow" 223), Option.some (.str "NoRow" 231), Option.some (.builtin "ValueError.__new__"), Option.some (.bool Bool.true)] ::
  .mk (.type "super") none (PySem.Data.fields #[.ref 49, .ref 49, .ref 49]) #[] ::
  .mk (.type "builtin_function_or_method") none (PySem.Data.fields #[.builtin "object.__init_subclass__", .ref 49]) #[] ::
  tO #[.ref 24] ::
  .mk (.type "builtin_function_or_method") none (PySem.Data.fields #[.builtin "type.__prepare__", .type "type"]) #[] ::
  .mk (.type "dict") none (PySem.Data.dict #[dE P "__module__" 246 (.str "stuckwires.errors" 187), dE P "__qualname__" 248 (.str "NoFault" 247), dE P "__firstlineno__" 250 (.int 8 249), dE P "__static_attributes__" 251 (.ref 59)] 4) #[] ::
  tO #[] ::
  .mk .none none (PySem.Data.fields #[]) #[] ::
  .mk (.type "code") none (PySem.Data.fields #[.str "NoFault" 241, .str "NoFault" 242, .str "/claim/cut.py" 243, .int 8 0, .int 0 0, .int 0 0, .int 0 0, .int 0 0, .ref 55, .bool Bool.false, .int 181 0, .ref 56, .none, .none, .none, .none, .int 244 0, .int 8 0, .str "/claim/cut.py" 245]) #[] ::
  .mk (.type "frame") none PySem.Data.plain #[Option.some (.ref 57), Option.some (.ref 3), Option.some (.ref 54), none, Option.some (.str "stuckwires.errors" 187), none, Option.some (.ref 0)] ::
  tO #[] ::
  .mk (.type "dict") none (PySem.Data.dict #[dE P "__module__" 246 (.str "stuckwires.errors" 187), dE P "__firstlineno__" 250 (.int 8 249), dE P "__static_attributes__" 251 (.ref 59), dE P "__doc__" 252 .none] 2) #[] ::
  .mk (.type "type") none (PySem.Data.cls (PySem.ClassData.mk "NoFault" [.ref 24] [.ref 61, .ref 24, .type "ValueError", .type "Exception", .type "BaseException", .type "object"] 60 "NoFault" Bool.true [] [] Bool.false none Bool.false)) #[Option.some (.ref 52), none, Option.some (.str "NoFault" 239), Option.some (.str "NoFault" 247), Option.some (.builtin "ValueError.__new__"), Option.some (.bool Bool.true)] ::
  .mk (.type "super") none (PySem.Data.fields #[.ref 61, .ref 61, .ref 61]) #[] ::
  .mk (.type "builtin_function_or_method") none (PySem.Data.fields #[.builtin "object.__init_subclass__", .ref 61]) #[] ::
  tO #[.ref 24] ::
  .mk (.type "builtin_function_or_method") none (PySem.Data.fields #[.builtin "type.__prepare__", .type "type"]) #[] ::
  .mk (.type "dict") none (PySem.Data.dict #[dE P "__module__" 262 (.str "stuckwires.errors" 187), dE P "__qualname__" 264 (.str "NoText" 263), dE P "__firstlineno__" 266 (.int 10 265), dE P "__static_attributes__" 267 (.ref 71)] 4) #[] ::
  tO #[] ::
  .mk .none none (PySem.Data.fields #[]) #[] ::
  .mk (.type "code") none (PySem.Data.fields #[.str "NoText" 257, .str "NoText" 258, .str "/claim/cut.py" 259, .int 10 0, .int 0 0, .int 0 0, .int 0 0, .int 0 0, .ref 67, .bool Bool.false, .int 181 0, .ref 68, .none, .none, .none, .none, .int 260 0, .int 10 0, .str "/claim/cut.py" 261]) #[] ::
  .mk (.type "frame") none PySem.Data.plain #[Option.some (.ref 69), Option.some (.ref 3), Option.some (.ref 66), none, Option.some (.str "stuckwires.errors" 187), none, Option.some (.ref 0)] ::
  tO #[] ::
  .mk (.type "dict") none (PySem.Data.dict #[dE P "__module__" 262 (.str "stuckwires.errors" 187), dE P "__firstlineno__" 266 (.int 10 265), dE P "__static_attributes__" 267 (.ref 71), dE P "__doc__" 268 .none] 2) #[] ::
  .mk (.type "type") none (PySem.Data.cls (PySem.ClassData.mk "NoText" [.ref 24] [.ref 73, .ref 24, .type "ValueError", .type "Exception", .type "BaseException", .type "object"] 72 "NoText" Bool.true [] [] Bool.false none Bool.false)) #[Option.some (.ref 64), none, Option.some (.str "NoText" 255), Option.some (.str "NoText" 263), Option.some (.builtin "ValueError.__new__"), Option.some (.bool Bool.true)] ::
  .mk (.type "super") none (PySem.Data.fields #[.ref 73, .ref 73, .ref 73]) #[] ::
  .mk (.type "builtin_function_or_method") none (PySem.Data.fields #[.builtin "object.__init_subclass__", .ref 73]) #[] ::
  tO #[.ref 24] ::
  .mk (.type "builtin_function_or_method") none (PySem.Data.fields #[.builtin "type.__prepare__", .type "type"]) #[] ::
  .mk (.type "dict") none (PySem.Data.dict #[dE P "__module__" 278 (.str "stuckwires.errors" 187), dE P "__qualname__" 280 (.str "NoOrder" 279), dE P "__firstlineno__" 282 (.int 12 281), dE P "__static_attributes__" 283 (.ref 83)] 4) #[] ::
  tO #[] ::
  .mk .none none (PySem.Data.fields #[]) #[] ::
  .mk (.type "code") none (PySem.Data.fields #[.str "NoOrder" 273, .str "NoOrder" 274, .str "/claim/cut.py" 275, .int 12 0, .int 0 0, .int 0 0, .int 0 0, .int 0 0, .ref 79, .bool Bool.false, .int 181 0, .ref 80, .none, .none, .none, .none, .int 276 0, .int 12 0, .str "/claim/cut.py" 277]) #[] ::
  .mk (.type "frame") none PySem.Data.plain #[Option.some (.ref 81), Option.some (.ref 3), Option.some (.ref 78), none, Option.some (.str "stuckwires.errors" 187), none, Option.some (.ref 0)] ::
  tO #[] ::
  .mk (.type "dict") none (PySem.Data.dict #[dE P "__module__" 278 (.str "stuckwires.errors" 187), dE P "__firstlineno__" 282 (.int 12 281), dE P "__static_attributes__" 283 (.ref 83), dE P "__doc__" 284 .none] 2) #[] ::
  .mk (.type "type") none (PySem.Data.cls (PySem.ClassData.mk "NoOrder" [.ref 24] [.ref 85, .ref 24, .type "ValueError", .type "Exception", .type "BaseException", .type "object"] 84 "NoOrder" Bool.true [] [] Bool.false none Bool.false)) #[Option.some (.ref 76), none, Option.some (.str "NoOrder" 271), Option.some (.str "NoOrder" 279), Option.some (.builtin "ValueError.__new__"), Option.some (.bool Bool.true)] ::
  .mk (.type "super") none (PySem.Data.fields #[.ref 85, .ref 85, .ref 85]) #[] ::
  .mk (.type "builtin_function_or_method") none (PySem.Data.fields #[.builtin "object.__init_subclass__", .ref 85]) #[] ::
  tO #[.ref 24] ::
  .mk (.type "builtin_function_or_method") none (PySem.Data.fields #[.builtin "type.__prepare__", .type "type"]) #[] ::
  .mk (.type "dict") none (PySem.Data.dict #[dE P "__module__" 294 (.str "stuckwires.errors" 187), dE P "__qualname__" 296 (.str "TooMany" 295), dE P "__firstlineno__" 298 (.int 14 297), dE P "__static_attributes__" 299 (.ref 95)] 4) #[] ::
  tO #[] ::
  .mk .none none (PySem.Data.fields #[]) #[] ::
  .mk (.type "code") none (PySem.Data.fields #[.str "TooMany" 289, .str "TooMany" 290, .str "/claim/cut.py" 291, .int 14 0, .int 0 0, .int 0 0, .int 0 0, .int 0 0, .ref 91, .bool Bool.false, .int 181 0, .ref 92, .none, .none, .none, .none, .int 292 0, .int 14 0, .str "/claim/cut.py" 293]) #[] ::
  .mk (.type "frame") none PySem.Data.plain #[Option.some (.ref 93), Option.some (.ref 3), Option.some (.ref 90), none, Option.some (.str "stuckwires.errors" 187), none, Option.some (.ref 0)] ::
  tO #[] ::
  .mk (.type "dict") none (PySem.Data.dict #[dE P "__module__" 294 (.str "stuckwires.errors" 187), dE P "__firstlineno__" 298 (.int 14 297), dE P "__static_attributes__" 299 (.ref 95), dE P "__doc__" 300 .none] 2) #[] ::
  .mk (.type "type") none (PySem.Data.cls (PySem.ClassData.mk "TooMany" [.ref 24] [.ref 97, .ref 24, .type "ValueError", .type "Exception", .type "BaseException", .type "object"] 96 "TooMany" Bool.true [] [] Bool.false none Bool.false)) #[Option.some (.ref 88), none, Option.some (.str "TooMany" 287), Option.some (.str "TooMany" 295), Option.some (.builtin "ValueError.__new__"), Option.some (.bool Bool.true)] ::
  .mk (.type "super") none (PySem.Data.fields #[.ref 97, .ref 97, .ref 97]) #[] ::
  .mk (.type "builtin_function_or_method") none (PySem.Data.fields #[.builtin "object.__init_subclass__", .ref 97]) #[] ::
  .mk (.type "dict") none (PySem.Data.dict #[dE P "and" 305 (.ref 101), dE P "or" 308 (.ref 102), dE P "odd" 311 (.ref 103), dE P "not" 314 (.ref 104), dE P "choose" 317 (.ref 105), dE P "zero" 320 (.ref 106), dE P "one" 323 (.ref 107)] 7) #[] ::
  tO #[.int 2 306, .int 4 307] ::
  tO #[.int 2 309, .int 4 310] ::
  tO #[.int 2 312, .int 4 313] ::
  tO #[.int 1 315, .int 1 316] ::
  tO #[.int 3 318, .int 3 319] ::
  tO #[.int 0 321, .int 0 322] ::
  tO #[.int 0 324, .int 0 325] ::
  tO #[] ::
  .mk .none none (PySem.Data.fields #[]) #[] ::
  tO #[.str "inputs" 337, .str "gates" 338, .str "outputs" 339, .str "gate" 340, .str "body" 341] ::
  tO #[] ::
  fZ "works_of" (top 10) ::
  cO "works_of" 334 18 3 108 (.ref 110) (.ref 111) 112 342 ::
  fD "works_of" (top 10) "stuckwires.works" 303 113 ::
  tO #[] ::
  .mk .none none (PySem.Data.fields #[]) #[] ::
  tO #[.str "kind" 348, .str "legs" 349, .str "own_wire" 350, .str "bounds" 351] ::
  tO #[] ::
  fZ "check_gate" (top 11) ::
  cO "check_gate" 345 28 3 115 (.ref 117) (.ref 118) 119 352 ::
  fD "check_gate" (top 11) "stuckwires.works" 303 120 ::
  tO #[] ::
  .mk .none none (PySem.Data.fields #[]) #[] ::
  tO #[.str "word" 358] ::
  tO #[] ::
  fZ "is_kind" (top 12) ::
  cO "is_kind" 355 36 1 122 (.ref 124) (.ref 125) 126 359 ::
  fD "is_kind" (top 12) "stuckwires.works" 303 127 ::
  tO #[] ::
  .mk .none none (PySem.Data.fields #[]) #[] ::
  fZ "are_wires_below" (top 13) ::
  cO "are_wires_below" 362 38 2 129 .none .none 131 365 ::
  fD "are_wires_below" (top 13) "stuckwires.works" 303 132 ::
  tO #[] ::
  .mk .none none (PySem.Data.fields #[]) #[] ::
  fZ "wire_worths" (top 14) ::
  cO "wire_worths" 368 40 2 134 .none .none 136 371 ::
  fD "wire_worths" (top 14) "stuckwires.works" 303 137 ::
  tO #[] ::
  .mk .none none (PySem.Data.fields #[]) #[] ::
  fZ "outputs_at" (top 15) ::
  cO "outputs_at" 374 46 2 139 .none .none 141 377 ::
  fD "outputs_at" (top 15) "stuckwires.works" 303 142 ::
  tO #[] ::
  .mk .none none (PySem.Data.fields #[]) #[] ::
  fZ "every_row" (top 16) ::
  cO "every_row" 380 49 1 144 .none .none 146 383 ::
  fD "every_row" (top 16) "stuckwires.works" 303 147 ::
  tO #[] ::
  .mk .none none (PySem.Data.fields #[]) #[] ::
  fZ "check_row" (top 17) ::
  cO "check_row" 386 54 2 149 .none .none 151 389 ::
  fD "check_row" (top 17) "stuckwires.works" 303 152 ::
  tO #[.int 1 392] ::
  tO #[] ::
  .mk .none none (PySem.Data.fields #[]) #[] ::
  tO #[.str "kind" 396, .str "worths" 397, .str "ones" 398, .str "told" 399, .str "worth" 400] ::
  tO #[] ::
  fZ "gate_worth" (top 18) ::
  cO "gate_worth" 393 59 3 155 (.ref 157) (.ref 158) 159 401 ::
  fO "gate_worth" (top 18) (.ref 154) .none .none (.str "stuckwires.works" 303) none (.ref 160) .none ::
  tO #[] ::
  .mk .none none (PySem.Data.fields #[]) #[] ::
  fZ "every_fault" (top 20) ::
  cO "every_fault" 406 74 1 162 .none .none 164 409 ::
  fD "every_fault" (top 20) "stuckwires.faults" 404 165 ::
  tO #[] ::
  .mk .none none (PySem.Data.fields #[]) #[] ::
  tO #[.str "works" 415, .str "faults" 416, .str "known_faults" 417, .str "stuck" 418, .str "fault" 419, .str "place" 420] ::
  tO #[] ::
  fZ "stuck_places" (top 21) ::
  cO "stuck_places" 412 84 2 167 (.ref 169) (.ref 170) 171 421 ::
  fD "stuck_places" (top 21) "stuckwires.faults" 404 172 ::
  tO #[.int 1 424] ::
  tO #[] ::
  .mk .none none (PySem.Data.fields #[]) #[] ::
  fZ "worths_with" (top 22) ::
  cO "worths_with" 425 95 4 175 .none .none 177 428 ::
  fO "worths_with" (top 22) (.ref 174) .none .none (.str "stuckwires.faults" 404) none (.ref 178) .none ::
  tO #[] ::
  .mk .none none (PySem.Data.fields #[]) #[] ::
  fZ "leg_worths" (top 23) ::
  cO "leg_worths" 431 102 3 180 .none .none 182 434 ::
  fD "leg_worths" (top 23) "stuckwires.faults" 404 183 ::
  tO #[.int 1 437] ::
  tO #[] ::
  .mk .none none (PySem.Data.fields #[]) #[] ::
  fZ "outputs_with" (top 24) ::
  cO "outputs_with" 438 104 4 186 .none .none 188 441 ::
  fO "outputs_with" (top 24) (.ref 185) .none .none (.str "stuckwires.faults" 404) none (.ref 189) .none ::
  tO #[] ::
  .mk .none none (PySem.Data.fields #[]) #[] ::
  fZ "outputs_seen" (top 26) ::
  cO "outputs_seen" 446 108 2 191 .none .none 193 449 ::
  fD "outputs_seen" (top 26) "stuckwires.seen" 444 194 ::
  tO #[] ::
  .mk .none none (PySem.Data.fields #[]) #[] ::
  fZ "rows_at_once" (top 27) ::
  cO "rows_at_once" 452 113 1 196 .none .none 198 455 ::
  fD "rows_at_once" (top 27) "stuckwires.seen" 444 199 ::
  tO #[] ::
  .mk .none none (PySem.Data.fields #[]) #[] ::
  fZ "outputs_in" (top 28) ::
  cO "outputs_in" 458 121 2 201 .none .none 203 461 ::
  fD "outputs_in" (top 28) "stuckwires.seen" 444 204 ::
  tO #[] ::
  .mk .none none (PySem.Data.fields #[]) #[] ::
  tO #[.str "works" 467, .str "seen" 468, .str "fault" 469] ::
  tO #[] ::
  fZ "seen_of_each" (top 29) ::
  cO "seen_of_each" 464 123 1 206 (.ref 208) (.ref 209) 210 470 ::
  fD "seen_of_each" (top 29) "stuckwires.seen" 444 211 ::
  tO #[] ::
  .mk .none none (PySem.Data.fields #[]) #[] ::
  tO #[.str "works" 476, .str "stuck" 477, .str "others" 478, .str "numbers" 479] ::
  tO #[] ::
  fZ "first_unlike" (top 30) ::
  cO "first_unlike" 473 128 3 213 (.ref 215) (.ref 216) 217 480 ::
  fD "first_unlike" (top 30) "stuckwires.seen" 444 218 ::
  tO #[] ::
  .mk .none none (PySem.Data.fields #[]) #[] ::
  fZ "unlike_numbers" (top 31) ::
  cO "unlike_numbers" 483 131 2 220 .none .none 222 486 ::
  fD "unlike_numbers" (top 31) "stuckwires.seen" 444 223 ::
  tO #[] ::
  .mk .none none (PySem.Data.fields #[]) #[] ::
  tO #[.str "works" 492, .str "right" 493, .str "finding" 494, .str "fault" 495, .str "seen" 496, .str "numbers" 497] ::
  tO #[] ::
  fZ "finding_rows" (top 32) ::
  cO "finding_rows" 489 136 1 225 (.ref 227) (.ref 228) 229 498 ::
  fD "finding_rows" (top 32) "stuckwires.seen" 444 230 ::
  tO #[] ::
  .mk .none none (PySem.Data.fields #[]) #[] ::
  fZ "fewest_rows" (top 35) ::
  cO "fewest_rows" 505 146 1 232 .none .none 234 508 ::
  fD "fewest_rows" (top 35) "stuckwires.fewest" 501 235 ::
  tO #[] ::
  .mk .none none (PySem.Data.fields #[]) #[] ::
  tO #[.str "works" 514] ::
  tO #[] ::
  fZ "check_inputs" (top 36) ::
  cO "check_inputs" 511 150 1 237 (.ref 239) (.ref 240) 241 515 ::
  fD "check_inputs" (top 36) "stuckwires.fewest" 501 242 ::
  tO #[] ::
  .mk .none none (PySem.Data.fields #[]) #[] ::
  fZ "meets_each" (top 37) ::
  cO "meets_each" 518 153 2 244 .none .none 246 521 ::
  fD "meets_each" (top 37) "stuckwires.fewest" 501 247 ::
  tO #[] ::
  .mk .none none (PySem.Data.fields #[]) #[] ::
  fZ "meet" (top 38) ::
  cO "meet" 524 155 2 249 .none .none 251 527 ::
  fD "meet" (top 38) "stuckwires.fewest" 501 252 ::
  tO #[] ::
  .mk .none none (PySem.Data.fields #[]) #[] ::
  fZ "fewest_numbers" (top 39) ::
  cO "fewest_numbers" 530 157 2 254 .none .none 256 533 ::
  fD "fewest_numbers" (top 39) "stuckwires.fewest" 501 257 ::
  tO #[] ::
  .mk .none none (PySem.Data.fields #[]) #[] ::
  fZ "longer_choices" (top 40) ::
  cO "longer_choices" 536 164 2 259 .none .none 261 539 ::
  fD "longer_choices" (top 40) "stuckwires.fewest" 501 262 ::
  tO #[.str "well" 544] ::
  tO #[] ::
  .mk .none none (PySem.Data.fields #[]) #[] ::
  tO #[.str "works" 549, .str "answers" 550] ::
  tO #[] ::
  fZ "what_fits" (top 43) ::
  cO "what_fits" 546 172 2 265 (.ref 267) (.ref 268) 269 551 ::
  fD "what_fits" (top 43) "stuckwires.answers" 542 270 ::
  tO #[] ::
  .mk .none none (PySem.Data.fields #[]) #[] ::
  tO #[.str "works" 557, .str "answers" 558, .str "rows" 559, .str "number" 560] ::
  tO #[] ::
  fZ "next_row" (top 44) ::
  cO "next_row" 554 174 2 272 (.ref 274) (.ref 275) 276 561 ::
  fD "next_row" (top 44) "stuckwires.answers" 542 277 ::
  tO #[] ::
  .mk .none none (PySem.Data.fields #[]) #[] ::
  tO #[.str "works" 567, .str "answers" 568, .str "row" 569, .str "outputs" 570, .str "left" 571] ::
  tO #[] ::
  fZ "seen_of_fitting" (top 45) ::
  cO "seen_of_fitting" 564 178 2 279 (.ref 281) (.ref 282) 283 572 ::
  fD "seen_of_fitting" (top 45) "stuckwires.answers" 542 284 ::
  tO #[] ::
  .mk .none none (PySem.Data.fields #[]) #[] ::
  tO #[.str "works" 578, .str "left" 579] ::
  tO #[] ::
  fZ "seen_of_all" (top 46) ::
  cO "seen_of_all" 575 185 1 286 (.ref 288) (.ref 289) 290 580 ::
  fD "seen_of_all" (top 46) "stuckwires.answers" 542 291 ::
  tO #[] ::
  .mk .none none (PySem.Data.fields #[]) #[] ::
  tO #[.str "row" 586, .str "number" 587, .str "worth" 588] ::
  tO #[] ::
  fZ "row_number" (top 47) ::
  cO "row_number" 583 189 1 293 (.ref 295) (.ref 296) 297 589 ::
  fD "row_number" (top 47) "stuckwires.answers" 542 298 ::
  tO #[] ::
  .mk .none none (PySem.Data.fields #[]) #[] ::
  fZ "left_behind" (top 48) ::
  cO "left_behind" 592 194 3 300 .none .none 302 595 ::
  fD "left_behind" (top 48) "stuckwires.answers" 542 303 ::
  tO #[] ::
  .mk .none none (PySem.Data.fields #[]) #[] ::
  fZ "next_number" (top 49) ::
  cO "next_number" 598 196 2 305 .none .none 307 601 ::
  fD "next_number" (top 49) "stuckwires.answers" 542 308 ::
  tO #[] ::
  .mk .none none (PySem.Data.fields #[]) #[] ::
  tO #[.str "left" 607, .str "number" 608, .str "parts" 609, .str "name" 610, .str "seen" 611, .str "part" 612] ::
  tO #[] ::
  fZ "parts_at" (top 50) ::
  cO "parts_at" 604 205 2 310 (.ref 312) (.ref 313) 314 613 ::
  fD "parts_at" (top 50) "stuckwires.answers" 542 315 ::
  tO #[] ::
  .mk .none none (PySem.Data.fields #[]) #[] ::
  tO #[.str "works" 621, .str "faults" 622] ::
  tO #[] ::
  fZ "first_test" (top 52) ::
  cO "first_test" 618 212 2 317 (.ref 319) (.ref 320) 321 623 ::
  fD "first_test" (top 52) "stuckwires.findings" 616 322 ::
  tO #[] ::
  .mk .none none (PySem.Data.fields #[]) #[] ::
  tO #[.str "works" 631, .str "faults" 632, .str "others" 633] ::
  tO #[] ::
  fZ "parted_at" (top 54) ::
  cO "parted_at" 628 215 3 324 (.ref 326) (.ref 327) 328 634 ::
  fD "parted_at" (top 54) "stuckwires.groups" 626 329 ::
  tO #[.str "zero" 639, .str "one" 640] ::
  tO #[] ::
  .mk .none none (PySem.Data.fields #[]) #[] ::
  tO #[.str "works" 645, .str "fault" 646, .str "stuck" 647] ::
  tO #[] ::
  fZ "is_spare" (top 57) ::
  cO "is_spare" 642 219 2 332 (.ref 334) (.ref 335) 336 648 ::
  fD "is_spare" (top 57) "stuckwires.lesser" 637 337 ::
  tO #[] ::
  .mk .none none (PySem.Data.fields #[]) #[] ::
  fZ "is_bare" (top 58) ::
  cO "is_bare" 651 224 1 339 .none .none 341 654 ::
  fD "is_bare" (top 58) "stuckwires.lesser" 637 342 ::
  tO #[] ::
  .mk .none none (PySem.Data.fields #[]) #[] ::
  tO #[.str "works" 660] ::
  tO #[] ::
  fZ "made_less" (top 59) ::
  cO "made_less" 657 229 1 344 (.ref 346) (.ref 347) 348 661 ::
  fD "made_less" (top 59) "stuckwires.lesser" 637 349 ::
  tO #[] ::
  .mk .none none (PySem.Data.fields #[]) #[] ::
  fZ "gate_faults" (top 60) ::
  cO "gate_faults" 664 231 1 351 .none .none 353 667 ::
  fD "gate_faults" (top 60) "stuckwires.lesser" 637 354 ::
  tO #[] ::
  .mk .none none (PySem.Data.fields #[]) #[] ::
  tO #[.str "works" 673, .str "fault" 674] ::
  tO #[] ::
  fZ "wire_of" (top 61) ::
  cO "wire_of" 670 233 2 356 (.ref 358) (.ref 359) 360 675 ::
  fD "wire_of" (top 61) "stuckwires.lesser" 637 361 ::
  tO #[] ::
  .mk .none none (PySem.Data.fields #[]) #[] ::
  tO #[.str "works" 681, .str "stuck" 682, .str "gate" 683, .str "body" 684] ::
  tO #[] ::
  fZ "constants_stuck" (top 62) ::
  cO "constants_stuck" 678 237 1 363 (.ref 365) (.ref 366) 367 685 ::
  fD "constants_stuck" (top 62) "stuckwires.lesser" 637 368 ::
  tO #[] ::
  .mk .none none (PySem.Data.fields #[]) #[] ::
  tO #[.str "works" 691, .str "right" 692, .str "stuck" 693, .str "count" 694, .str "fault" 695, .str "place" 696, .str "more" 697] ::
  tO #[] ::
  fZ "stuck_unseen" (top 63) ::
  cO "stuck_unseen" 688 243 1 370 (.ref 372) (.ref 373) 374 698 ::
  fD "stuck_unseen" (top 63) "stuckwires.lesser" 637 375 ::
  tO #[] ::
  .mk .none none (PySem.Data.fields #[]) #[] ::
  fZ "stuck_for_good" (top 64) ::
  cO "stuck_for_good" 701 258 2 377 .none .none 379 704 ::
  fD "stuck_for_good" (top 64) "stuckwires.lesser" 637 380 ::
  tO #[] ::
  .mk .none none (PySem.Data.fields #[]) #[] ::
  tO #[.str "works" 710, .str "stuck" 711, .str "place" 712, .str "wire" 713] ::
  tO #[] ::
  fZ "leg_behind" (top 65) ::
  cO "leg_behind" 707 264 4 382 (.ref 384) (.ref 385) 386 714 ::
  fD "leg_behind" (top 65) "stuckwires.lesser" 637 387 ::
  tO #[] ::
  .mk .none none (PySem.Data.fields #[]) #[] ::
  tO #[.str "works" 720, .str "stuck" 721, .str "wire" 722] ::
  tO #[] ::
  fZ "wire_behind" (top 66) ::
  cO "wire_behind" 717 268 3 389 (.ref 391) (.ref 392) 393 723 ::
  fD "wire_behind" (top 66) "stuckwires.lesser" 637 394 ::
  tO #[] ::
  .mk .none none (PySem.Data.fields #[]) #[] ::
  fZ "without_unread" (top 67) ::
  cO "without_unread" 726 272 1 396 .none .none 398 729 ::
  fD "without_unread" (top 67) "stuckwires.lesser" 637 399 ::
  tO #[] ::
  .mk .none none (PySem.Data.fields #[]) #[] ::
  tO #[.str "works" 735, .str "read" 736, .str "gate" 737] ::
  tO #[] ::
  fZ "read_wires" (top 68) ::
  cO "read_wires" 732 281 1 401 (.ref 403) (.ref 404) 405 738 ::
  fD "read_wires" (top 68) "stuckwires.lesser" 637 406 ::
  tO #[] ::
  .mk .none none (PySem.Data.fields #[]) #[] ::
  fZ "show_works" (top 71) ::
  cO "show_works" 745 289 1 408 .none .none 410 748 ::
  fD "show_works" (top 71) "stuckwires.texts" 741 411 ::
  tO #[] ::
  .mk .none none (PySem.Data.fields #[]) #[] ::
  fZ "read_works" (top 72) ::
  cO "read_works" 751 294 1 413 .none .none 415 754 ::
  fD "read_works" (top 72) "stuckwires.texts" 741 416 ::
  tO #[] ::
  .mk .none none (PySem.Data.fields #[]) #[] ::
  tO #[.str "text" 760, .str "fault" 761, .str "word" 762, .str "numbers" 763] ::
  tO #[] ::
  fZ "read_fault" (top 73) ::
  cO "read_fault" 757 306 1 418 (.ref 420) (.ref 421) 422 764 ::
  fD "read_fault" (top 73) "stuckwires.texts" 741 423 ::
  tO #[] ::
  .mk .none none (PySem.Data.fields #[]) #[] ::
  fZ "shown_row" (top 74) ::
  cO "shown_row" 767 315 2 425 .none .none 427 770 ::
  fD "shown_row" (top 74) "stuckwires.texts" 741 428 ::
  tO #[] ::
  .mk .none none (PySem.Data.fields #[]) #[] ::
  fZ "read_row" (top 75) ::
  cO "read_row" 773 317 1 430 .none .none 432 776 ::
  fD "read_row" (top 75) "stuckwires.texts" 741 433 ::
  tO #[] ::
  .mk .none none (PySem.Data.fields #[]) #[] ::
  tO #[.str "text" 782, .str "number" 783, .str "sign" 784] ::
  tO #[] ::
  fZ "read_number" (top 76) ::
  cO "read_number" 779 320 1 435 (.ref 437) (.ref 438) 439 785 ::
  fD "read_number" (top 76) "stuckwires.texts" 741 440 ::
  tO #[.str "clear" 790, .str "fewest" 791, .str "bare" 792, .str "less" 793, .str "next" 794] ::
  tO #[] ::
  .mk .none none (PySem.Data.fields #[]) #[] ::
  tO #[.str "row" 799, .str "parts" 800] ::
  tO #[] ::
  fZ "read_order" (top 79) ::
  cO "read_order" 796 331 1 443 (.ref 445) (.ref 446) 447 801 ::
  fD "read_order" (top 79) "stuckwires.orders" 788 448 ::
  tO #[] ::
  .mk .none none (PySem.Data.fields #[]) #[] ::
  fZ "read_things" (top 80) ::
  cO "read_things" 804 340 2 450 .none .none 452 807 ::
  fD "read_things" (top 80) "stuckwires.orders" 788 453 ::
  tO #[] ::
  .mk .none none (PySem.Data.fields #[]) #[] ::
  tO #[.str "text" 813, .str "between" 814, .str "parts" 815] ::
  tO #[] ::
  fZ "two_parts" (top 81) ::
  cO "two_parts" 810 352 2 455 (.ref 457) (.ref 458) 459 816 ::
  fD "two_parts" (top 81) "stuckwires.orders" 788 460 ::
  tO #[] ::
  .mk .none none (PySem.Data.fields #[]) #[] ::
  fZ "read_worths" (top 82) ::
  cO "read_worths" 819 357 1 462 .none .none 464 822 ::
  fD "read_worths" (top 82) "stuckwires.orders" 788 465 :: []
open My in
noncomputable def My.gl (P : Params) : List DictEntry :=
  dE P "__doc__" 166 .none ::
  dE P "__package__" 167 .none ::
  dE P "__loader__" 168 (.builtin "__main__.__loader__#opaque") ::
  dE P "__spec__" 169 .none ::
  dE P "__annotations__" 170 (.ref 6) ::
  dE P "__builtins__" 171 (.ref 4) ::
  dE P "__file__" 173 (.str "/claim/cut.py" 172) ::
  dE P "__cached__" 174 .none ::
  dE P "StuckError" 206 (.ref 24) ::
  dE P "NoWorks" 222 (.ref 37) ::
  dE P "NoRow" 238 (.ref 49) ::
  dE P "NoFault" 254 (.ref 61) ::
  dE P "NoText" 270 (.ref 73) ::
  dE P "NoOrder" 286 (.ref 85) ::
  dE P "TooMany" 302 (.ref 97) ::
  dE P "LEG_BOUNDS" 333 (.ref 100) ::
  dE P "works_of" 344 (.ref 114) ::
  dE P "check_gate" 354 (.ref 121) ::
  dE P "is_kind" 361 (.ref 128) ::
  dE P "are_wires_below" 367 (.ref 133) ::
  dE P "wire_worths" 373 (.ref 138) ::
  dE P "outputs_at" 379 (.ref 143) ::
  dE P "every_row" 385 (.ref 148) ::
  dE P "check_row" 391 (.ref 153) ::
  dE P "gate_worth" 403 (.ref 161) ::
  dE P "every_fault" 411 (.ref 166) ::
  dE P "stuck_places" 423 (.ref 173) ::
  dE P "worths_with" 430 (.ref 179) ::
  dE P "leg_worths" 436 (.ref 184) ::
  dE P "outputs_with" 443 (.ref 190) ::
  dE P "outputs_seen" 451 (.ref 195) ::
  dE P "rows_at_once" 457 (.ref 200) ::
  dE P "outputs_in" 463 (.ref 205) ::
  dE P "seen_of_each" 472 (.ref 212) ::
  dE P "first_unlike" 482 (.ref 219) ::
  dE P "unlike_numbers" 488 (.ref 224) ::
  dE P "finding_rows" 500 (.ref 231) ::
  dE P "MOST_INPUTS" 504 (.int 3 503) ::
  dE P "fewest_rows" 510 (.ref 236) ::
  dE P "check_inputs" 517 (.ref 243) ::
  dE P "meets_each" 523 (.ref 248) ::
  dE P "meet" 529 (.ref 253) ::
  dE P "fewest_numbers" 535 (.ref 258) ::
  dE P "longer_choices" 541 (.ref 263) ::
  dE P "WELL" 545 (.ref 264) ::
  dE P "what_fits" 553 (.ref 271) ::
  dE P "next_row" 563 (.ref 278) ::
  dE P "seen_of_fitting" 574 (.ref 285) ::
  dE P "seen_of_all" 582 (.ref 292) ::
  dE P "row_number" 591 (.ref 299) ::
  dE P "left_behind" 597 (.ref 304) ::
  dE P "next_number" 603 (.ref 309) ::
  dE P "parts_at" 615 (.ref 316) ::
  dE P "first_test" 625 (.ref 323) ::
  dE P "parted_at" 636 (.ref 330) ::
  dE P "CONSTANTS" 641 (.ref 331) ::
  dE P "is_spare" 650 (.ref 338) ::
  dE P "is_bare" 656 (.ref 343) ::
  dE P "made_less" 663 (.ref 350) ::
  dE P "gate_faults" 669 (.ref 355) ::
  dE P "wire_of" 677 (.ref 362) ::
  dE P "constants_stuck" 687 (.ref 369) ::
  dE P "stuck_unseen" 700 (.ref 376) ::
  dE P "stuck_for_good" 706 (.ref 381) ::
  dE P "leg_behind" 716 (.ref 388) ::
  dE P "wire_behind" 725 (.ref 395) ::
  dE P "without_unread" 731 (.ref 400) ::
  dE P "read_wires" 740 (.ref 407) ::
  dE P "FIGURES" 744 (.str "0123456789" 743) ::
  dE P "show_works" 750 (.ref 412) ::
  dE P "read_works" 756 (.ref 417) ::
  dE P "read_fault" 766 (.ref 424) ::
  dE P "shown_row" 772 (.ref 429) ::
  dE P "read_row" 778 (.ref 434) ::
  dE P "read_number" 787 (.ref 441) ::
  dE P "WORDS_ALONE" 795 (.ref 442) ::
  dE P "read_order" 803 (.ref 449) ::
  dE P "read_things" 809 (.ref 454) ::
  dE P "two_parts" 818 (.ref 461) ::
  dE P "read_worths" 824 (.ref 466) :: []
open My in
noncomputable def My.cTl : List Value := .int 2 0 :: .int 0 0 :: .ref 20 :: .int 4 0 :: .int 0 0 :: .ref 33 :: .int 6 0 :: .int 0 0 :: .ref 45 :: .int 8 0 :: .int 0 0 :: .ref 57 :: .int 10 0 :: .int 0 0 :: .ref 69 :: .int 12 0 :: .int 0 0 :: .ref 81 :: .int 14 0 :: .int 0 0 :: .ref 93 :: .int 18 0 :: .int 0 0 :: .ref 113 :: .int 28 0 :: .int 0 0 :: .ref 120 :: .int 36 0 :: .int 0 0 :: .ref 127 :: .int 38 0 :: .int 0 0 :: .ref 132 :: .int 40 0 :: .int 0 0 :: .ref 137 :: .int 46 0 :: .int 0 0 :: .ref 142 :: .int 49 0 :: .int 0 0 :: .ref 147 :: .int 54 0 :: .int 0 0 :: .ref 152 :: .int 59 0 :: .int 0 0 :: .ref 160 :: .int 74 0 :: .int 0 0 :: .ref 165 :: .int 84 0 :: .int 0 0 :: .ref 172 :: .int 95 0 :: .int 0 0 :: .ref 178 :: .int 102 0 :: .int 0 0 :: .ref 183 :: .int 104 0 :: .int 0 0 :: .ref 189 :: .int 108 0 :: .int 0 0 :: .ref 194 :: .int 113 0 :: .int 0 0 :: .ref 199 :: .int 121 0 :: .int 0 0 :: .ref 204 :: .int 123 0 :: .int 0 0 :: .ref 211 :: .int 128 0 :: .int 0 0 :: .ref 218 :: .int 131 0 :: .int 0 0 :: .ref 223 :: .int 136 0 :: .int 0 0 :: .ref 230 :: .int 146 0 :: .int 0 0 :: .ref 235 :: .int 150 0 :: .int 0 0 :: .ref 242 :: .int 153 0 :: .int 0 0 :: .ref 247 :: .int 155 0 :: .int 0 0 :: .ref 252 :: .int 157 0 :: .int 0 0 :: .ref 257 :: .int 164 0 :: .int 0 0 :: .ref 262 :: .int 172 0 :: .int 0 0 :: .ref 270 :: .int 174 0 :: .int 0 0 :: .ref 277 :: .int 178 0 :: .int 0 0 :: .ref 284 :: .int 185 0 :: .int 0 0 :: .ref 291 :: .int 189 0 :: .int 0 0 :: .ref 298 :: .int 194 0 :: .int 0 0 :: .ref 303 :: .int 196 0 :: .int 0 0 :: .ref 308 :: .int 205 0 :: .int 0 0 :: .ref 315 :: .int 212 0 :: .int 0 0 :: .ref 322 :: .int 215 0 :: .int 0 0 :: .ref 329 :: .int 219 0 :: .int 0 0 :: .ref 337 :: .int 224 0 :: .int 0 0 :: .ref 342 :: .int 229 0 :: .int 0 0 :: .ref 349 :: .int 231 0 :: .int 0 0 :: .ref 354 :: .int 233 0 :: .int 0 0 :: .ref 361 :: .int 237 0 :: .int 0 0 :: .ref 368 :: .int 243 0 :: .int 0 0 :: .ref 375 :: .int 258 0 :: .int 0 0 :: .ref 380 :: .int 264 0 :: .int 0 0 :: .ref 387 :: .int 268 0 :: .int 0 0 :: .ref 394 :: .int 272 0 :: .int 0 0 :: .ref 399 :: .int 281 0 :: .int 0 0 :: .ref 406 :: .int 289 0 :: .int 0 0 :: .ref 411 :: .int 294 0 :: .int 0 0 :: .ref 416 :: .int 306 0 :: .int 0 0 :: .ref 423 :: .int 315 0 :: .int 0 0 :: .ref 428 :: .int 317 0 :: .int 0 0 :: .ref 433 :: .int 320 0 :: .int 0 0 :: .ref 440 :: .int 331 0 :: .int 0 0 :: .ref 448 :: .int 340 0 :: .int 0 0 :: .ref 453 :: .int 352 0 :: .int 0 0 :: .ref 460 :: .int 357 0 :: .int 0 0 :: .ref 465 :: []
noncomputable abbrev My.cut (m : Nat) : List Obj → List Obj
  | o :: r => o :: Obj.mk .none none (.fields (Array.mk (My.cTl.take m))) #[] :: r
  | [] => []
noncomputable def My.hp (x : Value) (n m q : Nat) (P : Params) : Heap := Heap.mk (Array.mk (boot_o_0 P :: boot_o_1 P :: boot_o_2 P :: Obj.mk (.type "dict") none (.dict (Array.mk (My.dE P "__name__" 165 x :: (My.gl P).take n)) (n + 1)) #[] :: boot_o_4 P :: boot_o_5 P :: boot_o_6 P :: boot_o_7 P :: boot_o_8 P :: boot_o_9 P :: boot_o_10 P :: My.cut q ((My.nw P).take m))) (boot_heap P).life
noncomputable def My.bd : List Stmt := behindTheImports PySem.Challenge.rw_stuckwires_k65_rows_put_and_run.row.prog
noncomputable def My.ev : Env := { scope := (PySem.Challenge.rw_stuckwires_k65_rows_put_and_run.row.prog).main.scope, locals := mainNs, globals := mainNs, cells := [], code := .ref 13, frame := some 14 }
noncomputable def My.cd : Code := .body My.bd My.ev
noncomputable def My.st (w : World) (os : OsState) (x : Value) (n m q t : Nat) : Shared := ⟨My.hp x n m q w.params, #[], boot_drawn, t, os⟩
set_option maxRecDepth 100000 in
set_option maxHeartbeats 0 in
theorem My.c0 (w : World) (os : OsState) : topGo treeTable PySem.Challenge.rw_stuckwires_k65_rows_put_and_run.row.prog w 11 (some (.ref 6)) 12 ⟨boot_heap w.params, #[], boot_drawn, boot_toks, os⟩ (topStub PySem.Challenge.rw_stuckwires_k65_rows_put_and_run.row.prog) = some ((My.st w os (.str "__main__" 164) 8 3 0 187), ⟨denote treeTable My.cd, My.cd, ⟨0, 0, 0, 0⟩, [topFrame ⟨0, 0, 0, 0⟩]⟩) := by kernel_rfl
set_option maxRecDepth 100000 in
set_option maxHeartbeats 0 in
theorem My.cb (w : World) (os : OsState) : segRun treeTable PySem.Challenge.rw_stuckwires_k65_rows_put_and_run.row.prog w 11 (some (.ref 6)) 1 1 (My.st w os (.str "__main__" 164) 8 3 0 187) (blockOf My.bd My.ev My.cd ⟨0, 0, 0, 0⟩ [topFrame ⟨0, 0, 0, 0⟩]) = some (.next, (My.st w os (.str "__main__" 164) 8 3 0 187), My.cd, ⟨0, 0, 0, 0⟩) := by kernel_rfl
set_option maxRecDepth 100000 in
set_option maxHeartbeats 0 in
theorem My.s1F (w : World) (os : OsState) : segRun treeTable PySem.Challenge.rw_stuckwires_k65_rows_put_and_run.row.prog (w.withFollow "special-get-raises" false) 11 (some (.ref 6)) 1 1619 (My.st (w.withFollow "special-get-raises" false) os (.str "__main__" 164) 8 3 0 187) (piecesOf ((My.bd.drop 0).take 10) My.ev My.cd ⟨0, 0, 0, 0⟩ [topFrame ⟨0, 0, 0, 0⟩]) = some (.next, (My.st (w.withFollow "special-get-raises" false) os (.str "stuckwires.works" 303) 16 96 21 334), My.cd, ⟨17, 0, 17, 10⟩) := by kernel_rfl
set_option maxRecDepth 100000 in
set_option maxHeartbeats 0 in
theorem My.s1T (w : World) (os : OsState) : segRun treeTable PySem.Challenge.rw_stuckwires_k65_rows_put_and_run.row.prog (w.withFollow "special-get-raises" true) 11 (some (.ref 6)) 1 1619 (My.st (w.withFollow "special-get-raises" true) os (.str "__main__" 164) 8 3 0 187) (piecesOf ((My.bd.drop 0).take 10) My.ev My.cd ⟨0, 0, 0, 0⟩ [topFrame ⟨0, 0, 0, 0⟩]) = some (.next, (My.st (w.withFollow "special-get-raises" true) os (.str "stuckwires.works" 303) 16 96 21 334), My.cd, ⟨17, 0, 17, 10⟩) := by kernel_rfl
theorem My.s1 (w : World) (os : OsState) : segRun treeTable PySem.Challenge.rw_stuckwires_k65_rows_put_and_run.row.prog w 11 (some (.ref 6)) 1 1619 (My.st w os (.str "__main__" 164) 8 3 0 187) (piecesOf ((My.bd.drop 0).take 10) My.ev My.cd ⟨0, 0, 0, 0⟩ [topFrame ⟨0, 0, 0, 0⟩]) = some (.next, (My.st w os (.str "stuckwires.works" 303) 16 96 21 334), My.cd, ⟨17, 0, 17, 10⟩) := by
  have e := World.withFollow_self w "special-get-raises"
  cases hb : w.params.followText "special-get-raises" with
  | false => rw [hb] at e; have h := My.s1F w os; rw [e] at h; exact h
  | true => rw [hb] at e; have h := My.s1T w os; rw [e] at h; exact h
set_option maxRecDepth 100000 in
set_option maxHeartbeats 0 in
theorem My.s2 (w : World) (os : OsState) : segRun treeTable PySem.Challenge.rw_stuckwires_k65_rows_put_and_run.row.prog w 11 (some (.ref 6)) 1 1060 (My.st w os (.str "stuckwires.works" 303) 16 96 21 334) (piecesOf ((My.bd.drop 10).take 41) My.ev My.cd ⟨17, 0, 17, 10⟩ [topFrame ⟨0, 0, 0, 0⟩]) = some (.next, (My.st w os (.str "stuckwires.answers" 542) 53 305 126 616), My.cd, ⟨205, 0, 210, 31⟩) := by kernel_rfl
set_option maxRecDepth 100000 in
set_option maxHeartbeats 0 in
theorem My.s3 (w : World) (os : OsState) : segRun treeTable PySem.Challenge.rw_stuckwires_k65_rows_put_and_run.row.prog w 11 (some (.ref 6)) 1 787 (My.st w os (.str "stuckwires.answers" 542) 53 305 126 616) (piecesOf ((My.bd.drop 51).take 33) My.ev My.cd ⟨205, 0, 210, 31⟩ [topFrame ⟨0, 0, 0, 0⟩]) = some (.next, (My.st w os (.str "stuckwires.desk" 825) 80 455 198 827), My.cd, ⟨361, 0, 361, 8⟩) := by kernel_rfl
theorem My.ch (w : World) (os : OsState) (r : Shared) (h : topRun treeTable PySem.Challenge.rw_stuckwires_k65_rows_put_and_run.row.prog w 11 (some (.ref 6)) 971 (My.st w os (.str "stuckwires.desk" 825) 80 455 198 827) (restOf (My.bd.drop 84) My.ev My.cd ⟨361, 0, 361, 8⟩ [topFrame ⟨0, 0, 0, 0⟩]) = some r) : topRun treeTable PySem.Challenge.rw_stuckwires_k65_rows_put_and_run.row.prog w 11 (some (.ref 6)) (12 + (1 + (1619 + (1060 + (787 + (971)))))) ⟨boot_heap w.params, #[], boot_drawn, boot_toks, os⟩ (topStub PySem.Challenge.rw_stuckwires_k65_rows_put_and_run.row.prog) = some r := by
  have h3 := piece_app (My.s3 w os) h
  rw [My.takeDrop My.bd 51 33 84 rfl] at h3
  have h2 := piece_app (My.s2 w os) h3
  rw [My.takeDrop My.bd 10 41 51 rfl] at h2
  have h1 := piece_app (My.s1 w os) h2
  rw [My.takeDrop My.bd 0 10 10 rfl] at h1
  rw [List.drop_zero] at h1
  exact go_top (My.c0 w os) (piece_block (My.cb w os) h1)
end
section
open PySem PySem.W PyProof.Rows
set_option maxRecDepth 100000 in
set_option maxHeartbeats 0 in
theorem My.oA (w : World) (os : OsState) : (topRun treeTable PySem.Challenge.rw_stuckwires_k65_rows_put_and_run.row.prog w 11 (some (.ref 6)) 971 (My.st w os (.str "stuckwires.desk" 825) 80 455 198 827) (restOf (My.bd.drop 84) My.ev My.cd ⟨361, 0, 361, 8⟩ [topFrame ⟨0, 0, 0, 0⟩])).map (fun s => (My.obsC PySem.Challenge.rw_stuckwires_k65_rows_put_and_run.row.prog My.view My.loo (fun s => xlAt My.view [] s && recOk (RowW.records (OpenRow.toRowW PySem.Challenge.rw_stuckwires_k65_rows_put_and_run.row)) s) w.params s).1) = some true := by kernel_rfl
set_option maxRecDepth 100000 in
set_option maxHeartbeats 0 in
theorem My.oB (w : World) (os : OsState) : (topRun treeTable PySem.Challenge.rw_stuckwires_k65_rows_put_and_run.row.prog w 11 (some (.ref 6)) 971 (My.st w os (.str "stuckwires.desk" 825) 80 455 198 827) (restOf (My.bd.drop 84) My.ev My.cd ⟨361, 0, 361, 8⟩ [topFrame ⟨0, 0, 0, 0⟩])).map (fun s => (My.obsC PySem.Challenge.rw_stuckwires_k65_rows_put_and_run.row.prog My.view My.loo (fun s => xlAt My.view [] s && recOk (RowW.records (OpenRow.toRowW PySem.Challenge.rw_stuckwires_k65_rows_put_and_run.row)) s) w.params s).2) = some (openGood My.view My.loo) := by kernel_rfl
set_option maxRecDepth 100000 in
set_option maxHeartbeats 0 in
theorem My.oY (w : World) (os : OsState) : (topRun treeTable PySem.Challenge.rw_stuckwires_k65_rows_put_and_run.row.prog w 11 (some (.ref 6)) 971 (My.st w os (.str "stuckwires.desk" 825) 80 455 198 827) (restOf (My.bd.drop 84) My.ev My.cd ⟨361, 0, 361, 8⟩ [topFrame ⟨0, 0, 0, 0⟩])).map (fun s => (Hook.obs (kHook My.part My.partAt (fun _ => by kernel_rfl))) s) = some ((Hook.val (kHook My.part My.partAt (fun _ => by kernel_rfl))) w) := by kernel_rfl
theorem My.mpE {α β γ : Type} {o : Option α} {f : α → β × γ} {b : β × γ} (h1 : o.map (fun s => (f s).1) = some b.1) (h2 : o.map (fun s => (f s).2) = some b.2) : o.map (fun s => f s) = some b := by
  cases o with
  | none => cases h1
  | some a => exact congrArg some (Prod.ext (Option.some.inj h1) (Option.some.inj h2))
set_option maxRecDepth 100000 in
set_option maxHeartbeats 0 in
theorem My.hl0 : PySem.W.LeftO PySem.Challenge.rw_stuckwires_k65_rows_put_and_run.row.prog My.view My.loo (fun s => xlAt My.view [] s && recOk (RowW.records (OpenRow.toRowW PySem.Challenge.rw_stuckwires_k65_rows_put_and_run.row)) s) (Hook.obs (kHook My.part My.partAt (fun _ => by kernel_rfl))) (Hook.val (kHook My.part My.partAt (fun _ => by kernel_rfl))) (12 + (1 + (1619 + (1060 + (787 + (971)))))) := My.leftC (m₀ := 11) (ann := some (.ref 6)) (by kernel_rfl) (by decide) (fun s => by kernel_rfl) (fun P => by kernel_rfl) (fun w os => My.mapCut (My.ch w os) (My.mpE (b := (true, openGood My.view My.loo)) (My.oA w os) (My.oB w os))) (fun w os => My.mapCut (My.ch w os) (My.oY w os))
end
namespace L2
open PySem PySem.Spec PyProof.Rows

noncomputable abbrev Key := Sum Int Str
noncomputable def keyIs : Key → Value → Bool
  | .inl k, v => Value.isInt k v
  | .inr x, v => Value.isStrOf x v
noncomputable def keyH (w : World) : Key → Int
  | .inl k => hashInt k
  | .inr x => hashStr w x
theorem keyIs_shape : ∀ {k : Key} {v : Value}, keyIs k v = true → (∃ i t, k = Sum.inl i ∧ v = Value.int i t) ∨ (∃ x t, k = Sum.inr x ∧ v = Value.str x t)
  | .inl i, v, h => by
    obtain ⟨t, e⟩ := Value.isInt_shape (k := i) (v := v) h
    exact .inl ⟨i, t, rfl, e⟩
  | .inr x, v, h => by
    obtain ⟨t, e⟩ := Value.isStrOf_shape (x := x) (v := v) h
    exact .inr ⟨x, t, rfl, e⟩
theorem keyIs_int (i : Int) (t : Tok) : keyIs (.inl i) (.int i t) = true := by simp [keyIs, Value.isInt]
theorem keyIs_str (x : Str) (t : Tok) : keyIs (.inr x) (.str x t) = true := by simp [keyIs, Value.isStrOf]
theorem key_ll (a b : Int) : decide ((Sum.inl a : Key) = Sum.inl b) = (a == b) := by
  by_cases e : a = b
  · subst e; simp
  · have h : ¬ (Sum.inl a : Key) = Sum.inl b := fun q => e (Sum.inl.inj q)
    rw [decide_eq_false h]
    exact (beq_eq_false_iff_ne.mpr e).symm
theorem key_rr (a b : Str) : decide ((Sum.inr a : Key) = Sum.inr b) = decide (a = b) := by
  by_cases e : a = b
  · subst e; simp
  · have h : ¬ (Sum.inr a : Key) = Sum.inr b := fun q => e (Sum.inr.inj q)
    rw [decide_eq_false h, decide_eq_false e]
theorem key_lr (a : Int) (b : Str) : decide ((Sum.inl a : Key) = Sum.inr b) = false := decide_eq_false (fun q => nomatch q)
theorem key_rl (a : Str) (b : Int) : decide ((Sum.inr a : Key) = Sum.inl b) = false := decide_eq_false (fun q => nomatch q)

noncomputable def mixKind (prog : Program) (w : World) : PySem.KeyKind prog w Key where
  is := keyIs
  hash := keyH w
  inj := fun v a b ha hb => by
    rcases keyIs_shape ha with ⟨i, t, rfl, rfl⟩ | ⟨x, t, rfl, rfl⟩
    · rcases keyIs_shape hb with ⟨j, u, rfl, e⟩ | ⟨y, u, rfl, e⟩
      · injection e with e1 _; rw [e1]
      · exact nomatch e
    · rcases keyIs_shape hb with ⟨j, u, rfl, e⟩ | ⟨y, u, rfl, e⟩
      · exact nomatch e
      · injection e with e1 _; rw [e1]
  byValue := fun k v h => by
    rcases keyIs_shape h with ⟨i, t, rfl, rfl⟩ | ⟨x, t, rfl, rfl⟩ <;> rfl
  pyHash := fun hv h => by
    rcases keyIs_shape hv with ⟨i, t, rfl, rfl⟩ | ⟨x, t, rfl, rfl⟩
    · exact wpAny_pyHash_int h
    · exact wpAny_pyHash_str h
  eqBool := fun hu hv h => by
    rcases keyIs_shape hu with ⟨i, t, rfl, rfl⟩ | ⟨x, t, rfl, rfl⟩
    · rcases keyIs_shape hv with ⟨j, u, rfl, rfl⟩ | ⟨y, u, rfl, rfl⟩
      · rw [key_ll] at h; exact wpAny_eqBool_int h
      · rw [key_lr] at h; exact SeqAt.EqAt.int_str i t y u _ _ _ _ h
    · rcases keyIs_shape hv with ⟨j, u, rfl, rfl⟩ | ⟨y, u, rfl, rfl⟩
      · rw [key_rl] at h; exact SeqAt.EqAt.str_int x t j u _ _ _ _ h
      · rw [key_rr] at h; exact wpAny_eqBool_str h
  «strs» := fun k x t v h => by
    rcases keyIs_shape h with ⟨i, u, rfl, e⟩ | ⟨y, u, rfl, e⟩
    · exact nomatch e
    · injection e with e1 _
      subst e1
      cases v <;> rfl

theorem mixKind_int (prog : Program) (w : World) (i : Int) (t : Tok) : (mixKind prog w).is (.inl i) (.int i t) = true := keyIs_int i t
theorem mixKind_str (prog : Program) (w : World) (x : Str) (t : Tok) : (mixKind prog w).is (.inr x) (.str x t) = true := keyIs_str x t
end L2

namespace L2
open PySem PySem.Spec PyProof.Rows

inductive V where
  | non | bl (b : Bool) | int (i : Int) | str (x : Str) | byt (b : Array UInt8) | flt (b : UInt64) | ref (a : Addr) | ty (n : String)
  deriving DecidableEq

noncomputable def RelV : V → Value → Prop
  | .non, u => u = Value.none
  | .bl b, u => u = Value.bool b
  | .int i, u => ∃ t, u = Value.int i t
  | .str x, u => ∃ t, u = Value.str x t
  | .byt b, u => ∃ t, u = Value.bytes b t
  | .flt b, u => ∃ t, u = Value.float b t
  | .ref a, u => u = Value.ref a
  | .ty n, u => u = Value.type n

noncomputable abbrev Vals : List V → List Value → Prop := Paired RelV
theorem Vals.length {xs : List V} {us : List Value} (r : Vals xs us) : xs.length = us.length := Paired.length r
theorem Vals.get : ∀ {xs : List V} {us : List Value} {i : Nat} {x : V}, Vals xs us → xs[i]? = some x → ∃ u, us[i]? = some u ∧ RelV x u
  | _, _, _, _, .nil, e => by simp at e
  | _, _, 0, _, .cons r _, e => by simp at e; subst e; exact ⟨_, rfl, r⟩
  | _, _, i + 1, x, .cons _ t, e => by
    obtain ⟨u, h1, h2⟩ := Vals.get (i := i) (x := x) t (by simpa using e)
    exact ⟨u, by simpa using h1, h2⟩
theorem Vals.set {x : V} {u : Value} (r : RelV x u) : ∀ {xs : List V} {us : List Value} (i : Nat), Vals xs us → Vals (xs.set i x) (us.set i u)
  | _, _, _, .nil => .nil
  | _, _, 0, .cons _ t => .cons r t
  | _, _, i + 1, .cons q t => .cons q (Vals.set r i t)
theorem Vals.append : ∀ {xs ys : List V} {us ws : List Value}, Vals xs us → Vals ys ws → Vals (xs ++ ys) (us ++ ws)
  | _, _, _, _, .nil, s => s
  | _, _, _, _, .cons r t, s => .cons r (Vals.append t s)
theorem Vals.take : ∀ {xs : List V} {us : List Value} (n : Nat), Vals xs us → Vals (xs.take n) (us.take n)
  | _, _, 0, _ => .nil
  | _, _, _ + 1, .nil => .nil
  | _, _, n + 1, .cons r t => .cons r (Vals.take n t)
theorem Vals.drop : ∀ {xs : List V} {us : List Value} (n : Nat), Vals xs us → Vals (xs.drop n) (us.drop n)
  | _, _, 0, r => r
  | _, _, _ + 1, .nil => .nil
  | _, _, n + 1, .cons _ t => Vals.drop n t
theorem Vals.none_of : ∀ {xs : List V} {us : List Value} {i : Nat}, Vals xs us → xs[i]? = none → us[i]? = none := fun {xs us i} r e => by
  have h1 := r.length
  have h2 : xs.length ≤ i := List.getElem?_eq_none_iff.mp e
  exact List.getElem?_eq_none_iff.mpr (by omega)

noncomputable def RelO : Option V → Option Value → Prop
  | some v, some u => RelV v u
  | none, none => True
  | _, _ => False
noncomputable def KV {κ : Type} : List (κ × V) → List (κ × Value) → Prop := Paired fun (p : κ × V) (q : κ × Value) => p.1 = q.1 ∧ RelV p.2 q.2

noncomputable def kV : Key → V
  | .inl i => .int i
  | .inr x => .str x

inductive HO where
    | lst (xs : List V)
    | tup (xs : List V)
    | dK (kvs : List (Key × V)) | dT (kvs : List (List Key × V))
    | set (S : Int → Bool) (n : Nat)
    | ins (C dx : Addr) (fs : List (Str × V))
    | own (x : Addr)
    | xd (fs : List (Str × V))
    | met (f x : Addr)
    | rng (lo hi : Int)
    | frz (o : Obj) (u : HO)
    | tbl (ps : Array Value)
    | ext (φ : Heap → Prop)

noncomputable abbrev Hp := Addr → Option HO
noncomputable def upd (H : Hp) (a : Addr) (o : HO) : Hp := fun b => if b = a then some o else H b
theorem upd_same {H : Hp} {a : Addr} {o : HO} : upd H a o a = some o := by unfold upd; rw [if_pos rfl]
theorem upd_ne {H : Hp} {a b : Addr} {o : HO} (h : b ≠ a) : upd H a o b = H b := by unfold upd; rw [if_neg h]
theorem ne_of {H : Hp} {a b : Addr} {o u : HO} (h : H a = some o) (h' : H b = some u) (d : o ≠ u) : a ≠ b := by
  intro e; subst e; rw [h] at h'; exact d (Option.some.inj h')
theorem ne_of_none {H : Hp} {a b : Addr} {o : HO} (h : H a = some o) (h' : H b = none) : a ≠ b := by
  intro e; subst e; rw [h] at h'; cases h'

noncomputable def RdT (H : Hp) (b : Addr) (xs : List V) : Prop := H b = some (.tup xs) ∨ ∃ o, H b = some (.frz o (.tup xs))
theorem RdT.put {H : Hp} {a c : Addr} {o : HO} {xs : List V} (q : RdT H c xs) (n : c ≠ a) : RdT (upd H a o) c xs := by
  rcases q with q | ⟨u, q⟩
  · exact .inl (by rw [upd_ne n]; exact q)
  · exact .inr ⟨u, by rw [upd_ne n]; exact q⟩
theorem RdT.upd {H : Hp} {a c : Addr} {o : HO} {xs : List V} (q : RdT H c xs) (n : H a = none) : RdT (L2.upd H a o) c xs := by
  rcases q with q | ⟨u, q⟩
  · exact RdT.put (.inl q) (ne_of_none q n)
  · exact RdT.put (.inr ⟨u, q⟩) (ne_of_none q n)
theorem RdT.same {H H' : Hp} {c : Addr} {xs : List V} (q : RdT H c xs) (s : ∀ b o, H b = some o → H' b = some o) : RdT H' c xs := by
  rcases q with q | ⟨u, q⟩
  · exact .inl (s _ _ q)
  · exact .inr ⟨u, s _ _ q⟩
theorem RdT.write {H : Hp} {D c : Addr} {l : List V} {o : HO} {xs : List V} (q : RdT H c xs) (hD : H D = some (.lst l)) : RdT (L2.upd H D o) c xs := by
  rcases q with q | ⟨u, q⟩
  · exact RdT.put (.inl q) (ne_of q hD (fun z => nomatch z))
  · exact RdT.put (.inr ⟨u, q⟩) (ne_of q hD (fun z => nomatch z))
theorem RdT.keep {H H' : Hp} {c : Addr} {xs : List V} (q : RdT H c xs) (k : ∀ o, H c = some o → (∃ ys, o = .tup ys ∨ ∃ u, o = .frz u (.tup ys)) → H' c = some o) : RdT H' c xs := by
  rcases q with q | ⟨u, q⟩
  · exact .inl (k _ q ⟨xs, .inl rfl⟩)
  · exact .inr ⟨u, k _ q ⟨xs, .inr ⟨u, rfl⟩⟩⟩
section
variable (P : Program) (w : World)
noncomputable def ObjOk (H : Hp) (h : Heap) (a : Addr) : HO → Prop
  | .lst xs => xs.length ≤ sizeLine ∧ ∃ (its : List Value) (n : Nat), Vals xs its ∧ h.get? a = some { cls := .type "list", data := .seq its.toArray n }
  | .tup xs => xs.length ≤ sizeLine ∧ ∃ its : List Value, Vals xs its ∧ IsTup h a its.toArray
  | .dK kvs => kvs.length ≤ sizeLine ∧ (a == sysModules) = false ∧ ∃ vs, KV kvs vs ∧ h.DictOf (mixKind P w) a vs
  | .dT kvs => kvs.length ≤ sizeLine ∧ (a == sysModules) = false ∧ ∃ xs : List (List Key × Addr × Value),
      Paired (fun (p : List Key × V) (q : List Key × Addr × Value) => p.1 = q.1 ∧ RdT H q.2.1 (p.1.map kV) ∧ RelV p.2 q.2.2) kvs xs ∧
      ∃ o es ep, h.get? a = some o ∧ o.ExactDict ∧ o.data = .dict es ep ∧ es.toList = xs.map (entryOfKey (tupleKind (mixKind P w))) ∧ (xs.map (·.1)).Nodup
  | .set S n => h.SetOf (intKind P w) a S n
  | .ins C dx fs => H dx = some (.own a) ∧ fs.length ≤ 1000 ∧ dx ≠ a ∧ h.get? a = some (PySem.W.instObj C dx) ∧
      ∃ mA, h.Ns1 dx mA ∧ (∀ f, RelO (fs.lookup f) (mA f)) ∧ PySem.Within mA (fs.map (·.1))
  | .own _ => ∃ o, h.get? a = some o
  | .xd fs => ∃ mA, h.Ns1 a mA ∧ ∀ f, RelO (fs.lookup f) (mA f)
  | .rng lo hi => ∃ t u v, h.get? a = some { cls := .type "range", data := .fields #[.int lo t, .int hi u, .int 1 v] }
  | .frz o u => h.get? a = some o ∧ ObjOk H h a u
  | .tbl ps => h.get? a = some { cls := .none, data := .fields ps }
  | .met f x => h.get? a = some (PySem.W.methodObj (.ref f) (.ref x))
  | .ext φ => φ h ∧ (∃ o, h.get? a = some o) ∧ ∀ h1 h2 : Heap, φ h1 → (∀ o, h1.get? a = some o → h2.get? a = some o) → φ h2
noncomputable def HOk (H : Hp) (h : Heap) : Prop := ∀ a o, H a = some o → ObjOk P w H h a o
end

section
variable {P : Program} {w : World} {H H' : Hp} {h h' : Heap} {a : Addr} {o : HO}
theorem ObjOk.lt (x : ObjOk P w H h a o) : a < h.objs.size := by
  cases o with
  | lst xs => obtain ⟨_, _, _, _, e⟩ := x; exact Heap.lt_size e
  | tup xs => obtain ⟨_, _, _, p⟩ := x; exact p.lt
  | dK kvs => obtain ⟨_, _, _, _, o, _, _, e, _⟩ := x; exact Heap.lt_size e
  | dT kvs => obtain ⟨_, _, _, _, o, _, _, e, _⟩ := x; exact Heap.lt_size e
  | set S n => obtain ⟨o, _, _, _, e, _⟩ := x; exact Heap.lt_size e
  | ins C dx fs => obtain ⟨_, _, _, e, _⟩ := x; exact Heap.lt_size e
  | own y => obtain ⟨_, e⟩ := x; exact Heap.lt_size e
  | xd fs => obtain ⟨_, ⟨_, _, _, e, _⟩, _⟩ := x; exact Heap.lt_size e
  | rng lo hi => obtain ⟨_, _, _, e⟩ := x; exact Heap.lt_size e
  | frz ob u => obtain ⟨e, _⟩ := x; exact Heap.lt_size e
  | tbl ps => exact Heap.lt_size (show h.get? a = some _ from x)
  | met f y => exact Heap.lt_size (show h.get? a = some _ from x)
  | ext φ => obtain ⟨_, ⟨_, e⟩, _⟩ := x; exact Heap.lt_size e
theorem Paired.mapP {α β : Type} {F G : α → β → Prop} : ∀ {l₁ : List α} {l₂ : List β}, Paired F l₁ l₂ → (∀ a b, F a b → G a b) → Paired G l₁ l₂
  | _, _, .nil, _ => .nil
  | _, _, .cons r t, f => .cons (f _ _ r) (Paired.mapP t f)
theorem ObjOk.stay (x : ObjOk P w H h a o) (k : ∀ b u, (b = a ∨ H b = some (.own a)) → h.get? b = some u → h'.get? b = some u)
    (ho : ∀ b, H b = some (.own a) → H' b = some (.own a)) (ht : ∀ b xs, RdT H b xs → RdT H' b xs) : ObjOk P w H' h' a o := by
  induction o with
  | lst xs => obtain ⟨z, its, n, r, e⟩ := x; exact ⟨z, its, n, r, k _ _ (.inl rfl) e⟩
  | tup xs => obtain ⟨z, its, r, ob, e, c⟩ := x; exact ⟨z, its, r, ob, k _ _ (.inl rfl) e, c⟩
  | dK kvs => obtain ⟨z, y, vs, r, ob, es, ep, e, c⟩ := x; exact ⟨z, y, vs, r, ob, es, ep, k _ _ (.inl rfl) e, c⟩
  | dT kvs =>
    obtain ⟨z, y, xs, r, ob, es, ep, e, c⟩ := x
    exact ⟨z, y, xs, Paired.mapP r fun p q z => ⟨z.1, ht _ _ z.2.1, z.2.2⟩, ob, es, ep, k _ _ (.inl rfl) e, c⟩
  | set S n => obtain ⟨ob, es, ep, t, e, c⟩ := x; exact ⟨ob, es, ep, t, k _ _ (.inl rfl) e, c⟩
  | ins C dx fs =>
    obtain ⟨d, z, ne, e, mA, ⟨od, es, ep, e2, c⟩, r⟩ := x
    exact ⟨ho _ d, z, ne, k _ _ (.inl rfl) e, mA, ⟨od, es, ep, k _ _ (.inr d) e2, c⟩, r⟩
  | own y => obtain ⟨ob, e⟩ := x; exact ⟨ob, k _ _ (.inl rfl) e⟩
  | xd fs => obtain ⟨mA, ⟨od, es, ep, e, c⟩, r⟩ := x; exact ⟨mA, ⟨od, es, ep, k _ _ (.inl rfl) e, c⟩, r⟩
  | rng lo hi => obtain ⟨t, u, v, e⟩ := x; exact ⟨t, u, v, k _ _ (.inl rfl) e⟩
  | frz ob u ih => obtain ⟨e, q⟩ := x; exact ⟨k _ _ (.inl rfl) e, ih q⟩
  | tbl ps =>
    have e : h.get? a = some { cls := .none, data := .fields ps } := x
    show h'.get? a = some { cls := .none, data := .fields ps }
    exact k a _ (.inl rfl) e
  | met f y =>
    have e : h.get? a = some (PySem.W.methodObj (.ref f) (.ref y)) := x
    show h'.get? a = some (PySem.W.methodObj (.ref f) (.ref y))
    exact k a _ (.inl rfl) e
  | ext φ => obtain ⟨p, ⟨o, e⟩, st⟩ := x; exact ⟨st _ _ p fun o q => k _ _ (.inl rfl) q, ⟨o, k _ _ (.inl rfl) e⟩, st⟩
theorem HOk.lt (x : HOk P w H h) (e : H a = some o) : a < h.objs.size := (x a o e).lt
theorem HOk.fresh (x : HOk P w H h) (e : h.objs.size ≤ a) : H a = none := by
  cases q : H a with
  | none => rfl
  | some u => exact absurd (Nat.lt_of_lt_of_le (x.lt q) e) (Nat.lt_irrefl _)
theorem HOk.kept (x : HOk P w H h) (k : ∀ b u, h.get? b = some u → h'.get? b = some u) : HOk P w H h' := fun a o e =>
  (x a o e).stay (fun b u _ q => k b u q) (fun _ q => q) fun _ _ q => q
theorem HOk.laid (x : HOk P w H h) (k : ∀ b u, h.get? b = some u → h'.get? b = some u) (hp : h.objs.size ≤ a) (new : ObjOk P w (upd H a o) h' a o) : HOk P w (upd H a o) h' := fun b u e => by
  have hn := x.fresh hp
  by_cases hb : b = a
  · subst hb; rw [upd_same] at e; cases e; exact new
  · rw [upd_ne hb] at e
    exact (x b u e).stay (fun c v _ q => k c v q) (fun c q => by rw [upd_ne (ne_of_none q hn)]; exact q) fun c xs q => q.upd hn
end

noncomputable def Rd (H : Hp) (a : Addr) (u : HO) : Prop := H a = some u ∨ ∃ o, H a = some (.frz o u)
theorem Rd.of {H : Hp} {a : Addr} {u : HO} (h : H a = some u) : Rd H a u := .inl h
theorem Rd.ok {P : Program} {w : World} {H : Hp} {h : Heap} {a : Addr} {u : HO} (r : Rd H a u) (x : HOk P w H h) : ObjOk P w H h a u := by
  rcases r with r | ⟨o, r⟩
  · exact x a u r
  · obtain ⟨_, q⟩ := x a _ r
    exact q
noncomputable def Mut : Option HO → Prop
  | some (.lst _) => True
  | some (.dK _) => True
  | some (.dT _) => True
  | some (.set _ _) => True
  | some (.ins _ _ _) => True
  | some (.ext _) => True
  | _ => False
section
variable {P : Program} {w : World} {H : Hp} {h h' : Heap} {x e : Addr} {o' : HO}
theorem HOk.write (ok : HOk P w H h) (mu : Mut (H x)) (he : e = x ∨ H e = some (.own x)) (k : ∀ b u, b ≠ e → h.get? b = some u → h'.get? b = some u) (heo : ∃ u, h'.get? e = some u)
    (new : ObjOk P w (upd H x o') h' x o') : HOk P w (upd H x o') h' := fun b u q => by
  have nown : ∀ c y, H c = some (.own y) → c ≠ x := fun c y r z => by subst z; rw [r] at mu; exact mu
  have ntup : ∀ c xs, RdT H c xs → c ≠ x := fun c xs r z => by subst z; rcases r with r | ⟨_, r⟩ <;> (rw [r] at mu; exact mu)
  by_cases hb : b = x
  · subst hb; rw [upd_same] at q; cases q; exact new
  · rw [upd_ne hb] at q
    by_cases hbe : b = e
    · have q' : H b = some (.own x) := by
        rcases he with z | z
        · exact absurd (hbe.trans z) hb
        · rw [hbe]; exact z
      rw [q] at q'; cases q'
      obtain ⟨v, hv⟩ := heo
      exact ⟨v, by rw [hbe]; exact hv⟩
    · refine (ok b u q).stay (fun c v hc r => k c v ?_ r) (fun c r => by rw [upd_ne (nown c b r)]; exact r) fun c xs r => r.put (ntup c xs r)
      rcases hc with rfl | hc
      · exact hbe
      · rintro rfl
        rcases he with z | z
        · exact nown c b hc z
        · rw [hc] at z; cases z; exact hb rfl
end

structure Un (fs ex : List Addr) (H H' : Hp) (h h' : Heap) : Prop where
  keep : ∀ b o, h.get? b = some o → H b = none → b ∉ fs → b ∉ ex → h'.get? b = some o
  slot : ∀ b o, h.get? b = some o → H b = none → b ∈ fs → b ∉ ex → ∃ sl, h'.get? b = some { o with slots := sl }
  free : ∀ b o, h.get? b = some o → H b = none → b ∉ ex → H' b = none
  there : ∀ b o, h.get? b = some o → b ∉ ex → ∃ o', h'.get? b = some o'
  tups : ∀ b xs, H b = some (.tup xs) → H' b = some (.tup xs)
  frzs : ∀ b o u, H b = some (.frz o u) → H' b = some (.frz o u)
  tbls : ∀ b ps, H b = some (.tbl ps) → ∃ more, H' b = some (.tbl (ps ++ more))
section
variable {fs fs' ex ex' : List Addr} {H H1 H2 : Hp} {h h1 h2 h' : Heap} {a x e : Addr} {o : HO}
theorem Un.any (u : Un fs ex H H1 h h1) {b : Addr} {ob : Obj} (q : h.get? b = some ob) (n : H b = none) (hx : b ∉ ex) : ∃ sl, h1.get? b = some { ob with slots := sl } := by
  by_cases hb : b ∈ fs
  · exact u.slot b ob q n hb hx
  · exact ⟨ob.slots, u.keep b ob q n hb hx⟩
theorem Un.trans (a : Un fs ex H H1 h h1) (b : Un fs ex H1 H2 h1 h2) : Un fs ex H H2 h h2 where
  keep := fun c ob q n hc hx => b.keep c ob (a.keep c ob q n hc hx) (a.free c ob q n hx) hc hx
  slot := fun c ob q n hc hx => by
    obtain ⟨sl, e1⟩ := a.slot c ob q n hc hx
    obtain ⟨sl', e2⟩ := b.slot c _ e1 (a.free c ob q n hx) hc hx
    exact ⟨sl', e2⟩
  free := fun c ob q n hx => by
    obtain ⟨o', e1⟩ := a.there c ob q hx
    exact b.free c o' e1 (a.free c ob q n hx) hx
  there := fun c ob q hx => by
    obtain ⟨o', e1⟩ := a.there c ob q hx
    exact b.there c o' e1 hx
  tups := fun c xs q => b.tups c xs (a.tups c xs q)
  frzs := fun c ob xs q => b.frzs c ob xs (a.frzs c ob xs q)
  tbls := fun c ps q => by
    obtain ⟨m1, e1⟩ := a.tbls c ps q
    obtain ⟨m2, e2⟩ := b.tbls c _ e1
    exact ⟨m1 ++ m2, by rw [e2, Array.append_assoc]⟩
theorem Un.kept (k : ∀ b u, h.get? b = some u → h'.get? b = some u) : Un fs ex H H h h' :=
  ⟨fun b ob q _ _ _ => k b ob q, fun b ob q _ _ _ => ⟨ob.slots, k b ob q⟩, fun _ _ _ n _ => n, fun b ob q _ => ⟨ob, k b ob q⟩, fun _ _ q => q, fun _ _ _ q => q, fun _ ps q => ⟨#[], by rw [q]; simp⟩⟩
theorem Un.refl : Un fs ex H H h h := Un.kept fun _ _ q => q
theorem Un.laid (k : ∀ b u, h.get? b = some u → h'.get? b = some u) (hp : h.objs.size ≤ a) (hn : H a = none) : Un fs ex H (upd H a o) h h' where
  keep := fun b u q _ _ _ => k b u q
  slot := fun b u q _ _ _ => ⟨u.slots, k b u q⟩
  free := fun b u q n _ => by rw [upd_ne (Nat.ne_of_lt (Nat.lt_of_lt_of_le (Heap.lt_size q) hp))]; exact n
  there := fun b u q _ => ⟨u, k b u q⟩
  tups := fun b xs q => by rw [upd_ne (ne_of_none q hn)]; exact q
  frzs := fun b u xs q => by rw [upd_ne (ne_of_none q hn)]; exact q
  tbls := fun b ps q => ⟨#[], by rw [upd_ne (ne_of_none q hn), q]; simp⟩
theorem Un.write (mu : Mut (H x)) (he : e = x ∨ H e = some (.own x)) (k : ∀ b u, b ≠ e → h.get? b = some u → h'.get? b = some u) (heo : ∃ u, h'.get? e = some u) : Un fs ex H (upd H x o) h h' := by
  have hx : ∀ b, H b = none → b ≠ x := fun b n z => by subst z; rw [n] at mu; exact mu
  have hb : ∀ b, H b = none → b ≠ e := fun b n z => by
    subst z
    rcases he with r | r
    · exact hx b n r
    · rw [n] at r; cases r
  have hm : ∀ b u, H b = some u → ¬ Mut (some u) → b ≠ x := fun b u q nm z => by subst z; rw [q] at mu; exact nm mu
  refine ⟨fun b u q n _ _ => k b u (hb b n) q, fun b u q n _ _ => ⟨u.slots, k b u (hb b n) q⟩, fun b u q n _ => by rw [upd_ne (hx b n)]; exact n, fun b u q _ => ?_,
    fun b xs q => by rw [upd_ne (hm b _ q fun z => z)]; exact q, fun b u xs q => by rw [upd_ne (hm b _ q fun z => z)]; exact q, fun b ps q => ⟨#[], by rw [upd_ne (hm b _ q fun z => z), q]; simp⟩⟩
  by_cases hbe : b = e
  · subst hbe; exact heo
  · exact ⟨u, k b u hbe q⟩
theorem Un.mono (u : Un fs ex H H1 h h1) (hs : ∀ b ∈ fs, b ∈ fs') (hx : ∀ b ∈ ex, b ∈ ex') : Un fs' ex' H H1 h h1 :=
  ⟨fun b ob q n hb he => u.keep b ob q n (fun z => hb (hs b z)) fun z => he (hx b z), fun _ _ q n _ he => u.any q n fun z => he (hx _ z), fun b ob q n he => u.free b ob q n fun z => he (hx b z), fun b ob q he => u.there b ob q fun z => he (hx b z), u.tups, u.frzs, u.tbls⟩
end

noncomputable def trk (h : Heap) (H : Hp) : List Addr := (List.range h.objs.size).filter fun a => (H a).isSome
noncomputable def hidT (h : Heap) (H : Hp) : Heap := PySem.W.hideAll h (trk h H)
theorem hidT_size (h : Heap) (H : Hp) : (hidT h H).objs.size = h.objs.size := PySem.W.hideAll_size _ _
theorem hidT_get {h : Heap} {H : Hp} {b : Addr} {o : Obj} (e : h.get? b = some o) (n : H b = none) : (hidT h H).get? b = some o :=
  PySem.W.hideAll_get _ e fun hm => by
    have q : (H b).isSome = true := (List.mem_filter.mp hm).2
    rw [n] at q; simp at q
theorem of_hidT {h : Heap} {H : Hp} {b : Addr} {o : Obj} (e : (hidT h H).get? b = some o) : h.get? b = some o ∧ H b = none := by
  have e' : h.get? b = some o := PySem.W.of_hideAll (trk h H) e
  refine ⟨e', ?_⟩
  cases q : H b with
  | none => rfl
  | some x =>
    have hm : b ∈ trk h H := List.mem_filter.mpr ⟨List.mem_range.mpr (Heap.lt_size e'), by simp [q]⟩
    have z : (hidT h H).get? b = none := PySem.W.hideAll_none (trk h H) hm
    rw [z] at e; cases e

noncomputable def allNews (g h : Heap) (L : Addr) : List (Addr × Obj) := (List.range h.objs.size).filterMap fun a => if a = L ∨ (g.get? a).isSome = true then none else (h.get? a).map fun o => (a, o)
noncomputable def rest (g h : Heap) (L d : Addr) : List (Addr × Obj) := (allNews g h L).filter fun p => decide (p.1 ≠ d)
end L2

namespace L2
open PySem PySem.Spec PyProof.Rows

structure Mod (K : PySem.W.Frag) (mg : Str → Option Value) (base : Heap) : Prop where
  kin : K.In base
  glob : base.Ns mainGlobals mg
  blt : ∃ mb, base.Ns builtinsNs mb ∧ ∀ x : Str, x ≠ "__name__" → mb x = bootBuiltins x
  nolimit : base.NoLimit

structure Cx where
  prog : Program
  w : World
  K : PySem.W.Frag
  mg : Str → Option Value
  base : Heap
  A : Around
  N : List Str
  s₀ : Shared
  H₀ : Hp
  env : Env
  outer : List Env
  stack : List Env
  ex : List Addr
  fn : Str → Bool
  calm : Bool
  pn : List (Addr × Obj)
  xe : Value → Shared → Prop
noncomputable def frs (l : List Env) : List Addr := l.filterMap (·.frame)
noncomputable abbrev Cx.fs (X : Cx) : List Addr := frs X.outer

noncomputable def Vis (sc : Scope) (x : Str) : Prop := sc.names.lookup x = some .local ∨ sc.names.lookup x = some .cell ∨ sc.names.lookup x = some .free
noncomputable def Loc (sc : Scope) (x : Str) : Prop := sc.names.lookup x = some .local ∨ sc.names.lookup x = some .cell
noncomputable def Look (env : Env) (h : Heap) (m : Str → Option Value) (x : Str) (u : Value) : Prop :=
  (env.kindOf x = some .local ∧ m x = some u) ∨ ((env.kindOf x = some .cell ∨ env.kindOf x = some .free) ∧ ∃ c, env.cells.lookup x = some c ∧ h.IsCell c (some u))

structure Cx.Ok (X : Cx) : Prop where
  mod : Mod X.K X.mg X.base
  kind : X.env.scope.kind = .function
  glob : X.env.globals = mainGlobals
  blt : X.env.builtins = builtinsNs
  above : X.s₀.heap.objs.size ≤ X.env.locals
  inj : ∀ x y c, X.env.cells.lookup x = some c → X.env.cells.lookup y = some c → x = y
  has : ∀ x, (X.env.kindOf x = some .cell ∨ X.env.kindOf x = some .free) → ∃ c, X.env.cells.lookup x = some c
  cab : ∀ x c, X.fn x = true → X.env.cells.lookup x = some c → X.s₀.heap.objs.size ≤ c
  hd : X.calm = true → X.A.handled = none
  frames : X.A.frames = some X.stack
  stk : X.stack = X.outer ∨ (X.stack = X.env :: X.outer ∧ X.env.frame = some X.env.locals)
  exf : ∀ b ∈ X.ex, b ≠ X.env.locals ∧ ∀ x c, X.env.cells.lookup x = some c → c ≠ b
  bs : ∀ b o, X.base.get? b = some o → X.s₀.heap.get? b = some o ∧ X.H₀ b = none
  bsz : X.base.objs.size ≤ X.s₀.heap.objs.size
  noex : ∀ b o, X.base.get? b = some o → b ∉ X.ex
  exfs : ∀ b ∈ X.ex, b ∉ X.fs
  funs : X.s₀.heap.FunFrames X.base X.outer
  frf : ∀ b ∈ X.fs, X.H₀ b = none

structure Inv (X : Cx) (pins : List (Addr × Obj)) (σ : List (Option V)) (H : Hp) (s : Shared) : Prop where
  ok : X.Ok
  os : s.os = X.s₀.os
  bare : AllBare s.gens
  base : Un X.fs X.ex X.H₀ H X.s₀.heap s.heap
  loc : ∃ m, s.heap.Ns X.env.locals m ∧ ∀ (i : Nat) (x : Str) (v : V), X.N[i]? = some x → σ[i]? = some (some v) → Vis X.env.scope x → ∃ u, RelV v u ∧ Look X.env s.heap m x u
  cell : ∀ x c, X.env.cells.lookup x = some c → ∃ v, s.heap.IsCell c v
  free : H X.env.locals = none
  freeC : ∀ x c, X.env.cells.lookup x = some c → H c = none
  pin : ∀ p ∈ X.pn ++ pins, s.heap.get? p.1 = some p.2 ∧ H p.1 = none ∧ p.1 ≠ X.env.locals ∧ p.1 ∉ X.fs ∧ ∀ v, p.2.data ≠ .cell v
  hok : HOk X.prog X.w H s.heap
  len : σ.length = X.N.length

section
variable {X : Cx} {pins : List (Addr × Obj)} {σ : List (Option V)} {H H' : Hp} {s : Shared} {h' : Heap}

theorem Cx.Ok.nofr (ok : X.Ok) {b : Addr} {o : Obj} (e : X.base.get? b = some o) : b ∉ X.fs := fun hb => by
  have := (ok.funs.mem hb).1
  rw [e] at this; cases this
theorem Inv.bs (I : Inv X pins σ H s) : ∀ b o, X.base.get? b = some o → s.heap.get? b = some o ∧ H b = none := fun b o e =>
  ⟨I.base.keep b o (I.ok.bs b o e).1 (I.ok.bs b o e).2 (I.ok.nofr e) (I.ok.noex b o e), I.base.free b o (I.ok.bs b o e).1 (I.ok.bs b o e).2 (I.ok.noex b o e)⟩
theorem Inv.bk (I : Inv X pins σ H s) : ∀ b o, X.base.get? b = some o → s.heap.get? b = some o := fun b o e => (I.bs b o e).1
theorem Inv.mod (I : Inv X pins σ H s) : Mod X.K X.mg X.base := I.ok.mod
theorem Inv.kIn (I : Inv X pins σ H s) : X.K.In s.heap := I.ok.mod.kin.keeps I.bk
theorem Inv.nolimit (I : Inv X pins σ H s) : s.heap.NoLimit := I.ok.mod.nolimit.keeps I.bk
theorem Inv.fr (I : Inv X pins σ H s) : ∃ m, Fr X.base X.env.locals s.heap m :=
  let ⟨m, hn, _⟩ := I.loc
  ⟨m, hn, I.bk, Nat.le_trans I.ok.bsz I.ok.above⟩
theorem Inv.lt (I : Inv X pins σ H s) : X.env.locals < s.heap.objs.size := let ⟨_, hn, _⟩ := I.loc; hn.lt
theorem Inv.sz (I : Inv X pins σ H s) : X.s₀.heap.objs.size ≤ s.heap.objs.size := Nat.le_trans I.ok.above (Nat.le_of_lt I.lt)
theorem Inv.nofs (I : Inv X pins σ H s) {a : Addr} (h : s.heap.objs.size ≤ a) : a ∉ X.fs := fun hb => by
  obtain ⟨_, o, ho, _⟩ := I.ok.funs.mem hb
  exact absurd (Nat.lt_of_lt_of_le (Heap.lt_size ho) (Nat.le_trans I.sz h)) (Nat.lt_irrefl _)
theorem Inv.cne (I : Inv X pins σ H s) : ∀ x c, X.env.cells.lookup x = some c → c ≠ X.env.locals := fun x c e z => by
  obtain ⟨v, o, ho, hd⟩ := I.cell x c e
  obtain ⟨m, ⟨o', es, ep, ho', hd', _⟩, _⟩ := I.loc
  rw [z, ho'] at ho; cases ho; rw [hd'] at hd; cases hd
theorem Inv.funs (I : Inv X pins σ H s) : s.heap.FunFrames X.base X.outer := by
  have all : ∀ (l : List Env), (∀ b ∈ frs l, b ∈ X.fs) → X.s₀.heap.FunFrames X.base l → s.heap.FunFrames X.base l := by
    intro l
    induction l with
    | nil => intro _ _; trivial
    | cons env r ih =>
      intro hs hl
      obtain ⟨hk, ⟨L, o, hf, hn, ho, hd⟩, hr⟩ := hl
      have hL : L ∈ X.fs := hs L (by unfold frs; rw [List.filterMap_cons, hf]; exact List.mem_cons_self)
      obtain ⟨sl, e⟩ := I.base.slot L o ho (I.ok.frf L hL) hL fun z => I.ok.exfs L z hL
      exact ⟨hk, ⟨L, _, hf, hn, e, hd⟩, ih (fun b hb => hs b (by unfold frs; rw [List.filterMap_cons, hf]; exact List.mem_cons_of_mem _ hb)) hr⟩
  exact all X.outer (fun _ hb => hb) I.ok.funs

theorem Inv.stack (I : Inv X pins σ H s) : s.heap.FunFrames X.base X.stack := by
  rcases I.ok.stk with e | ⟨e, hf⟩
  · rw [e]; exact I.funs
  · rw [e]
    obtain ⟨m, hn, _⟩ := I.loc
    refine .cons (by rw [I.ok.kind]; decide) hf hn ?_ I.funs
    exact Heap.get?_none_of_le (Nat.le_trans I.ok.bsz I.ok.above)
theorem Inv.stkSub (I : Inv X pins σ H s) : ∀ b ∈ frs X.stack, b ∈ X.env.locals :: X.fs := fun b hb => by
  rcases I.ok.stk with e | ⟨e, hf⟩
  · rw [e] at hb; exact List.mem_cons_of_mem _ hb
  · rw [e] at hb
    unfold frs at hb
    rw [List.filterMap_cons, hf] at hb
    exact hb
theorem Inv.stkFree (I : Inv X pins σ H s) : ∀ b ∈ frs X.stack, H b = none := fun b hb => by
  rcases List.mem_cons.mp (I.stkSub b hb) with e | hb
  · rw [e]; exact I.free
  · obtain ⟨_, o, ho, _⟩ := I.ok.funs.mem hb
    exact I.base.free b o ho (I.ok.frf b hb) fun z => I.ok.exfs b z hb

theorem Inv.step {g' : Array GenState} {t' : Nat} {d' : Drawn} {ch : List Addr} (I : Inv X pins σ H s)
    (hch : ∀ b ∈ ch, (b ∈ X.ex ∨ X.s₀.heap.objs.size ≤ b) ∧ b ≠ X.env.locals ∧ (∀ x c, X.env.cells.lookup x = some c → c ≠ b) ∧ ∀ p ∈ X.pn ++ pins, p.1 ≠ b)
    (keep : ∀ b o, b ≠ X.env.locals → b ∉ X.fs → b ∉ ch → s.heap.get? b = some o → H b = none → h'.get? b = some o)
    (slot : ∀ b o, b ≠ X.env.locals → b ∈ X.fs → b ∉ ch → s.heap.get? b = some o → H b = none → ∃ sl, h'.get? b = some { o with slots := sl }) (free : ∀ b o, b ∉ ch → s.heap.get? b = some o → H b = none → H' b = none)
    (there : ∀ b o, b ∉ ch → s.heap.get? b = some o → ∃ o', h'.get? b = some o')
    (tups : ∀ b xs, H b = some (.tup xs) → H' b = some (.tup xs)) (frzs : ∀ b o u, H b = some (.frz o u) → H' b = some (.frz o u)) (tbls : ∀ b ps, H b = some (.tbl ps) → ∃ more, H' b = some (.tbl (ps ++ more)))
    (ns : ∀ m, s.heap.Ns X.env.locals m → h'.Ns X.env.locals m) (hok : HOk X.prog X.w H' h') (hg : AllBare g') :
    Inv X pins σ H' { s with heap := h', gens := g', drawn := d', toks := t' } := by
  have neL : ∀ b o, X.s₀.heap.get? b = some o → b ≠ X.env.locals := fun b o e => Nat.ne_of_lt (Nat.lt_of_lt_of_le (Heap.lt_size e) I.ok.above)
  have neC : ∀ b o, X.s₀.heap.get? b = some o → b ∉ X.ex → b ∉ ch := fun b o e hx hb => by
    rcases (hch b hb).1 with z | z
    · exact hx z
    · exact absurd (Nat.lt_of_lt_of_le (Heap.lt_size e) z) (Nat.lt_irrefl _)
  have cellK : ∀ x c, X.env.cells.lookup x = some c → ∀ v, s.heap.IsCell c v → h'.IsCell c v := fun x c e v ⟨o, ho, hd⟩ => by
    have nch : c ∉ ch := fun z => (hch c z).2.2.1 x c e rfl
    by_cases hc : c ∈ X.fs
    · obtain ⟨sl, q⟩ := slot c o (I.cne x c e) hc nch ho (I.freeC x c e)
      exact ⟨_, q, hd⟩
    · exact ⟨o, keep c o (I.cne x c e) hc nch ho (I.freeC x c e), hd⟩
  refine ⟨I.ok, I.os, hg, ⟨fun b o e n hb hx => ?_, fun b o e n hb hx => ?_, fun b o e n hx => ?_, fun b o e hx => ?_, fun b xs e => tups b xs (I.base.tups b xs e), fun b o xs e => frzs b o xs (I.base.frzs b o xs e), fun b ps e => ?_⟩, ?_, fun x c e => ?_, ?_, fun x c e => ?_, fun p hp => ?_, hok, I.len⟩
  · exact keep b o (neL b o e) hb (neC b o e hx) (I.base.keep b o e n hb hx) (I.base.free b o e n hx)
  · obtain ⟨sl, e1⟩ := I.base.slot b o e n hb hx
    obtain ⟨sl', e2⟩ := slot b _ (neL b o e) hb (neC b o e hx) e1 (I.base.free b o e n hx)
    exact ⟨sl', e2⟩
  · obtain ⟨o', e1⟩ := I.base.there b o e hx
    exact free b o' (neC b o e hx) e1 (I.base.free b o e n hx)
  · obtain ⟨o', e1⟩ := I.base.there b o e hx
    exact there b o' (neC b o e hx) e1
  · obtain ⟨m1, e1⟩ := I.base.tbls b ps e
    obtain ⟨m2, e2⟩ := tbls b _ e1
    exact ⟨m1 ++ m2, by rw [e2, Array.append_assoc]⟩
  · obtain ⟨m, hn, hl⟩ := I.loc
    refine ⟨m, ns m hn, fun i x v e1 e2 e3 => ?_⟩
    obtain ⟨u, r, l⟩ := hl i x v e1 e2 e3
    refine ⟨u, r, ?_⟩
    rcases l with l | ⟨k, c, e, z⟩
    · exact .inl l
    · exact .inr ⟨k, c, e, cellK x c e _ z⟩
  · obtain ⟨v, z⟩ := I.cell x c e
    exact ⟨v, cellK x c e v z⟩
  · obtain ⟨m, ⟨o, _, _, ho, _⟩, _⟩ := I.loc
    exact free _ o (fun z => (hch _ z).2.1 rfl) ho I.free
  · obtain ⟨v, o, ho, hd⟩ := I.cell x c e
    exact free c o (fun z => (hch c z).2.2.1 x c e rfl) ho (I.freeC x c e)
  · obtain ⟨e, n, ne, nf, d⟩ := I.pin p hp
    have nch : p.1 ∉ ch := fun z => (hch p.1 z).2.2.2 p hp rfl
    exact ⟨keep p.1 p.2 ne nf nch e n, free p.1 p.2 nch e n, ne, nf, d⟩
theorem Inv.un {t' : Nat} (I : Inv X pins σ H s) (u : Un X.fs [] H H' s.heap h') (hok : HOk X.prog X.w H' h') : Inv X pins σ H' { s with heap := h', toks := t' } := by
  obtain ⟨m, ⟨o, es, ep, ho, r⟩, _⟩ := id I.loc
  obtain ⟨sl, hL⟩ := u.any ho I.free (by simp)
  exact I.step (g' := s.gens) (d' := s.drawn) (ch := []) (fun _ z => nomatch z) (fun b o _ hb _ e n => u.keep b o e n hb (by simp)) (fun b o _ hb _ e n => u.slot b o e n hb (by simp)) (fun b o _ e n => u.free b o e n (by simp)) (fun b o _ e => u.there b o e (by simp)) u.tups u.frzs u.tbls (fun m' hm => by
    obtain ⟨o', es', ep', ho', r'⟩ := hm
    rw [ho] at ho'; cases ho'
    exact ⟨_, es', ep', hL, r'⟩) hok I.bare
theorem Inv.call {g' : Array GenState} {t' : Nat} {d' : Drawn} {ch : List Addr} (I : Inv X pins σ H s) (u : Un (frs X.stack) ch H H' s.heap h') (hok : HOk X.prog X.w H' h') (hg : AllBare g')
    (hch : ∀ b ∈ ch, (b ∈ X.ex ∨ X.s₀.heap.objs.size ≤ b) ∧ b ≠ X.env.locals ∧ (∀ x c, X.env.cells.lookup x = some c → c ≠ b) ∧ ∀ p ∈ X.pn ++ pins, p.1 ≠ b) :
    Inv X pins σ H' { s with heap := h', gens := g', drawn := d', toks := t' } := by
  obtain ⟨m, ⟨o, es, ep, ho, r⟩, _⟩ := id I.loc
  obtain ⟨sl, hL⟩ := u.any ho I.free fun z => (hch _ z).2.1 rfl
  exact I.step (ch := ch) hch (fun b o hL hb hc e n => u.keep b o e n (fun z => (List.mem_cons.mp (I.stkSub b z)).elim hL hb) hc) (fun b o _ _ hc e n => u.any e n hc) (fun b o hc e n => u.free b o e n hc) (fun b o hc e => u.there b o e hc) u.tups u.frzs u.tbls (fun m' hm => by
    obtain ⟨o', es', ep', ho', r'⟩ := hm
    rw [ho] at ho'; cases ho'
    exact ⟨_, es', ep', hL, r'⟩) hok hg
theorem Inv.turned {t' : Nat} {it : Addr} (I : Inv X pins σ H s) (k : ∀ b o, b ≠ it → s.heap.get? b = some o → h'.get? b = some o) (hn : H it = none) (hL : it ≠ X.env.locals)
    (h1 : it ∈ X.ex ∨ X.s₀.heap.objs.size ≤ it) (h2 : ∀ x c, X.env.cells.lookup x = some c → c ≠ it) (h3 : ∀ p ∈ X.pn ++ pins, p.1 ≠ it) : Inv X pins σ H { s with heap := h', toks := t' } := by
  have nit : ∀ b u, H b = some u → b ≠ it := fun b u e z => by rw [z, hn] at e; cases e
  refine I.step (g' := s.gens) (d' := s.drawn) (ch := [it]) (fun b hb => ?_) (fun b o _ _ hc e _ => k b o (fun z => hc (by simp [z])) e) (fun b o _ _ hc e _ => ⟨o.slots, k b o (fun z => hc (by simp [z])) e⟩) (fun _ _ _ _ n => n)
    (fun b o hc e => ⟨o, k b o (fun z => hc (by simp [z])) e⟩) (fun _ _ e => e) (fun _ _ _ e => e) (fun b ps e => ⟨#[], by rw [e]; simp⟩) (fun m hm => ?_) (fun b u e => ?_) I.bare
  · have e : b = it := by simpa using hb
    subst e
    exact ⟨h1, hL, h2, h3⟩
  · obtain ⟨o, es, ep, ho, r⟩ := hm
    exact ⟨o, es, ep, k _ o (Ne.symm hL) ho, r⟩
  · refine (I.hok b u e).stay (fun c v hc q => k c v ?_ q) (fun _ q => q) fun _ _ q => q
    rcases hc with z | z
    · rw [z]; exact nit b u e
    · exact nit c _ z
theorem Inv.tok (I : Inv X pins σ H s) (t : Nat) : Inv X pins σ H { s with toks := t } := I.un (h' := s.heap) (t' := t) Un.refl I.hok
theorem Inv.kept {t' : Nat} (I : Inv X pins σ H s) (k : ∀ b u, s.heap.get? b = some u → h'.get? b = some u) : Inv X pins σ H { s with heap := h', toks := t' } := I.un (Un.kept k) (I.hok.kept k)
theorem Inv.laid {a : Addr} {o : HO} {t' : Nat} (I : Inv X pins σ H s) (k : ∀ b u, s.heap.get? b = some u → h'.get? b = some u) (hp : s.heap.objs.size ≤ a) (new : ObjOk X.prog X.w (upd H a o) h' a o) :
    Inv X pins σ (upd H a o) { s with heap := h', toks := t' } := I.un (Un.laid k hp (I.hok.fresh hp)) (I.hok.laid k hp new)
theorem Inv.write {x e : Addr} {o : HO} {t' : Nat} (I : Inv X pins σ H s) (mu : Mut (H x)) (he : e = x ∨ H e = some (.own x)) (k : ∀ b u, b ≠ e → s.heap.get? b = some u → h'.get? b = some u) (heo : ∃ u, h'.get? e = some u)
    (new : ObjOk X.prog X.w (upd H x o) h' x o) : Inv X pins σ (upd H x o) { s with heap := h', toks := t' } := I.un (Un.write mu he k heo) (I.hok.write mu he k heo new)
theorem Inv.weak {σ' : List (Option V)} (I : Inv X pins σ H s) (hl : σ'.length = σ.length) (w : ∀ (i : Nat) v, σ'[i]? = some (some v) → σ[i]? = some (some v)) : Inv X pins σ' H s :=
  ⟨I.ok, I.os, I.bare, I.base, let ⟨m, hn, hl'⟩ := I.loc; ⟨m, hn, fun i x v e1 e2 e3 => hl' i x v e1 (w i v e2) e3⟩, I.cell, I.free, I.freeC, I.pin, I.hok, hl.trans I.len⟩
theorem Inv.pins_of {pins' : List (Addr × Obj)} (I : Inv X pins σ H s) (h : ∀ p ∈ pins', s.heap.get? p.1 = some p.2 ∧ H p.1 = none ∧ p.1 ≠ X.env.locals ∧ p.1 ∉ X.fs ∧ ∀ v, p.2.data ≠ .cell v) : Inv X pins' σ H s :=
  ⟨I.ok, I.os, I.bare, I.base, I.loc, I.cell, I.free, I.freeC, fun p hp => (List.mem_append.mp hp).elim (fun z => I.pin p (List.mem_append_left _ z)) (h p), I.hok, I.len⟩

theorem nodup_ix {N : List Str} (hN : N.Nodup) {i j : Nat} {x : Str} (a : N[i]? = some x) (b : N[j]? = some x) : i = j := by
  obtain ⟨h1, e1⟩ := List.getElem?_eq_some_iff.mp a
  obtain ⟨h2, e2⟩ := List.getElem?_eq_some_iff.mp b
  exact (List.getElem_inj hN).mp (e1.trans e2.symm)

theorem store_ok2 {M : Model} {A : Around} {E : Value → Shared → Prop} {i : Nat} {x : Str} {v : V} {u : Value} {Q : Unit → Shared → Prop} (I : Inv X pins σ H s) (hN : X.N.Nodup) (hi : X.N[i]? = some x) (hx : Loc X.env.scope x) (r : RelV v u)
    (h : ∀ s', Inv X pins (σ.set i (some v)) H s' → (∃ a, Heap.SameBut a s.heap s'.heap ∧ (a = X.env.locals ∨ X.env.cells.lookup x = some a)) → Q () s') (hf : X.fn x = true ∨ X.env.scope.names.lookup x = some .local := by first | exact .inl rfl | exact .inr rfl | assumption) : wpAny M A (storeName X.env x u) Q E s := by
  obtain ⟨m, hn, hl⟩ := id I.loc
  have hcls : (X.env.scope.kind == .class || (X.env.scope.kind == .module && X.env.locals != X.env.globals)) = false := by rw [I.ok.kind]; rfl
  have hiσ : i < σ.length := by rw [I.len]; exact (List.getElem?_eq_some_iff.mp hi).1
  have cne := I.cne
  have tracked : ∀ {a : Addr} {h' : Heap}, (∃ o, s.heap.get? a = some o ∧ H a = none) → Heap.SameBut a s.heap h' → HOk X.prog X.w H h' := fun {a h'} ha hs b ob e => by
    obtain ⟨_, _, hfree⟩ := ha
    refine (I.hok b ob e).stay (fun c w' hc q => (hs.2 c ?_).trans q) (fun _ q => q) fun _ _ q => q
    rintro rfl
    rcases hc with rfl | hc
    · rw [hfree] at e; cases e
    · rw [hfree] at hc; cases hc
  rcases hx with hk | hk
  · refine wpAny_storeName_local hk hn (fun h' hn' hs => ?_) hcls
    obtain ⟨oL, _, _, hoL, _⟩ := id hn
    refine h _ ⟨I.ok, I.os, I.bare, ⟨fun b o e n hb hx => ?_, fun b o e n hb hx => ?_, I.base.free, fun b o e hx => ?_, I.base.tups, I.base.frzs, I.base.tbls⟩, ⟨_, hn', fun j y v' e1 e2 e3 => ?_⟩, fun y c e => ?_, I.free, I.freeC, fun p hp => ?_, tracked ⟨oL, hoL, I.free⟩ hs, by simpa using I.len⟩ ⟨_, hs, .inl rfl⟩
    · exact (hs.2 b (Nat.ne_of_lt (Nat.lt_of_lt_of_le (Heap.lt_size e) I.ok.above))).trans (I.base.keep b o e n hb hx)
    · obtain ⟨sl, e1⟩ := I.base.slot b o e n hb hx
      exact ⟨sl, (hs.2 b (Nat.ne_of_lt (Nat.lt_of_lt_of_le (Heap.lt_size e) I.ok.above))).trans e1⟩
    · obtain ⟨o', e1⟩ := I.base.there b o e hx
      exact ⟨o', (hs.2 b (Nat.ne_of_lt (Nat.lt_of_lt_of_le (Heap.lt_size e) I.ok.above))).trans e1⟩
    · by_cases hj : j = i
      · subst hj
        rw [hi] at e1; cases e1
        rw [List.getElem?_set_self hiσ] at e2
        cases e2
        exact ⟨u, r, .inl ⟨hk, by simp⟩⟩
      · rw [List.getElem?_set_ne (Ne.symm hj)] at e2
        obtain ⟨u', r', q⟩ := hl j y v' e1 e2 e3
        refine ⟨u', r', ?_⟩
        rcases q with ⟨k, e⟩ | ⟨k, c, e, z⟩
        · refine .inl ⟨k, ?_⟩
          have : y ≠ x := fun e => hj (nodup_ix hN e1 (e ▸ hi))
          simp [this, e]
        · exact .inr ⟨k, c, e, z.sameBut hs (cne y c e)⟩
    · obtain ⟨w', z⟩ := I.cell y c e
      exact ⟨w', z.sameBut hs (cne y c e)⟩
    · obtain ⟨e, n, ne, nf, d⟩ := I.pin p hp
      exact ⟨(hs.2 p.1 ne).trans e, n, ne, nf, d⟩
  · have hfn : X.fn x = true := by
      rcases hf with z | z
      · exact z
      · rw [z] at hk; cases hk
    obtain ⟨c, hc⟩ := I.ok.has x (.inl hk)
    obtain ⟨w', z⟩ := I.cell x c hc
    refine wpAny_storeName_cell I.ok.kind hk hc z (fun h' hc' hs => ?_)
    obtain ⟨oc, hoc, hocd⟩ := id z
    refine h { s with heap := h' } ⟨I.ok, I.os, I.bare, ⟨fun b o e n hb hx => ?_, fun b o e n hb hx => ?_, I.base.free, fun b o e hx => ?_, I.base.tups, I.base.frzs, I.base.tbls⟩, ⟨m, hn.sameBut hs (Ne.symm (cne x c hc)), fun j y v' e1 e2 e3 => ?_⟩, fun y c' e => ?_, I.free, I.freeC, fun p hp => ?_, tracked ⟨oc, hoc, I.freeC x c hc⟩ hs, by simpa using I.len⟩ ⟨c, hs, .inr hc⟩
    · exact (hs.2 b (Nat.ne_of_lt (Nat.lt_of_lt_of_le (Heap.lt_size e) (I.ok.cab x c hfn hc)))).trans (I.base.keep b o e n hb hx)
    · obtain ⟨sl, e1⟩ := I.base.slot b o e n hb hx
      exact ⟨sl, (hs.2 b (Nat.ne_of_lt (Nat.lt_of_lt_of_le (Heap.lt_size e) (I.ok.cab x c hfn hc)))).trans e1⟩
    · obtain ⟨o', e1⟩ := I.base.there b o e hx
      exact ⟨o', (hs.2 b (Nat.ne_of_lt (Nat.lt_of_lt_of_le (Heap.lt_size e) (I.ok.cab x c hfn hc)))).trans e1⟩
    · by_cases hj : j = i
      · subst hj
        rw [hi] at e1; cases e1
        rw [List.getElem?_set_self hiσ] at e2
        cases e2
        exact ⟨u, r, .inr ⟨.inl hk, c, hc, hc'⟩⟩
      · rw [List.getElem?_set_ne (Ne.symm hj)] at e2
        obtain ⟨u', r', q⟩ := hl j y v' e1 e2 e3
        refine ⟨u', r', ?_⟩
        rcases q with q | ⟨k, c', e, z'⟩
        · exact .inl q
        · refine .inr ⟨k, c', e, z'.sameBut hs ?_⟩
          rintro rfl
          exact hj (nodup_ix hN e1 (I.ok.inj _ _ _ e hc ▸ hi))
    · by_cases hcc : c' = c
      · subst hcc; exact ⟨_, hc'⟩
      · obtain ⟨w2, z2⟩ := I.cell y c' e
        exact ⟨w2, z2.sameBut hs hcc⟩
    · obtain ⟨e, n, ne, nf, d⟩ := I.pin p hp
      refine ⟨(hs.2 p.1 ?_).trans e, n, ne, nf, d⟩
      intro q
      rw [q, hoc] at e
      have q' : oc = p.2 := Option.some.inj e
      exact d w' (by rw [← q']; exact hocd)
theorem store_ok {M : Model} {A : Around} {E : Value → Shared → Prop} {i : Nat} {x : Str} {v : V} {u : Value} {Q : Unit → Shared → Prop} (I : Inv X pins σ H s) (hN : X.N.Nodup) (hi : X.N[i]? = some x) (hx : Loc X.env.scope x) (r : RelV v u)
    (h : ∀ s', Inv X pins (σ.set i (some v)) H s' → Q () s') (hf : X.fn x = true ∨ X.env.scope.names.lookup x = some .local := by first | exact .inl rfl | exact .inr rfl | assumption) : wpAny M A (storeName X.env x u) Q E s :=
  store_ok2 I hN hi hx r (fun s' I' _ => h s' I') hf
theorem Inv.call' {s' : Shared} {ch : List Addr} (I : Inv X pins σ H s) (ho : s'.os = s.os) (u : Un (frs X.stack) ch H H' s.heap s'.heap) (hok : HOk X.prog X.w H' s'.heap) (hg : AllBare s'.gens)
    (hch : ∀ b ∈ ch, (b ∈ X.ex ∨ X.s₀.heap.objs.size ≤ b) ∧ b ≠ X.env.locals ∧ (∀ x c, X.env.cells.lookup x = some c → c ≠ b) ∧ ∀ p ∈ X.pn ++ pins, p.1 ≠ b) : Inv X pins σ H' s' := by
  obtain ⟨h', g', d', t', o'⟩ := s'
  have e : o' = s.os := ho
  subst e
  exact I.call (g' := g') (t' := t') (d' := d') u hok hg hch
end

noncomputable abbrev XK := Value → Option Addr → Hp → Prop
noncomputable abbrev St := List (Option V)
noncomputable abbrev VK := V → Hp → Prop
noncomputable abbrev TE := St → Hp → VK → Prop
noncomputable abbrev TT := St → Hp → (Bool → Hp → Prop) → Prop
noncomputable abbrev TA := St → Hp → (List V → Hp → Prop) → Prop
structure Ends where
  nx : St → Hp → Prop
  rt : VK
  bk : St → Hp → Prop := fun _ _ => False
  ct : St → Hp → Prop := fun _ _ => False
noncomputable abbrev TS := Ends → St → Hp → Prop

noncomputable def EP (X : Cx) (pins : List (Addr × Obj)) (σ : St) (Q : VK) (u : Value) (s' : Shared) : Prop := ∃ v H', Inv X pins σ H' s' ∧ RelV v u ∧ Q v H'
noncomputable def TP (X : Cx) (pins : List (Addr × Obj)) (σ : St) (Q : Bool → Hp → Prop) (b : Bool) (s' : Shared) : Prop := ∃ H', Inv X pins σ H' s' ∧ Q b H'
noncomputable def AP (X : Cx) (pins : List (Addr × Obj)) (σ : St) (Q : List V → Hp → Prop) (us : List Value) (s' : Shared) : Prop := ∃ vs H', Inv X pins σ H' s' ∧ Vals vs us ∧ Q vs H'
noncomputable def SP (X : Cx) (pins : List (Addr × Obj)) (D : Ends) (f : Flow) (s' : Shared) : Prop :=
  match f with
  | .next => ∃ σ' H', Inv X pins σ' H' s' ∧ D.nx σ' H'
  | .brk => ∃ σ' H', Inv X pins σ' H' s' ∧ D.bk σ' H'
  | .cont => ∃ σ' H', Inv X pins σ' H' s' ∧ D.ct σ' H'
  | .ret u => ∃ v σ' H', Inv X pins σ' H' s' ∧ RelV v u ∧ D.rt v H'

noncomputable def PE (X : Cx) (e : Expr) (t : TE) : Prop :=
  ∀ (pins : List (Addr × Obj)) (s : Shared) (σ : St) (H : Hp) (Q : VK), Inv X pins σ H s → t σ H Q → wpAny (model X.prog X.w) X.A (eval e X.env) (EP X pins σ Q) X.xe s
noncomputable def PT (X : Cx) (e : Expr) (t : TT) : Prop :=
  ∀ (pins : List (Addr × Obj)) (s : Shared) (σ : St) (H : Hp) (Q : Bool → Hp → Prop), Inv X pins σ H s → t σ H Q → wpAny (model X.prog X.w) X.A (isTrue e X.env (eval e X.env)) (TP X pins σ Q) X.xe s
noncomputable def PW (X : Cx) (e : Expr) (t : TT) : Prop :=
  ∀ (whole : Sem Value) (pins : List (Addr × Obj)) (s : Shared) (σ : St) (H : Hp) (Q : Bool → Hp → Prop), Inv X pins σ H s → t σ H Q → wpAny (model X.prog X.w) X.A (isTrue e X.env whole) (TP X pins σ Q) X.xe s
theorem PW.pt {X : Cx} {e : Expr} {t : TT} (h : PW X e t) : PT X e t := h _
noncomputable def PA (X : Cx) (es : List Expr) (t : TA) : Prop :=
  ∀ (pos : Pos) (pins : List (Addr × Obj)) (s : Shared) (σ : St) (H : Hp) (Q : List V → Hp → Prop), Inv X pins σ H s → t σ H Q → wpAny (model X.prog X.w) X.A (spliced (backTo pos (starEach es X.env))) (AP X pins σ Q) X.xe s
noncomputable def PS (X : Cx) (st : Stmt) (t : TS) : Prop :=
  ∀ (pins : List (Addr × Obj)) (s : Shared) (σ : St) (H : Hp) (D : Ends), Inv X pins σ H s → t D σ H → wpAny (model X.prog X.w) X.A (exec st X.env) (SP X pins D) X.xe s
noncomputable def PSs (X : Cx) (st : List Stmt) (t : TS) : Prop :=
  ∀ (pins : List (Addr × Obj)) (s : Shared) (σ : St) (H : Hp) (D : Ends), Inv X pins σ H s → t D σ H → wpAny (model X.prog X.w) X.A (execs st X.env) (SP X pins D) X.xe s
theorem thn {α : Type} {t : Sem α} {Q Q' : α → Shared → Prop} {M : Model} {A : Around} {E : Value → Shared → Prop} {s : Shared} (h : wpAny M A t Q E s) (hQ : ∀ a s, Q a s → Q' a s) : wpAny M A t Q' E s := wpAny_mono h hQ fun _ _ x => x
end L2

namespace L2
open PySem PySem.Spec PyProof.Rows
section
variable {X : Cx}

noncomputable def tVar (i : Nat) : TE := fun σ H Q => ∃ v, σ[i]? = some (some v) ∧ Q v H
noncomputable def tC (v : V) : TE := fun _ H Q => Q v H
theorem pe_var {i : Nat} {x : Str} {pos : Pos} (hN : X.N[i]? = some x) (hv : Vis X.env.scope x) (hd : (x == ("__debug__" : Str)) = false := by decide) (hcd : (x == ("__classdict__" : Str)) = false := by decide) : PE X (.Name x pos) (tVar i) := by
  intro pins s σ H Q I h
  obtain ⟨v, e, h⟩ := h
  obtain ⟨m, hn, hl⟩ := I.loc
  obtain ⟨u, r, l⟩ := hl i x v hN e hv
  have fin : EP X pins σ Q u s := ⟨v, H, I, r, h⟩
  rcases l with ⟨hk, hm⟩ | ⟨hk, c, hc, hcell⟩
  · exact wpAny_Name (wpAny_loadName_local I.ok.kind hk hn hm fin) hd
  · rcases hk with hk | hk
    · exact wpAny_Name (wpAny_loadName_cell I.ok.kind hk hc hcell fin) hd
    · exact wpAny_Name (wpAny_loadName_free I.ok.kind hk hc hcell fin hcd) hd
theorem pe_int {i j pos} : PE X (.Constant (.int i) j pos) (tC (.int i)) := fun _ _ _ H _ I h => wpAny_Constant_int ⟨.int i, H, I.tok _, ⟨_, rfl⟩, h⟩
theorem pe_bl {b j pos} : PE X (.Constant (.bool b) j pos) (tC (.bl b)) := fun _ _ _ H _ I h => Constant_bool ⟨.bl b, H, I, rfl, h⟩
theorem pe_non {j pos} : PE X (.Constant .none j pos) (tC .non) := fun _ _ _ H _ I h => Constant_none ⟨.non, H, I, rfl, h⟩
theorem pe_str {x j pos} : PE X (.Constant (.str x) j pos) (tC (.str x)) := fun _ _ _ H _ I h => Calls.Constant_str ⟨.str x, H, I.tok _, ⟨_, rfl⟩, h⟩

noncomputable def Gl (X : Cx) (x : Str) : Prop := X.env.kindOf x = some .globalImplicit
theorem ld_glob {E : Value → Shared → Prop} {pins : List (Addr × Obj)} {s : Shared} {σ : St} {H : Hp} {x : Str} {u : Value} {pos : Pos} {Q : Value → Shared → Prop} (I : Inv X pins σ H s) (hg : Gl X x) (hm : X.mg x = some u) (h : Q u s)
    (hd : (x == ("__debug__" : Str)) = false := by decide) : wpAny (model X.prog X.w) X.A (eval (.Name x pos) X.env) Q E s :=
  Calls.Name_function_global I.ok.kind hg (Calls.loadGlobal_global (by rw [I.ok.glob]; exact I.mod.glob.keeps I.bk) hm h) hd
theorem ld_blt {E : Value → Shared → Prop} {pins : List (Addr × Obj)} {s : Shared} {σ : St} {H : Hp} {x : Str} {u : Value} {pos : Pos} {Q : Value → Shared → Prop} (I : Inv X pins σ H s) (hg : Gl X x) (hm : X.mg x = none) (hv : bootBuiltins x = some u) (h : Q u s)
    (hn : x ≠ "__name__" := by decide) (hd : (x == ("__debug__" : Str)) = false := by decide) : wpAny (model X.prog X.w) X.A (eval (.Name x pos) X.env) Q E s := by
  obtain ⟨mb, h1, h2⟩ := I.mod.blt
  exact Calls.Name_function_global I.ok.kind hg (Calls.loadGlobal_builtin (by rw [I.ok.glob]; exact I.mod.glob.keeps I.bk) hm (by rw [I.ok.blt]; exact h1.keeps I.bk) ((h2 x hn).trans hv) h) hd
theorem pe_glob {x : Str} {v : V} {u : Value} {pos : Pos} (hg : Gl X x) (hm : X.mg x = some u) (r : RelV v u) (hd : (x == ("__debug__" : Str)) = false := by decide) : PE X (.Name x pos) (tC v) :=
  fun _ _ _ H _ I h => ld_glob I hg hm ⟨v, H, I, r, h⟩ hd
theorem pe_bltn {x : Str} {v : V} {u : Value} {pos : Pos} (hg : Gl X x) (hm : X.mg x = none) (hv : bootBuiltins x = some u) (r : RelV v u) (hn : x ≠ "__name__" := by decide) (hd : (x == ("__debug__" : Str)) = false := by decide) : PE X (.Name x pos) (tC v) :=
  fun _ _ _ H _ I h => ld_blt I hg hm hv ⟨v, H, I, r, h⟩ hn hd

variable {a b : Expr} {ta tb : TE} {pos : Pos}
noncomputable def PC (X : Cx) (op : CmpOp) (a b : Expr) (t : TE) : Prop :=
  ∀ (pins : List (Addr × Obj)) (s : Shared) (σ : St) (H : Hp) (Q : VK), Inv X pins σ H s → t σ H Q →
    wpAny (model X.prog X.w) X.A (eval a X.env) (fun v s₁ => wpAny (model X.prog X.w) X.A (eval b X.env) (fun u s₂ => wpAny (model X.prog X.w) X.A (compareOp op v u) (EP X pins σ Q) X.xe s₂) X.xe s₁) X.xe s
theorem nobehind (b : Expr) {op : CmpOp} (h : op ≠ .In) (h2 : op ≠ .NotIn) : behindInMarks op b = false := by
  have e1 : (op == CmpOp.In) = false := by cases op <;> first | rfl | exact absurd rfl h
  have e2 : (op == CmpOp.NotIn) = false := by cases op <;> first | rfl | exact absurd rfl h2
  cases b <;> simp [behindInMarks, e1, e2]
noncomputable def tIsN (ta : TE) : TE := fun σ H Q => ta σ H fun x H1 => Q (.bl (decide (x = .non))) H1
noncomputable def tNotN (ta : TE) : TE := fun σ H Q => ta σ H fun x H1 => Q (.bl (!decide (x = .non))) H1
theorem RelV.none_iff {x : V} {v : Value} (r : RelV x v) : (v == Value.none) = decide (x = .non) := by
  cases x with
  | non => cases r; rfl
  | bl _ => cases r; rfl
  | int _ => obtain ⟨t, rfl⟩ := r; rfl
  | str _ => obtain ⟨t, rfl⟩ := r; rfl
  | byt _ => obtain ⟨t, rfl⟩ := r; rfl
  | flt _ => obtain ⟨t, rfl⟩ := r; rfl
  | ref _ => cases r; rfl
  | ty _ => cases r; rfl
theorem pc_isN {j pos'} (ha : PE X a ta) : PC X .Is a (.Constant .none j pos') (tIsN ta) := by
  intro pins s σ H Q I h
  refine thn (ha pins s σ H _ I h) fun v s1 ⟨x, H1, I1, r1, q1⟩ => ?_
  exact Constant_none (is_none_gen ⟨.bl _, H1, I1, by rw [r1.none_iff]; rfl, q1⟩)
theorem pc_notN {j pos'} (ha : PE X a ta) : PC X .IsNot a (.Constant .none j pos') (tNotN ta) := by
  intro pins s σ H Q I h
  refine thn (ha pins s σ H _ I h) fun v s1 ⟨x, H1, I1, r1, q1⟩ => ?_
  exact Constant_none (isnot_none_gen ⟨.bl _, H1, I1, by rw [r1.none_iff]; rfl, q1⟩)
noncomputable def tB (t : TE) : TT := fun σ H Q => t σ H fun x H1 => ∃ c, x = .bl c ∧ Q c H1
theorem pt_cmp {op : CmpOp} {t : TE} (h : PC X op a b t) (h1 : behindInMarks op b = false := by first | exact nobehind _ (by decide) (by decide) | rfl) : PT X (.Compare a [op] [b] pos) (tB t) := by
  intro pins s σ H Q I hw
  refine wpAny_isTrue_Compare1 (thn (h pins s σ H _ I hw) fun v s1 h1 => thn h1 fun u s2 h2 => thn h2 fun c s3 ⟨x, H1, I1, r1, q1⟩ => ?_) h1
  obtain ⟨d, rfl, q⟩ := q1
  cases r1
  exact wpAny_truthy_bool ⟨H1, I1, q⟩
theorem pt_val {e : Expr} {t : TE} (h : PE X e t) (he : ∀ whole, isTrue e X.env whole = (do let v ← whole; standAt e.pos; holding [v] (truthy v)) := by intro _; rfl) : PT X e (tB t) := by
  intro pins s σ H Q I hw
  refine isTrue_plain (thn (h pins s σ H _ I hw) fun v s1 ⟨x, H1, I1, r1, q1⟩ => ?_) (he _)
  obtain ⟨d, rfl, q⟩ := q1
  cases r1
  exact wpAny_truthy_bool ⟨H1, I1, q⟩

variable {tA tB' : TT} {rest : List Expr}
noncomputable def tAnd (t u : TT) : TT := fun σ H Q => t σ H fun c H1 => if c = true then u σ H1 Q else Q false H1
noncomputable def tOr (t u : TT) : TT := fun σ H Q => t σ H fun c H1 => if c = true then Q true H1 else u σ H1 Q
noncomputable def tNot (t : TT) : TT := fun σ H Q => t σ H fun c H1 => Q (!c) H1
theorem pw_and1 (ha : PT X a tA) : PW X (.BoolOp .And [a] pos) tA := by
  intro wh pins s σ H Q I h
  refine isTrue_and (thn (ha pins s σ H Q I h) fun c s1 e => ?_)
  cases c with
  | true => exact isTrue_and_nil e
  | false => exact e
theorem pw_or1 (ha : PT X a tA) : PW X (.BoolOp .Or [a] pos) tA := by
  intro wh pins s σ H Q I h
  refine isTrue_or (thn (ha pins s σ H Q I h) fun c s1 e => ?_)
  cases c with
  | false => exact isTrue_or_nil e
  | true => exact e
theorem pw_and (ha : PT X a tA) (hb : PW X (.BoolOp .And (b :: rest) pos) tB') : PW X (.BoolOp .And (a :: b :: rest) pos) (tAnd tA tB') := by
  intro wh pins s σ H Q I h
  refine isTrue_and (thn (ha pins s σ H _ I h) fun c s1 ⟨H1, I1, q1⟩ => ?_)
  cases c with
  | true => exact hb wh pins s1 σ H1 Q I1 q1
  | false => exact ⟨H1, I1, q1⟩
theorem pw_or (ha : PT X a tA) (hb : PW X (.BoolOp .Or (b :: rest) pos) tB') : PW X (.BoolOp .Or (a :: b :: rest) pos) (tOr tA tB') := by
  intro wh pins s σ H Q I h
  refine isTrue_or (thn (ha pins s σ H _ I h) fun c s1 ⟨H1, I1, q1⟩ => ?_)
  cases c with
  | true => exact ⟨H1, I1, q1⟩
  | false => exact hb wh pins s1 σ H1 Q I1 q1
theorem pt_not (ha : PT X a tA) : PT X (.UnaryOp .Not a pos) (tNot tA) := by
  intro pins s σ H Q I h
  exact isTrue_not (ha pins s σ H (fun c H1 => Q (!c) H1) I h)
noncomputable def tNotV (ta : TE) : TE := fun σ H Q => ta σ H fun x H1 => ∃ c, x = .bl c ∧ Q (.bl (!c)) H1
theorem pe_not (ha : PE X a ta) : PE X (.UnaryOp .Not a pos) (tNotV ta) := by
  intro pins s σ H Q I h
  refine UnaryOp_ (thn (ha pins s σ H _ I h) fun v s1 ⟨x, H1, I1, r1, q1⟩ => ?_)
  obtain ⟨c, rfl, q1⟩ := q1
  cases r1
  exact not_of (wpAny_truthy_bool ⟨.bl (!c), H1, I1, rfl, q1⟩)
noncomputable def tIf (t : TT) (ta tb : TE) : TE := fun σ H Q => t σ H fun c H1 => if c = true then ta σ H1 Q else tb σ H1 Q
theorem pe_ifExp {c : Expr} (hc : PT X c tA) (ha : PE X a ta) (hb : PE X b tb) : PE X (.IfExp c a b pos) (tIf tA ta tb) := by
  intro pins s σ H Q I h
  refine wpAny_IfExp (thn (hc pins s σ H _ I h) fun d s1 ⟨H1, I1, q1⟩ => ?_)
  cases d with
  | true => exact ha pins s1 σ H1 Q I1 q1
  | false => exact hb pins s1 σ H1 Q I1 q1
end
end L2

namespace L2
open PySem PySem.Spec PyProof.Rows

noncomputable def SqL (K : PySem.W.Frag) (H : Hp) (a : Addr) (xs : List V) : Prop :=
  Rd H a (.lst xs) ∨
    ∃ (o : Obj) (its : Array Value) (n : Nat), K.lookup a = some o ∧ o.cls = .type "list" ∧ o.dict = none ∧ o.data = .seq its n ∧ its.size ≤ sizeLine ∧ Vals xs its.toList
noncomputable def SqT (K : PySem.W.Frag) (H : Hp) (a : Addr) (xs : List V) : Prop :=
  Rd H a (.tup xs) ∨
    ∃ (o : Obj) (its : Array Value) (n : Nat), K.lookup a = some o ∧ o.cls = .type "tuple" ∧ o.data = .seq its n ∧ its.size ≤ sizeLine ∧ Vals xs its.toList
noncomputable def absV : Value → Option V
  | .none => some .non
  | .bool b => some (.bl b)
  | .int i _ => some (.int i)
  | .str x _ => some (.str x)
  | .bytes b _ => some (.byt b)
  | .float b _ => some (.flt b)
  | .ref a => some (.ref a)
  | .type n => some (.ty n)
  | _ => none
theorem RelV.abs {x : V} {u : Value} (r : RelV x u) : absV u = some x := by
  cases x with
  | non => cases r; rfl
  | bl _ => cases r; rfl
  | int _ => obtain ⟨t, rfl⟩ := r; rfl
  | str _ => obtain ⟨t, rfl⟩ := r; rfl
  | byt _ => obtain ⟨t, rfl⟩ := r; rfl
  | flt _ => obtain ⟨t, rfl⟩ := r; rfl
  | ref _ => cases r; rfl
  | ty _ => cases r; rfl
theorem RelV.inj {x y : V} {u : Value} (r : RelV x u) (q : RelV y u) : x = y := Option.some.inj (r.abs.symm.trans q.abs)
theorem Vals.inj : ∀ {xs ys : List V} {us : List Value}, Vals xs us → Vals ys us → xs = ys
  | _, _, _, .nil, .nil => rfl
  | _, _, _, .cons r t, .cons r' t' => by rw [r.inj r', Vals.inj t t']
section
variable {X : Cx} {pins : List (Addr × Obj)} {σ : St} {H : Hp} {s : Shared} {a : Addr} {xs ys : List V}
theorem SqL.of {K : PySem.W.Frag} (h : H a = some (.lst xs)) : SqL K H a xs := .inl (.inl h)
theorem SqT.of {K : PySem.W.Frag} (h : H a = some (.tup xs)) : SqT K H a xs := .inl (.inl h)
theorem Inv.list (I : Inv X pins σ H s) (h : SqL X.K H a xs) : ∃ its : List Value, Vals xs its ∧ PlainL s.heap a its.toArray ∧ xs.length ≤ sizeLine := by
  rcases h with h | ⟨o, its, n, hk, hc, hd, hs, hz, r⟩
  · obtain ⟨z, its, n, r, e⟩ := h.ok I.hok
    exact ⟨its, r, ⟨_, n, e, rfl, rfl, rfl⟩, z⟩
  · refine ⟨its.toList, r, ⟨o, n, I.kIn a o hk, hc, hd, by simpa using hs⟩, ?_⟩
    have e := r.length
    simp only [Array.length_toList] at e
    omega
theorem Inv.tuple (I : Inv X pins σ H s) (h : SqT X.K H a xs) : ∃ its : List Value, Vals xs its ∧ IsTup s.heap a its.toArray ∧ xs.length ≤ sizeLine := by
  rcases h with h | ⟨o, its, n, hk, hc, hs, hz, r⟩
  · obtain ⟨z, its, r, p⟩ := h.ok I.hok
    exact ⟨its, r, p, z⟩
  · refine ⟨its.toList, r, ⟨o, I.kIn a o hk, hc, n, by simpa using hs⟩, ?_⟩
    have e := r.length
    simp only [Array.length_toList] at e
    omega
theorem Inv.list_inj (I : Inv X pins σ H s) (h : SqL X.K H a xs) (h' : SqL X.K H a ys) : xs = ys := by
  obtain ⟨its, r, ⟨o, n, e, _, _, d⟩, _⟩ := I.list h
  obtain ⟨its', r', ⟨o', n', e', _, _, d'⟩, _⟩ := I.list h'
  rw [e] at e'; cases e'
  rw [d] at d'
  injection d' with d1 _
  have : its = its' := by simpa using congrArg Array.toList d1
  subst this
  exact r.inj r'
theorem Inv.tuple_inj (I : Inv X pins σ H s) (h : SqT X.K H a xs) (h' : SqT X.K H a ys) : xs = ys := by
  obtain ⟨its, r, ⟨o, e, _, n, d⟩, _⟩ := I.tuple h
  obtain ⟨its', r', ⟨o', e', _, n', d'⟩, _⟩ := I.tuple h'
  rw [e] at e'; cases e'
  rw [d] at d'
  injection d' with d1 _
  have : its = its' := by simpa using congrArg Array.toList d1
  subst this
  exact r.inj r'
end

noncomputable abbrev Cx.wish (X : Cx) (E : Value → Shared → Prop) : Cx := { X with xe := E }
noncomputable abbrev Cx.nox (X : Cx) : Cx := X.wish fun _ _ => False
theorem Cx.Ok.wish {X : Cx} (ok : X.Ok) (E : Value → Shared → Prop) : (X.wish E).Ok :=
  ⟨ok.mod, ok.kind, ok.glob, ok.blt, ok.above, ok.inj, ok.has, ok.cab, ok.hd, ok.frames, ok.stk, ok.exf, ok.bs, ok.bsz, ok.noex, ok.exfs, ok.funs, ok.frf⟩
theorem Cx.Ok.unwish {X : Cx} {E : Value → Shared → Prop} (ok : (X.wish E).Ok) : X.Ok :=
  ⟨ok.mod, ok.kind, ok.glob, ok.blt, ok.above, ok.inj, ok.has, ok.cab, ok.hd, ok.frames, ok.stk, ok.exf, ok.bs, ok.bsz, ok.noex, ok.exfs, ok.funs, ok.frf⟩
section
variable {X : Cx} {pins : List (Addr × Obj)} {σ : St} {H : Hp} {s : Shared} {E : Value → Shared → Prop}
theorem Inv.wish (I : Inv X pins σ H s) (E : Value → Shared → Prop) : Inv (X.wish E) pins σ H s := ⟨I.ok.wish E, I.os, I.bare, I.base, I.loc, I.cell, I.free, I.freeC, I.pin, I.hok, I.len⟩
theorem Inv.unwish (I : Inv (X.wish E) pins σ H s) : Inv X pins σ H s := ⟨I.ok.unwish, I.os, I.bare, I.base, I.loc, I.cell, I.free, I.freeC, I.pin, I.hok, I.len⟩
theorem SP.unwish {D : Ends} {f : Flow} {s' : Shared} (h : SP (X.wish E) pins D f s') : SP X pins D f s' := by
  cases f with
  | next => obtain ⟨σ', H', I, q⟩ := h; exact ⟨σ', H', I.unwish, q⟩
  | brk => obtain ⟨σ', H', I, q⟩ := h; exact ⟨σ', H', I.unwish, q⟩
  | cont => obtain ⟨σ', H', I, q⟩ := h; exact ⟨σ', H', I.unwish, q⟩
  | ret u => obtain ⟨v, σ', H', I, r, q⟩ := h; exact ⟨v, σ', H', I.unwish, r, q⟩
theorem PE.nox {e : Expr} {t : TE} (h : PE X.nox e t) : PE X e t := fun pins s σ H Q I hw =>
  wpAny_mono (h pins s σ H Q (I.wish _) hw) (fun _ _ ⟨v, H', I', r, q⟩ => ⟨v, H', I'.unwish, r, q⟩) fun _ _ z => False.elim z
theorem PT.nox {e : Expr} {t : TT} (h : PT X.nox e t) : PT X e t := fun pins s σ H Q I hw =>
  wpAny_mono (h pins s σ H Q (I.wish _) hw) (fun _ _ ⟨H', I', q⟩ => ⟨H', I'.unwish, q⟩) fun _ _ z => False.elim z
theorem PSs.nox {st : List Stmt} {t : TS} (h : PSs X.nox st t) : PSs X st t := fun pins s σ H D I hw =>
  wpAny_mono (h pins s σ H D (I.wish _) hw) (fun _ _ q => q.unwish) fun _ _ z => False.elim z
end

section
variable {X : Cx} {st : Stmt} {rest : List Stmt} {t u : TS} {e : Expr} {te : TE} {pos : Pos}
noncomputable def tNext : TS := fun D σ H => D.nx σ H
noncomputable def tSeq (t u : TS) : TS := fun D σ H => t { D with nx := u D } σ H
theorem pss_nil : PSs X [] tNext := fun _ _ σ H _ I h => wpAny_execs_nil ⟨σ, H, I, h⟩
theorem pss_cons (h1 : PS X st t) (h2 : PSs X rest u) : PSs X (st :: rest) (tSeq t u) := by
  intro pins s σ H D I h
  refine wpAny_execs_cons (thn (h1 pins s σ H { D with nx := u D } I h) fun f s1 q => ?_)
  cases f with
  | next =>
    obtain ⟨σ', H', I', q⟩ := q
    exact h2 pins s1 σ' H' D I' q
  | ret v => exact q
  | brk => exact q
  | cont => exact q
theorem pss_one (h1 : PS X st t) : PSs X [st] t := by
  intro pins s σ H D I h
  refine wpAny_execs_cons (thn (h1 pins s σ H D I h) fun f s1 q => ?_)
  cases f with
  | next => exact wpAny_execs_nil q
  | ret v => exact q
  | brk => exact q
  | cont => exact q
theorem Inv.quiet {pins : List (Addr × Obj)} {σ : St} {H : Hp} {s : Shared} (I : Inv X pins σ H s) : interactive X.env = false := by simp [interactive, I.ok.kind]
noncomputable def tDrop (te : TE) : TS := fun D σ H => te σ H fun _ H1 => D.nx σ H1
theorem ps_expr (he : PE X e te) (hs : swapsWith e none pos.line X.env = pure false := by rfl) : PS X (.Expr e pos) (tDrop te) := by
  intro pins s σ H D I h
  exact wpAny_Expr_any (thn (he pins s σ H _ I h) fun v s1 ⟨x, H1, I1, r1, q1⟩ => ⟨σ, H1, I1, q1⟩) I.quiet hs
noncomputable def tRet (te : TE) : TS := fun D σ H => te σ H D.rt
theorem ps_ret (he : PE X e te) : PS X (.Return (some e) pos) (tRet te) := by
  intro pins s σ H D I h
  exact wpAny_Return_some (thn (he pins s σ H _ I h) fun v s1 ⟨x, H1, I1, r1, q1⟩ => ⟨x, σ, H1, I1, r1, q1⟩)
noncomputable def tIfS (c : TT) (t u : TS) : TS := fun D σ H => c σ H fun b H1 => if b = true then t D σ H1 else u D σ H1
theorem ps_if {c : Expr} {a b : List Stmt} {tc : TT} (hc : PT X c tc) (ha : PSs X a t) (hb : PSs X b u) : PS X (.If c a b pos) (tIfS tc t u) := by
  intro pins s σ H D I h
  refine wpAny_If (thn (hc pins s σ H _ I h) fun d s1 ⟨H1, I1, q1⟩ => ?_)
  cases d with
  | true => exact ha pins s1 σ H1 D I1 q1
  | false => exact hb pins s1 σ H1 D I1 q1
noncomputable def tNever : TS := fun _ _ _ => False
theorem ps_never : PS X st tNever := fun _ _ _ _ _ _ h => h.elim
end

noncomputable abbrev TG := V → St → Hp → (St → Hp → Prop) → Prop
noncomputable abbrev TGs := List V → St → Hp → (St → Hp → Prop) → Prop
noncomputable def PG (X : Cx) (target : Expr) (t : TG) : Prop :=
  ∀ (pins : List (Addr × Obj)) (s : Shared) (σ : St) (H : Hp) (v : V) (u : Value) (Q : St → Hp → Prop), Inv X pins σ H s → RelV v u → t v σ H Q →
    wpAny (model X.prog X.w) X.A (assign target X.env u) (fun _ s' => ∃ σ' H', Inv X pins σ' H' s' ∧ Q σ' H') X.xe s
noncomputable def PGs (X : Cx) (ts : List Expr) (t : TGs) : Prop :=
  ∀ (pins : List (Addr × Obj)) (s : Shared) (σ : St) (H : Hp) (vs : List V) (us : List Value) (Q : St → Hp → Prop), Inv X pins σ H s → Vals vs us → t vs σ H Q →
    wpAny (model X.prog X.w) X.A (assignInOrder ((assignEach ts X.env).map (·.2)) us) (fun _ s' => ∃ σ' H', Inv X pins σ' H' s' ∧ Q σ' H') X.xe s
noncomputable abbrev TSet := V → V → V → Hp → (Hp → Prop) → Prop
noncomputable def PSet (X : Cx) (t : TSet) : Prop :=
  ∀ (pins : List (Addr × Obj)) (s : Shared) (σ : St) (H : Hp) (o i v : V) (ov iv u : Value) (Q : Hp → Prop), Inv X pins σ H s → RelV o ov → RelV i iv → RelV v u → t o i v H Q →
    wpAny (model X.prog X.w) X.A (setItem ov iv u) (fun _ s' => ∃ H', Inv X pins σ H' s' ∧ Q H') X.xe s
section
variable {X : Cx} {pos : Pos}
noncomputable def gName (i : Nat) : TG := fun v σ H Q => Q (σ.set i (some v)) H
theorem pg_name {i : Nat} {x : Str} (hN : X.N.Nodup) (hi : X.N[i]? = some x) (hx : Loc X.env.scope x) (hf : X.fn x = true ∨ X.env.scope.names.lookup x = some .local := by first | exact .inl rfl | exact .inr rfl | assumption) : PG X (.Name x pos) (gName i) := by
  intro pins s σ H v u Q I r h
  exact wpAny_assign_Name (store_ok I hN hi hx r (fun s' I' => ⟨_, H, I', h⟩) hf)
noncomputable def gNil : TGs := fun vs σ H Q => vs = [] ∧ Q σ H
noncomputable def gCons (t : TG) (u : TGs) : TGs := fun vs σ H Q => ∃ v r, vs = v :: r ∧ t v σ H fun σ' H' => u r σ' H' Q
theorem pgs_nil : PGs X [] gNil := by
  intro pins s σ H vs us Q I r h
  obtain ⟨e, h⟩ := h
  subst e
  cases r
  exact assignInOrder_nil ⟨σ, H, I, h⟩
theorem pgs_cons {e : Expr} {es : List Expr} {t : TG} {u : TGs} (h1 : PG X e t) (h2 : PGs X es u)
    (hs : (assignEach (e :: es) X.env).map (·.2) = assign e X.env :: (assignEach es X.env).map (·.2) := by rfl) : PGs X (e :: es) (gCons t u) := by
  intro pins s σ H vs us Q I r h
  obtain ⟨v, vr, e1, h⟩ := h
  subst e1
  cases r with
  | cons r rr =>
    rw [hs]
    refine assignInOrder_cons (thn (h1 pins s σ H _ _ _ I r h) fun _ s1 ⟨σ1, H1, I1, q1⟩ => ?_)
    exact h2 pins s1 σ1 H1 _ _ Q I1 rr q1
noncomputable def gTup (K : PySem.W.Frag) (n : Nat) (t : TGs) : TG := fun v σ H Q => ∃ a xs, v = .ref a ∧ SqT K H a xs ∧ xs.length = n ∧ t xs σ H Q
theorem pg_tup {es : List Expr} {k : Nat} {t : TGs} {n : Nat} (hc : X.calm = true) (h : PGs X es t)
    (hn : (assignEach es X.env).length = n := by rfl) (hst : (assignEach es X.env).findIdx? (·.1) = none := by rfl) : PG X (.Tuple es k pos) (gTup X.K n t) := by
  intro pins s σ H v u Q I r hw
  obtain ⟨a, xs, e1, hq, hl, hw⟩ := hw
  subst e1
  cases r
  obtain ⟨its, rv, ht, hz⟩ := I.tuple hq
  refine assign_Tuple_tuple (I.ok.hd hc) ht (by simp [hn, ← hl, rv.length]) hst fun h' hx => ?_
  have I1 : Inv X pins σ H { s with heap := h' } := I.kept (t' := s.toks) fun b o e => hx b o (Nat.ne_of_lt (Heap.lt_size e)) e
  exact h pins _ σ H xs _ Q I1 (by simpa using rv) hw
noncomputable def gSub (to ti : TE) (t : TSet) : TG := fun v σ H Q => to σ H fun o H1 => ti σ H1 fun i H2 => t o i v H2 fun H3 => Q σ H3
theorem pg_sub {o i : Expr} {to ti : TE} {t : TSet} (ho : PE X o to) (hi : PE X i ti) (hs : PSet X t)
    (ha : ∀ v, assign (.Subscript o i pos) X.env v = (do
      let ov ← holding [v] (eval o X.env)
      let iv ← holding [v, ov] (eval i X.env)
      standAt pos
      holding [v, ov, iv] (setItem ov iv v)
      release [v, ov, iv] []) := by intro _; rfl) : PG X (.Subscript o i pos) (gSub to ti t) := by
  intro pins s σ H v u Q I r h
  rw [ha]
  refine wpAny_bind (wpAny_holding (thn (ho pins s σ H _ I h) fun ov s1 ⟨x, H1, I1, r1, q1⟩ => ?_))
  refine wpAny_bind (wpAny_holding (thn (hi pins s1 σ H1 _ I1 q1) fun iv s2 ⟨y, H2, I2, r2, q2⟩ => ?_))
  refine wpAny_bind (wpAny_standAt (wpAny_bind (wpAny_holding (thn (hs pins s2 σ H2 x y v ov iv u _ I2 r1 r2 r q2) fun _ s3 ⟨H3, I3, q3⟩ => ?_))))
  exact wpAny_release ⟨σ, H3, I3, q3⟩
noncomputable def tAsg (te : TE) (g : TG) : TS := fun D σ H => te σ H fun x H1 => g x σ H1 D.nx
theorem ps_asg {tg e : Expr} {te : TE} {g : TG} (he : PE X e te) (hg : PG X tg g) (hs : swapsWithSole [tg] e pos.line X.env = pure false := by rfl) (hw : swappedStores [tg] e X.env = pure none := by rfl)
    (h1 : (assignEach [tg] X.env).map (·.2) = [assign tg X.env] := by rfl) : PS X (.Assign [tg] e pos) (tAsg te g) := by
  intro pins s σ H D I h
  refine wpAny_Assign_stores (thn (he pins s σ H _ I h) fun v s1 ⟨x, H1, I1, r1, q1⟩ => ?_) hs hw
  rw [h1]
  exact thn (hg pins s1 σ H1 x v _ I1 r1 q1) fun _ s2 q => q
theorem ps_set {i : Nat} {x : Str} {e : Expr} {te : TE} {pos' : Pos} (hN : X.N.Nodup) (hi : X.N[i]? = some x) (hx : Loc X.env.scope x) (he : PE X e te) (hs : swapsWith e (some (.Name x pos')) pos.line X.env = pure false := by rfl) (hf : X.fn x = true ∨ X.env.scope.names.lookup x = some .local := by first | exact .inl rfl | exact .inr rfl | assumption) :
    PS X (.Assign [.Name x pos'] e pos) (tAsg te (gName i)) := by
  intro pins s σ H D I h
  refine wpAny_Assign_Name (thn (he pins s σ H _ I h) fun v s1 ⟨y, H1, I1, r1, q1⟩ => ?_) hs
  exact store_ok I1 hN hi hx r1 (fun s2 I2 => ⟨_, H1, I2, q1⟩) hf
end

section
variable {X : Cx} {pos : Pos}
end

structure It where
  go : Nat → Hp → Prop
  yld : Nat → Hp → V → Hp → Prop
  stop : Nat → Hp → Prop
noncomputable def FpOk (X : Cx) (pins : List (Addr × Obj)) (H : Hp) (b : Addr) : Prop :=
  H b = none ∧ b ≠ X.env.locals ∧ b ∉ X.fs ∧ (b ∈ X.ex ∨ X.s₀.heap.objs.size ≤ b) ∧ (∀ x c, X.env.cells.lookup x = some c → c ≠ b) ∧ ∀ p ∈ X.pn ++ pins, p.1 ≠ b
theorem Inv.fpOk {X : Cx} {pins : List (Addr × Obj)} {σ : St} {H H' : Hp} {s : Shared} {b : Addr} (I : Inv X pins σ H s) (hb : s.heap.objs.size ≤ b) (hn : H' b = none) : FpOk X pins H' b := by
  refine ⟨hn, Nat.ne_of_gt (Nat.lt_of_lt_of_le I.lt hb), I.nofs hb, .inr (Nat.le_trans I.sz hb), fun x c e z => ?_, fun p hp z => ?_⟩
  · obtain ⟨v, q⟩ := I.cell x c e
    exact absurd (Nat.lt_of_lt_of_le q.lt (by rw [z]; exact hb)) (Nat.lt_irrefl _)
  · exact absurd (Nat.lt_of_lt_of_le (Heap.lt_size (I.pin p hp).1) (by rw [z]; exact hb)) (Nat.lt_irrefl _)
structure Turn (P : Program) (w : World) (K : PySem.W.Frag) (tg : Expr) (J : It) (fp : List Addr) (it : Addr) (tn : Nat → Heap → Prop) : Prop where
  mem : it ∈ fp
  obj : ∀ i h, tn i h → ∀ b ∈ fp, ∃ o, h.get? b = some o ∧ ∀ v, o.data ≠ .cell v
  keep : ∀ i h h', tn i h → (∀ b ∈ fp, ∀ o, h.get? b = some o → h'.get? b = some o) → tn i h'
  item : ∀ (X : Cx), X.prog = P → X.w = w → X.K = K → X.calm = true → ∀ (i : Nat) (pins : List (Addr × Obj)) (s : Shared) (σ : St) (H : Hp) (E : Value → Shared → Prop), Inv X pins σ H s → (∀ b ∈ fp, FpOk X pins H b) → tn i s.heap → J.go i H →
    wpAny (model P w) X.A (pyNext (.ref it)) (fun r s1 => ∃ u, r = some u ∧
      wpAny (model P w) X.A (letOwnedTupleGo tg (.ref it) u) (fun _ s2 => ∃ x H', Inv X pins σ H' s2 ∧ RelV x u ∧ J.yld i H x H' ∧ tn (i + 1) s2.heap ∧ ∀ b ∈ fp, H' b = none) E s1) E s
  done : ∀ (X : Cx), X.prog = P → X.w = w → X.K = K → X.calm = true → ∀ (i : Nat) (pins : List (Addr × Obj)) (s : Shared) (σ : St) (H : Hp) (E : Value → Shared → Prop), Inv X pins σ H s → (∀ b ∈ fp, FpOk X pins H b) → tn i s.heap → J.stop i H →
    wpAny (model P w) X.A (pyNext (.ref it)) (fun r s1 => r = none ∧ Inv X pins σ H s1) E s
  self : ∀ (A : Around) (i : Nat) (s : Shared) (Q : Value → Shared → Prop) (E : Value → Shared → Prop), tn i s.heap → Q (.ref it) s → wpAny (model P w) A (pyIter (.ref it)) Q E s
noncomputable abbrev TI := St → Hp → (It → Hp → Prop) → Prop
noncomputable def PIE (X : Cx) (pins : List (Addr × Obj)) (σ : St) (tg : Expr) (R : It → Hp → Prop) (itv : Value) (s2 : Shared) : Prop :=
  ∃ (it : Addr) (fp : List Addr) (tn : Nat → Heap → Prop) (J : It) (H' : Hp), itv = .ref it ∧ Inv X pins σ H' s2 ∧ Turn X.prog X.w X.K tg J fp it tn ∧ tn 0 s2.heap ∧ (∀ b ∈ fp, FpOk X pins H' b) ∧ R J H'
noncomputable def PI (X : Cx) (tg iter : Expr) (wi : TI) : Prop :=
  ∀ (pins : List (Addr × Obj)) (s : Shared) (σ : St) (H : Hp) (R : It → Hp → Prop), Inv X pins σ H s → wi σ H R →
    wpAny (model X.prog X.w) X.A (eval iter X.env) (fun v s1 => wpAny (model X.prog X.w) X.A (pyIter v) (PIE X pins σ tg R) X.xe s1) X.xe s

theorem go_of {M : Model} {A : Around} {E : Value → Shared → Prop} {s : Shared} {tg : Expr} {it : Addr} {u : Value} {o : Obj} {n : String} {vs : Array Value} {Q : Unit → Shared → Prop} (ho : s.heap.get? it = some o) (hc : o.cls = .type n) (hd : o.data = .fields vs)
    (hn : ["enumerate", "zip", "dict_itemiterator", "dict_reverseitemiterator", "odict_iterator", "itertools.zip_longest", "itertools.pairwise"].contains n = false) (hQ : Q () s) : wpAny M A (letOwnedTupleGo tg (.ref it) u) Q E s := by
  unfold letOwnedTupleGo
  cases tg <;> first
    | exact wpAny_pure hQ
    | (cases u <;> first
        | exact wpAny_pure hQ
        | (refine wpAny_bind (wpAny_load ho ?_)
           rw [hc, hd]
           show wpAny M A (if (["enumerate", "zip", "dict_itemiterator", "dict_reverseitemiterator", "odict_iterator", "itertools.zip_longest", "itertools.pairwise"].contains n && vs[0]? == some (rawInt _)) = true then _ else _) Q E s
           rw [if_neg (by intro h; rw [hn, Bool.false_and] at h; cases h)]
           exact wpAny_pure hQ))

noncomputable def Itl (K : PySem.W.Frag) (a : Addr) : It :=
  ⟨fun i H => ∃ xs x, SqL K H a xs ∧ xs[i]? = some x, fun i H x H' => H' = H ∧ ∀ xs, SqL K H a xs → xs[i]? = some x, fun i H => ∃ xs, SqL K H a xs ∧ xs.length ≤ i⟩
noncomputable def Itt (K : PySem.W.Frag) (a : Addr) : It :=
  ⟨fun i H => ∃ xs x, SqT K H a xs ∧ xs[i]? = some x, fun i H x H' => H' = H ∧ ∀ xs, SqT K H a xs → xs[i]? = some x, fun i H => ∃ xs, SqT K H a xs ∧ xs.length ≤ i⟩
noncomputable def Itr (lo : Int) (n : Nat) : It := ⟨fun i _ => i < n, fun i H x H' => H' = H ∧ x = .int (lo + i), fun i _ => n ≤ i⟩
theorem turn_list {P : Program} {w : World} {K : PySem.W.Frag} {tg : Expr} (a it : Addr) : Turn P w K tg (Itl K a) [it] it (fun i h => h.IsListIter it a i) where
  mem := by simp
  obj := fun i h st b hb => by
    have e : b = it := by simpa using hb
    subst e
    obtain ⟨o, e, c, d⟩ := st
    exact ⟨o, e, fun v z => by rw [d] at z; cases z⟩
  keep := fun i h h' st k => st.at fun o e => k it (by simp) o e
  item := by
    intro X hP hw hK hc i pins s σ H E I hf st hg
    subst hP hw hK
    obtain ⟨xs, x, hq, hx⟩ := hg
    obtain ⟨its, rv, p, hz⟩ := I.list hq
    obtain ⟨u, hu, ru⟩ := rv.get hx
    obtain ⟨f0, f1, f2, f3, f4, f5⟩ := hf it (by simp)
    refine wpAny_pyNext_list_item st p.isList (x := u) (by simpa using hu) fun h' st' sb => ?_
    have I1 : Inv X pins σ H { s with heap := h' } := I.turned (t' := s.toks) (fun b o hb e => (sb.2 b hb).trans e) f0 f1 f3 f4 f5
    obtain ⟨o, e, c, d⟩ := id st'
    exact ⟨u, rfl, go_of (s := { s with heap := h' }) e c d (by decide) ⟨x, H, I1, ru, ⟨rfl, fun ys hy => by rw [I.list_inj hy hq]; exact hx⟩, st', fun b hb => (hf b hb).1⟩⟩
  done := by
    intro X hP hw hK hc i pins s σ H E I hf st hg
    subst hP hw hK
    obtain ⟨xs, hq, hx⟩ := hg
    obtain ⟨its, rv, p, hz⟩ := I.list hq
    obtain ⟨f0, f1, f2, f3, f4, f5⟩ := hf it (by simp)
    have hl := rv.length
    exact wpAny_pyNext_list_end (I.ok.hd hc) st p.isList (by simp; omega) fun h' eb => ⟨rfl, I.turned (t' := s.toks) (fun b o hb e => eb b o hb e) f0 f1 f3 f4 f5⟩
  self := fun _ _ _ _ _ st h => wpAny_pyIter_listiter st h
theorem turn_tuple {P : Program} {w : World} {K : PySem.W.Frag} {tg : Expr} (a it : Addr) : Turn P w K tg (Itt K a) [it] it (fun i h => h.IsTupleIter it a i) where
  mem := by simp
  obj := fun i h st b hb => by
    have e : b = it := by simpa using hb
    subst e
    obtain ⟨o, e, c, d⟩ := st
    exact ⟨o, e, fun v z => by rw [d] at z; cases z⟩
  keep := fun i h h' st k => st.at fun o e => k it (by simp) o e
  item := by
    intro X hP hw hK hc i pins s σ H E I hf st hg
    subst hP hw hK
    obtain ⟨xs, x, hq, hx⟩ := hg
    obtain ⟨its, rv, p, hz⟩ := I.tuple hq
    obtain ⟨u, hu, ru⟩ := rv.get hx
    obtain ⟨f0, f1, f2, f3, f4, f5⟩ := hf it (by simp)
    refine wpAny_pyNext_tuple_item st (show s.heap.IsTuple a its.toArray from p) (x := u) (by simpa using hu) fun h' st' sb => ?_
    have I1 : Inv X pins σ H { s with heap := h' } := I.turned (t' := s.toks) (fun b o hb e => (sb.2 b hb).trans e) f0 f1 f3 f4 f5
    obtain ⟨o, e, c, d⟩ := id st'
    exact ⟨u, rfl, go_of (s := { s with heap := h' }) e c d (by decide) ⟨x, H, I1, ru, ⟨rfl, fun ys hy => by rw [I.tuple_inj hy hq]; exact hx⟩, st', fun b hb => (hf b hb).1⟩⟩
  done := by
    intro X hP hw hK hc i pins s σ H E I hf st hg
    subst hP hw hK
    obtain ⟨xs, hq, hx⟩ := hg
    obtain ⟨its, rv, p, hz⟩ := I.tuple hq
    obtain ⟨f0, f1, f2, f3, f4, f5⟩ := hf it (by simp)
    have hl := rv.length
    exact wpAny_pyNext_tuple_end (I.ok.hd hc) st (show s.heap.IsTuple a its.toArray from p) (by simp; omega) fun h' eb => ⟨rfl, I.turned (t' := s.toks) (fun b o hb e => eb b o hb e) f0 f1 f3 f4 f5⟩
  self := fun _ _ _ _ _ st h => wpAny_pyIter_tupleiter st h
theorem turn_range {P : Program} {w : World} {K : PySem.W.Frag} {tg : Expr} (it : Addr) (lo : Int) (n : Nat) : Turn P w K tg (Itr lo n) [it] it (fun i h => IsRangeIter h it (lo + (i : Nat) * 1) ((n : Int) - (i : Nat)) 1) where
  mem := by simp
  obj := fun i h st b hb => by
    have e : b = it := by simpa using hb
    subst e
    exact ⟨_, st, fun v z => by
      have z' : Data.fields _ = Data.cell v := z
      cases z'⟩
  keep := fun i h h' st k => k it (by simp) _ st
  item := by
    intro X hP hw hK hc i pins s σ H E I hf st hg
    subst hP hw hK
    obtain ⟨f0, f1, f2, f3, f4, f5⟩ := hf it (by simp)
    have W := Walks.range (prog := X.prog) (w := X.w) (I.ok.hd hc) it lo 1 n
    refine W.item i s _ _ hg st fun v h' tk hv st' kk => ?_
    obtain ⟨t, rfl⟩ := hv
    have I1 : Inv X pins σ H { s with heap := h', toks := tk } := I.turned (fun b o hb e => kk b o (by simpa using hb) e) f0 f1 f3 f4 f5
    refine ⟨_, rfl, go_of (s := { s with heap := h', toks := tk }) (n := "range_iterator") st' rfl rfl (by decide) ⟨.int (lo + i), H, I1, ⟨t, ?_⟩, ⟨rfl, rfl⟩, st', fun b hb => (hf b hb).1⟩⟩
    rw [Int.mul_one]
  done := by
    intro X hP hw hK hc i pins s σ H E I hf st hg
    subst hP hw hK
    obtain ⟨f0, f1, f2, f3, f4, f5⟩ := hf it (by simp)
    exact wpAny_pyNext_range_end (I.ok.hd hc) st (by have : n ≤ i := hg; omega) fun h' eb => ⟨rfl, I.turned (t' := s.toks) (fun b o hb e => eb b o hb e) f0 f1 f3 f4 f5⟩
  self := fun _ _ _ _ _ st h => wpAny_pyIter_rangeiter st h
end L2

namespace L2
open PySem PySem.Spec PyProof.Rows
section
variable {X : Cx} {tg : Expr}
noncomputable def iList (K : PySem.W.Frag) (tl : TE) : TI := fun σ H R => tl σ H fun x H1 => ∃ a, x = .ref a ∧ (∃ xs, SqL K H1 a xs) ∧ R (Itl K a) H1
noncomputable def iTup (K : PySem.W.Frag) (tl : TE) : TI := fun σ H R => tl σ H fun x H1 => ∃ a, x = .ref a ∧ (∃ xs, SqT K H1 a xs) ∧ R (Itt K a) H1
theorem pi_list {l : Expr} {tl : TE} (hl : PE X l tl) : PI X tg l (iList X.K tl) := by
  intro pins s σ H R I h
  refine thn (hl pins s σ H _ I h) fun v s1 ⟨x, H1, I1, r1, q1⟩ => ?_
  obtain ⟨a, e, ⟨xs, hq⟩, q⟩ := q1
  subst e
  cases r1
  obtain ⟨its, rv, p, hz⟩ := I1.list hq
  refine wpAny_pyIter_list p.isList ?_
  refine ⟨s1.heap.objs.size, [s1.heap.objs.size], _, _, H1, rfl, I1.kept (t' := s1.toks) fun b o e => Heap.get?_push_of_some _ e, turn_list a _, ⟨_, Heap.get?_push_size _ rfl, rfl, rfl⟩, fun b hb => ?_, q⟩
  have e : b = s1.heap.objs.size := by simpa using hb
  subst e
  exact I1.fpOk (Nat.le_refl _) (I1.hok.fresh (Nat.le_refl _))
theorem pi_tup {l : Expr} {tl : TE} (hl : PE X l tl) : PI X tg l (iTup X.K tl) := by
  intro pins s σ H R I h
  refine thn (hl pins s σ H _ I h) fun v s1 ⟨x, H1, I1, r1, q1⟩ => ?_
  obtain ⟨a, e, ⟨xs, hq⟩, q⟩ := q1
  subst e
  cases r1
  obtain ⟨its, rv, p, hz⟩ := I1.tuple hq
  refine wpAny_pyIter_tuple (show s1.heap.IsTuple a its.toArray from p) ?_
  refine ⟨s1.heap.objs.size, [s1.heap.objs.size], _, _, H1, rfl, I1.kept (t' := s1.toks) fun b o e => Heap.get?_push_of_some _ e, turn_tuple a _, ⟨_, Heap.get?_push_size _ rfl, rfl, rfl⟩, fun b hb => ?_, q⟩
  have e : b = s1.heap.objs.size := by simpa using hb
  subst e
  exact I1.fpOk (Nat.le_refl _) (I1.hok.fresh (Nat.le_refl _))
theorem range_it {pins : List (Addr × Obj)} {σ : St} {H : Hp} {s : Shared} {R : It → Hp → Prop} {E : Value → Shared → Prop} {lo hi : Int} {t u v : Tok} {tk : Nat} (I : Inv X pins σ H s) (h1 : -(2 ^ 62) ≤ lo) (h2 : lo < 2 ^ 62) (h3 : -(2 ^ 62) ≤ hi) (h4 : hi < 2 ^ 62)
    (q : R (Itr lo (hi - lo).toNat) H) : wpAny (model X.prog X.w) X.A (pyIter (.ref s.heap.objs.size)) (PIE X pins σ tg R) E { s with heap := s.heap.push { cls := .type "range", data := .fields #[.int lo t, .int hi u, .int 1 v] }, toks := tk } := by
  refine wpAny_pyIter_range (IsRange.new ..) (small_one h1 h2 h3 h4) ?_
  have I1 : Inv X pins σ H { s with heap := s.heap.push { cls := .type "range", data := .fields #[.int lo t, .int hi u, .int 1 v] }, toks := tk } := I.kept fun b o e => Heap.get?_push_of_some _ e
  refine ⟨(s.heap.push { cls := .type "range", data := .fields #[.int lo t, .int hi u, .int 1 v] }).objs.size, [(s.heap.push { cls := .type "range", data := .fields #[.int lo t, .int hi u, .int 1 v] }).objs.size], _, _, H, rfl,
    I1.kept (t' := tk) fun b o e => Heap.get?_push_of_some _ e, turn_range _ lo (hi - lo).toNat, ?_, fun b hb => ?_, q⟩
  · have e1 : lo + ((0 : Nat) : Int) * 1 = lo := by simp
    have e2 : (((hi - lo).toNat : Nat) : Int) - ((0 : Nat) : Int) = Builtin.Range.rangeSize lo hi 1 := by rw [rangeSize_one]; split <;> omega
    show IsRangeIter _ _ (lo + ((0 : Nat) : Int) * 1) ((((hi - lo).toNat : Nat) : Int) - ((0 : Nat) : Int)) 1
    rw [e1, e2]
    exact Heap.get?_push_size _ rfl
  · have e : b = (s.heap.push { cls := .type "range", data := .fields #[.int lo t, .int hi u, .int 1 v] }).objs.size := by simpa using hb
    subst e
    exact I1.fpOk (Nat.le_refl _) (I1.hok.fresh (Nat.le_refl _))
noncomputable def iRng1 (ta : TA) : TI := fun σ H R => ta σ H fun vs H1 => ∃ j : Int, vs = [.int j] ∧ -(2 ^ 62) ≤ j ∧ j < 2 ^ 62 ∧ R (Itr 0 j.toNat) H1
theorem pi_range1 {a : Expr} {ta : TA} {p pos : Pos} (hg : Gl X "range") (hm : X.mg "range" = none) (ha : PA X [a] ta) (hs : starEach [a] X.env = [(false, eval a X.env)] := by rfl) : PI X tg (.Call (.Name "range" p) [a] [] pos) (iRng1 ta) := by
  intro pins s σ H R I h
  refine Call_ (ld_blt I hg hm boot_range (PyProof.Rows.callWith_type1 (thn (ha pos pins s σ H _ I h) fun us s1 ⟨vs, H1, I1, r1, q1⟩ => ?_) hs rfl))
  obtain ⟨j, e, q1, q2, q⟩ := q1
  subst e
  cases r1 with
  | cons r rr =>
    cases rr
    obtain ⟨t, rfl⟩ := r
    exact call_range_1 (range_it I1 (by omega) (by omega) q1 q2 (by simpa using q))
noncomputable def tFor (wi : TI) (g : TG) (tb : TS) : TS := fun D σ H => wi σ H fun J H1 => ∃ W : Nat → Nat → St → Hp → Prop, (∃ m, W 0 m σ H1) ∧ ∀ i m σ H, W i m σ H →
  (J.stop i H ∧ D.nx σ H) ∨ (J.go i H ∧ ∃ N : St → Hp → Prop, (∀ σ' H', N σ' H' → ∃ m', m' < m ∧ W (i + 1) m' σ' H') ∧ ∀ x H', J.yld i H x H' → g x σ H' fun σ2 H2 => tb { D with nx := N, ct := N, bk := D.nx } σ2 H2)
noncomputable def pinsAt (fp : List Addr) (h : Heap) : List (Addr × Obj) := fp.filterMap fun b => (h.get? b).map fun o => (b, o)
theorem mem_pinsAt {fp : List Addr} {h : Heap} {b : Addr} {o : Obj} (hb : b ∈ fp) (e : h.get? b = some o) : (b, o) ∈ pinsAt fp h := List.mem_filterMap.mpr ⟨b, hb, by rw [e]; rfl⟩
theorem of_pinsAt {fp : List Addr} {h : Heap} {p : Addr × Obj} (hp : p ∈ pinsAt fp h) : p.1 ∈ fp ∧ h.get? p.1 = some p.2 := by
  obtain ⟨b, hb, e⟩ := List.mem_filterMap.mp hp
  cases q : h.get? b with
  | none => rw [q] at e; cases e
  | some o =>
    rw [q] at e
    have e' : (b, o) = p := Option.some.inj e
    subst e'
    exact ⟨hb, q⟩
theorem Inv.pinned {pins : List (Addr × Obj)} {σ : St} {H : Hp} {s : Shared} {fp : List Addr} (I : Inv X pins σ H s) (hf : ∀ b ∈ fp, FpOk X pins H b) (ho : ∀ b ∈ fp, ∃ o, s.heap.get? b = some o ∧ ∀ v, o.data ≠ .cell v) : Inv X (pins ++ pinsAt fp s.heap) σ H s :=
  I.pins_of fun p hp => (List.mem_append.mp hp).elim (fun z => I.pin p (List.mem_append_right _ z)) fun z => by
    obtain ⟨hb, e⟩ := of_pinsAt z
    obtain ⟨f0, f1, f2, _⟩ := hf p.1 hb
    obtain ⟨o, e', d⟩ := ho p.1 hb
    rw [e] at e'; cases e'
    exact ⟨e, f0, f1, f2, d⟩
theorem Inv.unpinned {pins pl : List (Addr × Obj)} {σ : St} {H : Hp} {s : Shared} (I : Inv X (pins ++ pl) σ H s) : Inv X pins σ H s := I.pins_of fun p hp => I.pin p (List.mem_append_right _ (List.mem_append_left _ hp))
theorem ps_for {iter : Expr} {body : List Stmt} {wi : TI} {g : TG} {tb : TS} {pos : Pos} (hp : PassesOwn (model X.prog X.w) X.A X.env X.xe) (hc : X.calm = true) (hi : PI X tg iter wi) (hg : PG X tg g) (hb : PSs X body tb)
    (hs : ∀ x, foldedSetIterable iter X.env x = pure x := by intro _; rfl) : PS X (.For tg iter body [] pos) (tFor wi g tb) := by
  intro pins s σ H D I h
  refine wpAny_For (thn (hi pins s σ H _ I h) fun v s1 h1 => thn h1 fun itv s2 h2 => ?_) hs
  obtain ⟨it, fp, tn, J, H2, e, I2, T, st2, f2, W, ⟨m0, w0⟩, turn⟩ := h2
  subst e
  -- what stays true of the iterator's objects through the loop
  have stat : ∀ {H' : Hp}, (∀ b ∈ fp, H' b = none) → ∀ b ∈ fp, FpOk X pins H' b := fun hn b hb => ⟨hn b hb, (f2 b hb).2⟩
  refine codeAny_forLoop_any (fun n s' => ∃ i σ' H', Inv X pins σ' H' s' ∧ tn i s'.heap ∧ (∀ b ∈ fp, H' b = none) ∧ W i n σ' H') ?_ m0 ⟨0, σ, H2, I2, st2, fun b hb => (f2 b hb).1, w0⟩
  rintro n s3 ⟨i, σ3, H3, I3, st3, fr3, w3⟩
  rcases turn i n σ3 H3 w3 with ⟨stop, qn⟩ | ⟨go, N, hN, step⟩
  · refine wpAny_passesOwn hp (thn (T.done X rfl rfl rfl hc i pins s3 σ3 H3 X.xe I3 (stat fr3) st3 stop) fun r s4 ⟨hr, I4⟩ => ?_)
    subst hr
    exact wpAny_execs_nil ⟨σ3, H3, I4, qn⟩
  · refine wpAny_passesOwn hp (thn (T.item X rfl rfl rfl hc i pins s3 σ3 H3 X.xe I3 (stat fr3) st3 go) fun r s4 ⟨u, hr, h4⟩ => ?_)
    subst hr
    refine wpAny_passesOwn hp (thn h4 fun _ s5 ⟨x, H5, I5, r5, y5, st5, fr5⟩ => ?_)
    have I5' := I5.pinned (stat fr5) (T.obj _ _ st5)
    refine wpAny_passesOwn hp (thn (hg _ s5 σ3 H5 x u _ I5' r5 (step x H5 y5)) fun _ s6 ⟨σ6, H6, I6, q6⟩ => ?_)
    refine wpAny_passesOwn hp (thn (hb _ s6 σ6 H6 _ I6 q6) fun f s7 q7 => ?_)
    have again : ∀ {σ7 : St} {H7 : Hp}, Inv X (pins ++ pinsAt fp s5.heap) σ7 H7 s7 → N σ7 H7 → ∃ m, m < n ∧ ∃ i σ' H', Inv X pins σ' H' s7 ∧ tn i s7.heap ∧ (∀ b ∈ fp, H' b = none) ∧ W i m σ' H' := fun {σ7 H7} I7 n7 => by
      obtain ⟨m', hm, w7⟩ := hN σ7 H7 n7
      refine ⟨m', hm, i + 1, σ7, H7, I7.unpinned, T.keep _ _ _ st5 fun b hb o e => (I7.pin (b, o) (List.mem_append_right _ (List.mem_append_right _ (mem_pinsAt hb e)))).1, fun b hb => ?_, w7⟩
      obtain ⟨o, e, d⟩ := T.obj _ _ st5 b hb
      exact (I7.pin (b, o) (List.mem_append_right _ (List.mem_append_right _ (mem_pinsAt hb e)))).2.1
    cases f with
    | next => obtain ⟨σ7, H7, I7, n7⟩ := q7; exact again I7 n7
    | cont => obtain ⟨σ7, H7, I7, n7⟩ := q7; exact again I7 n7
    | brk => obtain ⟨σ7, H7, I7, q7⟩ := q7; exact ⟨σ7, H7, I7.unpinned, q7⟩
    | ret v => obtain ⟨x7, σ7, H7, I7, r7, q7⟩ := q7; exact ⟨x7, σ7, H7, I7.unpinned, r7, q7⟩
end

theorem for_list {K : PySem.W.Frag} {a : Addr} {xs : List V} {g : TG} {tb : TS} {D : Ends} {σ : St} {H : Hp} (Pv : Nat → St → Hp → Prop) (h0 : Pv 0 σ H) (hl : ∀ i σ H, i ≤ xs.length → Pv i σ H → SqL K H a xs)
    (hs : ∀ i x σ H, xs[i]? = some x → Pv i σ H → g x σ H fun σ2 H2 => tb { D with nx := Pv (i + 1), ct := Pv (i + 1), bk := D.nx } σ2 H2) (hd : ∀ σ H, Pv xs.length σ H → D.nx σ H) :
    ∃ W : Nat → Nat → St → Hp → Prop, (∃ m, W 0 m σ H) ∧ ∀ i m σ H, W i m σ H →
      ((Itl K a).stop i H ∧ D.nx σ H) ∨ ((Itl K a).go i H ∧ ∃ N : St → Hp → Prop, (∀ σ' H', N σ' H' → ∃ m', m' < m ∧ W (i + 1) m' σ' H') ∧ ∀ x H', (Itl K a).yld i H x H' → g x σ H' fun σ2 H2 => tb { D with nx := N, ct := N, bk := D.nx } σ2 H2) := by
  refine ⟨fun i m σ H => m = xs.length - i ∧ i ≤ xs.length ∧ Pv i σ H, ⟨xs.length, by simp, Nat.zero_le _, h0⟩, ?_⟩
  rintro i m σ H ⟨rfl, hi, p⟩
  have q := hl i σ H hi p
  by_cases hlt : i < xs.length
  · refine .inr ⟨⟨xs, xs[i], q, by simp [hlt]⟩, Pv (i + 1), fun σ' H' p' => ⟨xs.length - (i + 1), by omega, rfl, hlt, p'⟩, fun x H' y => ?_⟩
    obtain ⟨e, y⟩ := y
    subst e
    exact hs i x σ _ (y xs q) p
  · have e : i = xs.length := by omega
    subst e
    exact .inl ⟨⟨xs, q, Nat.le_refl _⟩, hd σ H p⟩
theorem for_tup {K : PySem.W.Frag} {a : Addr} {xs : List V} {g : TG} {tb : TS} {D : Ends} {σ : St} {H : Hp} (Pv : Nat → St → Hp → Prop) (h0 : Pv 0 σ H) (hl : ∀ i σ H, i ≤ xs.length → Pv i σ H → SqT K H a xs)
    (hs : ∀ i x σ H, xs[i]? = some x → Pv i σ H → g x σ H fun σ2 H2 => tb { D with nx := Pv (i + 1), ct := Pv (i + 1), bk := D.nx } σ2 H2) (hd : ∀ σ H, Pv xs.length σ H → D.nx σ H) :
    ∃ W : Nat → Nat → St → Hp → Prop, (∃ m, W 0 m σ H) ∧ ∀ i m σ H, W i m σ H →
      ((Itt K a).stop i H ∧ D.nx σ H) ∨ ((Itt K a).go i H ∧ ∃ N : St → Hp → Prop, (∀ σ' H', N σ' H' → ∃ m', m' < m ∧ W (i + 1) m' σ' H') ∧ ∀ x H', (Itt K a).yld i H x H' → g x σ H' fun σ2 H2 => tb { D with nx := N, ct := N, bk := D.nx } σ2 H2) := by
  refine ⟨fun i m σ H => m = xs.length - i ∧ i ≤ xs.length ∧ Pv i σ H, ⟨xs.length, by simp, Nat.zero_le _, h0⟩, ?_⟩
  rintro i m σ H ⟨rfl, hi, p⟩
  have q := hl i σ H hi p
  by_cases hlt : i < xs.length
  · refine .inr ⟨⟨xs, xs[i], q, by simp [hlt]⟩, Pv (i + 1), fun σ' H' p' => ⟨xs.length - (i + 1), by omega, rfl, hlt, p'⟩, fun x H' y => ?_⟩
    obtain ⟨e, y⟩ := y
    subst e
    exact hs i x σ _ (y xs q) p
  · have e : i = xs.length := by omega
    subst e
    exact .inl ⟨⟨xs, q, Nat.le_refl _⟩, hd σ H p⟩
theorem for_range {lo : Int} {n : Nat} {g : TG} {tb : TS} {D : Ends} {σ : St} {H : Hp} (Pv : Nat → St → Hp → Prop) (h0 : Pv 0 σ H)
    (hs : ∀ i σ H, i < n → Pv i σ H → g (.int (lo + i)) σ H fun σ2 H2 => tb { D with nx := Pv (i + 1), ct := Pv (i + 1), bk := D.nx } σ2 H2) (hd : ∀ σ H, Pv n σ H → D.nx σ H) :
    ∃ W : Nat → Nat → St → Hp → Prop, (∃ m, W 0 m σ H) ∧ ∀ i m σ H, W i m σ H →
      ((Itr lo n).stop i H ∧ D.nx σ H) ∨ ((Itr lo n).go i H ∧ ∃ N : St → Hp → Prop, (∀ σ' H', N σ' H' → ∃ m', m' < m ∧ W (i + 1) m' σ' H') ∧ ∀ x H', (Itr lo n).yld i H x H' → g x σ H' fun σ2 H2 => tb { D with nx := N, ct := N, bk := D.nx } σ2 H2) := by
  refine ⟨fun i m σ H => m = n - i ∧ i ≤ n ∧ Pv i σ H, ⟨n, by simp, Nat.zero_le _, h0⟩, ?_⟩
  rintro i m σ H ⟨rfl, hi, p⟩
  by_cases hlt : i < n
  · refine .inr ⟨hlt, Pv (i + 1), fun σ' H' p' => ⟨n - (i + 1), by omega, rfl, hlt, p'⟩, fun x H' y => ?_⟩
    obtain ⟨e, y⟩ := y
    subst e y
    exact hs i σ _ hlt p
  · have e : i = n := by omega
    subst e
    exact .inl ⟨Nat.le_refl _, hd σ H p⟩
end L2

namespace L2
open PySem PySem.Spec PyProof.Rows

noncomputable abbrev R2 := V → V → Hp → VK → Prop
noncomputable def OpR (X : Cx) (f : Value → Value → Sem Value) (r : R2) : Prop :=
  ∀ (pins : List (Addr × Obj)) (s : Shared) (σ : St) (H : Hp) (x y : V) (v u : Value) (Q : VK), Inv X pins σ H s → RelV x v → RelV y u → r x y H Q →
    wpAny (model X.prog X.w) X.A (f v u) (EP X pins σ Q) X.xe s
noncomputable def UnR (X : Cx) (f : Value → Sem Value) (r : V → Hp → VK → Prop) : Prop :=
  ∀ (pins : List (Addr × Obj)) (s : Shared) (σ : St) (H : Hp) (x : V) (v : Value) (Q : VK), Inv X pins σ H s → RelV x v → r x H Q →
    wpAny (model X.prog X.w) X.A (f v) (EP X pins σ Q) X.xe s
noncomputable def CallR (X : Cx) (f : Value) (r : List V → Hp → VK → Prop) : Prop :=
  ∀ (pins : List (Addr × Obj)) (s : Shared) (σ : St) (H : Hp) (xs : List V) (us : List Value) (Q : VK), Inv X pins σ H s → Vals xs us → r xs H Q →
    wpAny (model X.prog X.w) X.A (call f us) (EP X pins σ Q) X.xe s
noncomputable def tOp (r : R2) (ta tb : TE) : TE := fun σ H Q => ta σ H fun x H1 => tb σ H1 fun y H2 => r x y H2 Q
noncomputable def tUn (r : V → Hp → VK → Prop) (ta : TE) : TE := fun σ H Q => ta σ H fun x H1 => r x H1 Q
noncomputable def rI (C : Int → Int → Prop) (g : Int → Int → V) : R2 := fun x y H Q => ∃ i j, x = .int i ∧ y = .int j ∧ C i j ∧ Q (g i j) H
noncomputable def rI0 (g : Int → Int → V) : R2 := fun x y H Q => ∃ i j, x = .int i ∧ y = .int j ∧ Q (g i j) H
noncomputable def rU (g : Int → V) : V → Hp → VK → Prop := fun x H Q => ∃ i, x = .int i ∧ Q (g i) H

section
variable {X : Cx} {a b c : Expr} {ta tb tc : TE} {pos : Pos}

theorem binT (ha : PE X a ta) (hb : PE X b tb) {pins : List (Addr × Obj)} {s : Shared} {σ : St} {H : Hp} {R : V → V → Hp → Prop} (I : Inv X pins σ H s)
    (h : ta σ H fun x H1 => tb σ H1 fun y H2 => R x y H2) {Q : Value → Shared → Prop} {f : Value → Value → Sem Value}
    (hf : ∀ v u s2 x y H2, Inv X pins σ H2 s2 → RelV x v → RelV y u → R x y H2 → wpAny (model X.prog X.w) X.A (f v u) Q X.xe s2) :
    wpAny (model X.prog X.w) X.A (eval a X.env) (fun v s₁ => wpAny (model X.prog X.w) X.A (eval b X.env) (fun u s₂ => wpAny (model X.prog X.w) X.A (f v u) Q X.xe s₂) X.xe s₁) X.xe s := by
  refine thn (ha pins s σ H _ I h) fun v s1 ⟨x, H1, I1, r1, q1⟩ => ?_
  refine thn (hb pins s1 σ H1 _ I1 q1) fun u s2 ⟨y, H2, I2, r2, q2⟩ => ?_
  exact hf v u s2 x y H2 I2 r1 r2 q2

theorem pe_op {op : Operator} {r : R2} (ho : OpR X (binaryOp op) r) (ha : PE X a ta) (hb : PE X b tb) : PE X (.BinOp a op b pos) (tOp r ta tb) := by
  intro pins s σ H Q I h
  exact wpAny_BinOp (binT ha hb I h fun v u s2 x y H2 I2 rx ry q => ho pins s2 σ H2 x y v u Q I2 rx ry q)
theorem pe_un {op : UnaryOp} {r : V → Hp → VK → Prop} (ho : UnR X (unaryOp op) r) (ha : PE X a ta) : PE X (.UnaryOp op a pos) (tUn r ta) := by
  intro pins s σ H Q I h
  exact UnaryOp_ (thn (ha pins s σ H _ I h) fun v s1 ⟨x, H1, I1, r1, q1⟩ => ho pins s1 σ H1 x v Q I1 r1 q1)
theorem opI {f : Value → Value → Sem Value} {C : Int → Int → Prop} {g : Int → Int → Int}
    (rule : ∀ (i j : Int) (t u : Tok) (s : Shared) (Q : Value → Shared → Prop) (E : Value → Shared → Prop), C i j → Q (.int (g i j) s.toks) { s with toks := s.toks + 1 } → wpAny (model X.prog X.w) X.A (f (.int i t) (.int j u)) Q E s) :
    OpR X f (rI C fun i j => .int (g i j)) := by
  intro pins s σ H x y v u Q I rx ry h
  obtain ⟨i, j, rfl, rfl, hc, q⟩ := h
  obtain ⟨t, rfl⟩ := rx
  obtain ⟨t', rfl⟩ := ry
  exact rule i j t t' s _ _ hc ⟨.int (g i j), H, I.tok _, ⟨_, rfl⟩, q⟩
theorem opI0 {f : Value → Value → Sem Value} {g : Int → Int → Int}
    (rule : ∀ (i j : Int) (t u : Tok) (s : Shared) (Q : Value → Shared → Prop) (E : Value → Shared → Prop), Q (.int (g i j) s.toks) { s with toks := s.toks + 1 } → wpAny (model X.prog X.w) X.A (f (.int i t) (.int j u)) Q E s) :
    OpR X f (rI0 fun i j => .int (g i j)) := by
  intro pins s σ H x y v u Q I rx ry h
  obtain ⟨i, j, rfl, rfl, q⟩ := h
  obtain ⟨t, rfl⟩ := rx
  obtain ⟨t', rfl⟩ := ry
  exact rule i j t t' s _ _ ⟨.int (g i j), H, I.tok _, ⟨_, rfl⟩, q⟩
theorem opB0 {f : Value → Value → Sem Value} {g : Int → Int → Bool}
    (rule : ∀ (i j : Int) (t u : Tok) (s : Shared) (Q : Value → Shared → Prop) (E : Value → Shared → Prop), Q (.bool (g i j)) s → wpAny (model X.prog X.w) X.A (f (.int i t) (.int j u)) Q E s) :
    OpR X f (rI0 fun i j => .bl (g i j)) := by
  intro pins s σ H x y v u Q I rx ry h
  obtain ⟨i, j, rfl, rfl, q⟩ := h
  obtain ⟨t, rfl⟩ := rx
  obtain ⟨t', rfl⟩ := ry
  exact rule i j t t' s _ _ ⟨.bl (g i j), H, I, rfl, q⟩

noncomputable def CDiv (i j : Int) : Prop := 0 < j ∧ j < 1073741824
noncomputable def CPow (i j : Int) : Prop := 0 ≤ j ∧ j ≤ 1000000 ∧ i.natAbs < 2 ^ 64
noncomputable def CMul (i j : Int) : Prop := (-(2 ^ 64) < i ∧ i < 2 ^ 64) ∨ (-(2 ^ 64) < j ∧ j < 2 ^ 64)
theorem CMul.ok {i j : Int} (h : CMul i j) : IntMulOk i j := by
  rcases h with ⟨h1, h2⟩ | ⟨h1, h2⟩
  · exact .of_left (intBits_le_64 h1 h2)
  · exact .of_right (intBits_le_64 h1 h2)
theorem op_add : OpR X (binaryOp .Add) (rI0 fun i j => .int (i + j)) := opI0 fun _ _ _ _ _ _ _ q => add_int q
theorem op_sub : OpR X (binaryOp .Sub) (rI0 fun i j => .int (i - j)) := opI0 fun _ _ _ _ _ _ _ q => sub_int q
theorem op_mul : OpR X (binaryOp .Mult) (rI CMul fun i j => .int (i * j)) := opI fun _ _ _ _ _ _ _ hc q => mul_int q hc.ok
theorem op_fdiv : OpR X (binaryOp .FloorDiv) (rI CDiv fun i j => .int (i / j)) := opI fun i j _ _ _ _ _ hc q => by
  have h1 : (0 : Int) < j := hc.1
  have h2 : j < 1073741824 := hc.2
  exact floordiv_int (by omega) (by rw [Int.fdiv_eq_ediv_of_nonneg i (by omega)]; exact q) (.inl (PyProof.noPylong_small (by omega)))
theorem op_mod : OpR X (binaryOp .Mod) (rI (fun _ j => 0 < j) fun i j => .int (i % j)) := opI fun i j _ _ _ _ _ hc q => by
  have h1 : (0 : Int) < j := hc
  exact mod_int' (by omega) (by rw [Int.fmod_eq_emod_of_nonneg i (by omega)]; exact q)
theorem op_pow : OpR X (binaryOp .Pow) (rI CPow fun i j => .int (i ^ j.toNat)) := opI fun _ _ _ _ _ _ _ hc q => pow_int_small hc.1 hc.2.1 hc.2.2 q
theorem op_and : OpR X (binaryOp .BitAnd) (rI0 fun i j => .int (Builtin.bitAnd i j)) := opI0 fun _ _ _ _ _ _ _ q => and_int q
theorem op_or : OpR X (binaryOp .BitOr) (rI0 fun i j => .int (Builtin.bitOr i j)) := opI0 fun _ _ _ _ _ _ _ q => or_int q
theorem op_xor : OpR X (binaryOp .BitXor) (rI0 fun i j => .int (Builtin.bitXor i j)) := opI0 fun _ _ _ _ _ _ _ q => xor_int q

theorem unI {f : Value → Sem Value} {g : Int → Int}
    (rule : ∀ (i : Int) (t : Tok) (s : Shared) (Q : Value → Shared → Prop) (E : Value → Shared → Prop), Q (.int (g i) s.toks) { s with toks := s.toks + 1 } → wpAny (model X.prog X.w) X.A (f (.int i t)) Q E s) :
    UnR X f (rU fun i => .int (g i)) := by
  intro pins s σ H x v Q I rx h
  obtain ⟨i, rfl, q⟩ := h
  obtain ⟨t, rfl⟩ := rx
  exact rule i t s _ _ ⟨.int (g i), H, I.tok _, ⟨_, rfl⟩, q⟩
theorem un_neg : UnR X (unaryOp .USub) (rU fun i => .int (-i)) := unI fun _ _ _ _ _ q => neg_int q
end

noncomputable def scal : V → V → Bool
  | .non, .non => true | .non, .int _ => true | .int _, .non => true | .non, .bl _ => true | .bl _, .non => true | .non, .str _ => true | .str _, .non => true
  | .int _, .int _ => true | .bl _, .bl _ => true | .str _, .str _ => true | .byt _, .byt _ => true
  | .int _, .str _ => true | .str _, .int _ => true | .bl _, .str _ => true | .str _, .bl _ => true
  | _, _ => false
noncomputable def rEq : R2 := fun x y H Q => scal x y = true ∧ Q (.bl (decide (x = y))) H
noncomputable def rNe : R2 := fun x y H Q => scal x y = true ∧ Q (.bl (!decide (x = y))) H

theorem dec_int {i j : Int} : decide (V.int i = V.int j) = (i == j) := by
  rw [Bool.eq_iff_iff]
  simp
theorem dec_bl {i j : Bool} : decide (V.bl i = V.bl j) = (i == j) := by
  rw [Bool.eq_iff_iff]
  simp
theorem dec_str {i j : Str} : decide (V.str i = V.str j) = (i == j) := by
  rw [Bool.eq_iff_iff]
  simp
theorem dec_byt {i j : Array UInt8} : decide (V.byt i = V.byt j) = (i.toList == j.toList) := by
  rw [Bool.eq_iff_iff]
  cases i
  cases j
  simp

section
variable {X : Cx} {a b c : Expr} {ta tb tc : TE} {pos : Pos}
theorem fin_bl {pins : List (Addr × Obj)} {σ : St} {H : Hp} {s : Shared} {Q : VK} {k k' : Bool} (I : Inv X pins σ H s) (q : Q (.bl k) H) (e : k = k') : EP X pins σ Q (.bool k') s := by
  subst e
  exact ⟨.bl k, H, I, rfl, q⟩
theorem op_eq : OpR X (compareOp .Eq) rEq := by
  intro pins s σ H x y v u Q I rx ry h
  obtain ⟨hs, q⟩ := h
  cases x with
  | non =>
    cases rx
    cases y with
    | non => cases ry; exact PySem.EqNone.eq_none_none (fin_bl I q (by simp))
    | bl j => cases ry; exact PySem.EqNone.eq_none_bool (fin_bl I q (by simp))
    | int j => obtain ⟨t', rfl⟩ := ry; exact PySem.EqNone.eq_none_int (fin_bl I q (by simp))
    | str j => obtain ⟨t', rfl⟩ := ry; exact PySem.EqNone.eq_none_str (fin_bl I q (by simp))
    | _ => exact absurd (show false = true from hs) Bool.false_ne_true
  | bl i =>
    cases rx
    cases y with
    | non => cases ry; exact PySem.EqNone.eq_bool_none (fin_bl I q (by simp))
    | bl j => cases ry; exact eq_bool (fin_bl I q dec_bl)
    | str j => obtain ⟨t', rfl⟩ := ry; exact PySem.EqMixed.eq_bool_str (fin_bl I q (by simp))
    | _ => exact absurd (show false = true from hs) Bool.false_ne_true
  | int i =>
    obtain ⟨t, rfl⟩ := rx
    cases y with
    | non => cases ry; exact PySem.EqNone.eq_int_none (fin_bl I q (by simp))
    | int j => obtain ⟨t', rfl⟩ := ry; exact eq_int (fin_bl I q dec_int)
    | str j => obtain ⟨t', rfl⟩ := ry; exact PySem.EqMixed.eq_int_str (fin_bl I q (by simp))
    | _ => exact absurd (show false = true from hs) Bool.false_ne_true
  | str i =>
    obtain ⟨t, rfl⟩ := rx
    cases y with
    | non => cases ry; exact PySem.EqNone.eq_str_none (fin_bl I q (by simp))
    | bl j => cases ry; exact PySem.EqMixed.eq_str_bool (fin_bl I q (by simp))
    | int j => obtain ⟨t', rfl⟩ := ry; exact PySem.EqMixed.eq_str_int (fin_bl I q (by simp))
    | str j => obtain ⟨t', rfl⟩ := ry; exact eq_str (fin_bl I q dec_str)
    | _ => exact absurd (show false = true from hs) Bool.false_ne_true
  | byt i =>
    obtain ⟨t, rfl⟩ := rx
    cases y with
    | byt j => obtain ⟨t', rfl⟩ := ry; exact PySem.W.eq_bytes (fin_bl I q dec_byt)
    | _ => exact absurd (show false = true from hs) Bool.false_ne_true
  | _ => cases y <;> exact absurd (show false = true from hs) Bool.false_ne_true
theorem op_ne : OpR X (compareOp .NotEq) rNe := by
  intro pins s σ H x y v u Q I rx ry h
  obtain ⟨hs, q⟩ := h
  cases x with
  | non =>
    cases rx
    cases y with
    | non => cases ry; exact PySem.EqNone.ne_none_none (fin_bl I q (by simp))
    | bl j => cases ry; exact PySem.EqNone.ne_none_bool (fin_bl I q (by simp))
    | int j => obtain ⟨t', rfl⟩ := ry; exact PySem.EqNone.ne_none_int (fin_bl I q (by simp))
    | str j => obtain ⟨t', rfl⟩ := ry; exact PySem.EqNone.ne_none_str (fin_bl I q (by simp))
    | _ => exact absurd (show false = true from hs) Bool.false_ne_true
  | bl i =>
    cases rx
    cases y with
    | non => cases ry; exact PySem.EqNone.ne_bool_none (fin_bl I q (by simp))
    | bl j => cases ry; exact ne_bool (fin_bl I q (congrArg not dec_bl))
    | str j => obtain ⟨t', rfl⟩ := ry; exact PySem.EqMixed.ne_bool_str (fin_bl I q (by simp))
    | _ => exact absurd (show false = true from hs) Bool.false_ne_true
  | int i =>
    obtain ⟨t, rfl⟩ := rx
    cases y with
    | non => cases ry; exact PySem.EqNone.ne_int_none (fin_bl I q (by simp))
    | int j => obtain ⟨t', rfl⟩ := ry; exact ne_int (fin_bl I q (congrArg not dec_int))
    | str j => obtain ⟨t', rfl⟩ := ry; exact PySem.EqMixed.ne_int_str (fin_bl I q (by simp))
    | _ => exact absurd (show false = true from hs) Bool.false_ne_true
  | str i =>
    obtain ⟨t, rfl⟩ := rx
    cases y with
    | non => cases ry; exact PySem.EqNone.ne_str_none (fin_bl I q (by simp))
    | bl j => cases ry; exact PySem.EqMixed.ne_str_bool (fin_bl I q (by simp))
    | int j => obtain ⟨t', rfl⟩ := ry; exact PySem.EqMixed.ne_str_int (fin_bl I q (by simp))
    | str j => obtain ⟨t', rfl⟩ := ry; exact ne_str (fin_bl I q (congrArg not dec_str))
    | _ => exact absurd (show false = true from hs) Bool.false_ne_true
  | byt i =>
    obtain ⟨t, rfl⟩ := rx
    cases y with
    | byt j => obtain ⟨t', rfl⟩ := ry; exact PySem.W.ne_bytes (fin_bl I q (congrArg not dec_byt))
    | _ => exact absurd (show false = true from hs) Bool.false_ne_true
  | _ => cases y <;> exact absurd (show false = true from hs) Bool.false_ne_true

theorem op_lt : OpR X (compareOp .Lt) (rI0 fun i j => .bl (decide (i < j))) := opB0 fun _ _ _ _ _ _ _ q => lt_int q
theorem op_le : OpR X (compareOp .LtE) (rI0 fun i j => .bl (decide (i ≤ j))) := opB0 fun _ _ _ _ _ _ _ q => le_int q
theorem op_gt : OpR X (compareOp .Gt) (rI0 fun i j => .bl (decide (j < i))) := opB0 fun _ _ _ _ _ _ _ q => gt_int q
theorem op_ge : OpR X (compareOp .GtE) (rI0 fun i j => .bl (decide (j ≤ i))) := opB0 fun _ _ _ _ _ _ _ q => ge_int q
theorem op_in_str : OpR X (compareOp .In) (fun x y H Q => ∃ i j, x = .str i ∧ y = .str j ∧ Q (.bl (!(Builtin.Str.occurrences j i 0 j.length 1).isEmpty)) H) := by
  intro pins s σ H x y v u Q I rx ry h
  obtain ⟨i, j, rfl, rfl, q⟩ := h
  obtain ⟨t, rfl⟩ := rx
  obtain ⟨t', rfl⟩ := ry
  exact in_str (fin_bl I q rfl)

theorem op_notin_str : OpR X (compareOp .NotIn) (fun x y H Q => ∃ i j, x = .str i ∧ y = .str j ∧ Q (.bl (!(!(Builtin.Str.occurrences j i 0 j.length 1).isEmpty))) H) := by
  intro pins s σ H x y v u Q I rx ry h
  obtain ⟨i, j, rfl, rfl, q⟩ := h
  obtain ⟨t, rfl⟩ := rx
  obtain ⟨t', rfl⟩ := ry
  exact notIn_str (fin_bl I q rfl)
theorem OpR.or {f : Value → Value → Sem Value} {r r' : R2} (h : OpR X f r) (h' : OpR X f r') : OpR X f (fun x y H Q => r x y H Q ∨ r' x y H Q) := by
  intro pins s σ H x y v u Q I rx ry q
  rcases q with q | q
  · exact h pins s σ H x y v u Q I rx ry q
  · exact h' pins s σ H x y v u Q I rx ry q

theorem nomark (b : Expr) {op : CmpOp} (h : op ≠ .In := by decide) (h2 : op ≠ .NotIn := by decide) : behindInMarks op b = false := by
  have e1 : (op == CmpOp.In) = false := by cases op <;> first | rfl | exact absurd rfl h
  have e2 : (op == CmpOp.NotIn) = false := by cases op <;> first | rfl | exact absurd rfl h2
  cases b <;> simp [behindInMarks, e1, e2]
theorem pe_cmpR {op : CmpOp} {r : R2} (ho : OpR X (compareOp op) r) (ha : PE X a ta) (hb : PE X b tb) (hm : behindInMarks op b = false) : PE X (.Compare a [op] [b] pos) (tOp r ta tb) := by
  intro pins s σ H Q I h
  exact wpAny_Compare1 (binT ha hb I h fun v u s2 x y H2 I2 rx ry q => ho pins s2 σ H2 x y v u Q I2 rx ry q) hm
noncomputable def tTest (t : TE) : TT := fun σ H Q => t σ H fun x H' => ∃ k, x = .bl k ∧ Q k H'
theorem pt_cmpR {op : CmpOp} {r : R2} (ho : OpR X (compareOp op) r) (ha : PE X a ta) (hb : PE X b tb) (hm : behindInMarks op b = false) : PT X (.Compare a [op] [b] pos) (tTest (tOp r ta tb)) := by
  intro pins s σ H Q I h
  refine wpAny_isTrue_Compare1 (thn (ha pins s σ H _ I h) fun v s1 ⟨x, H1, I1, r1, q1⟩ => thn (hb pins s1 σ H1 _ I1 q1) fun u s2 ⟨y, H2, I2, r2, q2⟩ =>
    thn (ho pins s2 σ H2 x y v u _ I2 r1 r2 q2) fun c s3 ⟨z, H3, I3, r3, k, e, q3⟩ => ?_) hm
  subst e
  cases r3
  exact wpAny_truthy_bool ⟨H3, I3, q3⟩
noncomputable def tChain (r r' : R2) (ta tb tc : TE) : TE := fun σ H Q => ta σ H fun x H1 => tb σ H1 fun y H2 => r x y H2 fun z H3 => ∃ k, z = .bl k ∧
  (if k = true then tc σ H3 fun w' H4 => r' y w' H4 Q else Q (.bl false) H3)
theorem pe_chain {op op' : CmpOp} {r r' : R2} (ho : OpR X (compareOp op) r) (ho' : OpR X (compareOp op') r') (ha : PE X a ta) (hb : PE X b tb) (hc : PE X c tc)
    (hm : lastMarks [op, op'] [b, c] = false := by with_unfolding_all rfl) : PE X (.Compare a [op, op'] [b, c] pos) (tChain r r' ta tb tc) := by
  intro pins s σ H Q I h
  refine Compare_chain (thn (ha pins s σ H _ I h) fun v s1 ⟨x, H1, I1, r1, q1⟩ => chain_link (thn (hb pins s1 σ H1 _ I1 q1) fun u s2 ⟨y, H2, I2, r2, q2⟩ =>
    thn (ho pins s2 σ H2 x y v u _ I2 r1 r2 q2) fun d s3 ⟨z, H3, I3, r3, k, e, q3⟩ => ?_)) hm
  subst e
  cases r3
  refine wpAny_truthy_bool ?_
  cases k with
  | false => exact ite_ff ⟨.bl false, H3, I3, rfl, q3⟩
  | true => exact ite_tt (chain_last (thn (hc pins s3 σ H3 _ I3 q3) fun w' s4 ⟨z', H4, I4, r4, q4⟩ => ho' pins s4 σ H4 y z' u w' Q I4 r2 r4 q4))
theorem line63 : (sizeLine : Nat) < 2 ^ 63 := by rw [sizeLine_eq]; decide
theorem op_add_str : OpR X (binaryOp .Add) (fun x y H Q => ∃ i j, x = .str i ∧ y = .str j ∧ i.length + j.length ≤ sizeLine ∧ Q (.str (i ++ j)) H) := by
  intro pins s σ H x y v u Q I rx ry h
  obtain ⟨i, j, rfl, rfl, hz, q⟩ := h
  obtain ⟨t, rfl⟩ := rx
  obtain ⟨t', rfl⟩ := ry
  exact add_str (fun t' tk => ⟨.str (i ++ j), H, I.tok _, ⟨_, rfl⟩, q⟩) hz
theorem vals1 {x : V} {us : List Value} (r : Vals [x] us) : ∃ u, us = [u] ∧ RelV x u := by
  cases r with
  | cons r1 r2 => cases r2; exact ⟨_, rfl, r1⟩
theorem vals2 {x y : V} {us : List Value} (r : Vals [x, y] us) : ∃ u w', us = [u, w'] ∧ RelV x u ∧ RelV y w' := by
  cases r with
  | cons r1 r2 =>
    cases r2 with
    | cons r3 r4 => cases r4; exact ⟨_, _, rfl, r1, r3⟩
theorem call_min2 (hc : X.calm = true) : CallR X (.builtin "min") (fun xs H Q => ∃ i j, xs = [.int i, .int j] ∧ Q (.int (if j < i then j else i)) H) := by
  intro pins s σ H xs us Q I r h
  obtain ⟨i, j, rfl, q⟩ := h
  obtain ⟨u, w', rfl, ⟨t, rfl⟩, ⟨t', rfl⟩⟩ := vals2 r
  refine min_two_ints (I.ok.hd hc) fun h' tk k => ⟨_, H, I.kept k, ?_, q⟩
  by_cases hj : j < i
  · rw [if_pos hj, if_pos hj]; exact ⟨_, rfl⟩
  · rw [if_neg hj, if_neg hj]; exact ⟨_, rfl⟩
theorem call_int1 : CallR X (.type "int") (fun xs H Q => (∃ i, xs = [.int i] ∧ Q (.int i) H) ∨ ∃ k, xs = [.bl k] ∧ Q (.int (if k then 1 else 0)) H) := by
  intro pins s σ H xs us Q I r h
  rcases h with ⟨i, rfl, q⟩ | ⟨k, rfl, q⟩
  · obtain ⟨u, rfl, t, rfl⟩ := vals1 r
    exact call_int_int ⟨.int i, H, I, ⟨_, rfl⟩, q⟩
  · obtain ⟨u, rfl, r1⟩ := vals1 r
    cases r1
    exact call_int_bool ⟨.int (if k then 1 else 0), H, I.tok _, ⟨_, rfl⟩, q⟩
theorem call_str_int : CallR X (.type "str") (fun xs H Q => ∃ i, xs = [.int i] ∧ i.natAbs.log2 < 1920 ∧ Q (.str (toString i)) H) := by
  intro pins s σ H xs us Q I r h
  obtain ⟨i, rfl, hz, q⟩ := h
  obtain ⟨u, rfl, t, rfl⟩ := vals1 r
  exact PySem.P.str_of_int hz ⟨.str _, H, I.tok _, ⟨_, rfl⟩, q⟩
end
end L2

namespace L2
open PySem PySem.Spec PyProof.Rows

structure ObjM (h : Heap) (x dx C : Addr) (mA : Str → Option Value) : Prop where
  obj : h.get? x = some (PySem.W.instObj C dx)
  ns : h.Ns1 dx mA
  ne : dx ≠ x

theorem lookIn_ns {h : Heap} {dx : Addr} {mA : Str → Option Value} (n : h.Ns1 dx mA) : ∃ od, h.get? dx = some od ∧ ∀ name, PySem.W.lookIn name od = some (mA name) := by
  obtain ⟨o, es, ep, ho, hd, hk, _, hm⟩ := n
  refine ⟨o, ho, fun name => ?_⟩
  have e := hm name
  unfold nsFind findBy at e
  rw [← Array.find?_toList] at e
  unfold PySem.W.lookIn
  rw [hd]
  dsimp only
  split
  · rename_i y q
    rw [q] at e
    exact congrArg some e
  · rename_i q
    rw [q] at e
    have a : es.toList.any (·.refKey) = false := by
      rw [List.any_eq_false]
      intro y hy
      obtain ⟨z, t, hkey⟩ := hk y (Array.mem_toList_iff.mp hy)
      simp [DictEntry.refKey, hkey]
    have a' : ¬ es.toList.any (·.refKey) = true := by rw [a]; exact Bool.false_ne_true
    rw [if_neg a']
    exact congrArg some e

theorem ObjM.look {h : Heap} {x dx C : Addr} {mA : Str → Option Value} (I : ObjM h x dx C mA) : ∃ od, PySem.W.InstAt h x (PySem.W.instObj C dx) C (some od) ∧ ∀ name, PySem.W.lookIn name od = some (mA name) :=
  let ⟨od, ho, hl⟩ := lookIn_ns I.ns
  ⟨od, ⟨I.obj, rfl, rfl, ho⟩, hl⟩

section
variable {prog : Program} {w : World} {A : Around} {E : Value → Shared → Prop} {s : Shared} {K : PySem.W.Frag} {x dx C f : Addr} {mA : Str → Option Value} {name : Str} {v : Value}

theorem get_map {expr : Bool} {Q : Value → Shared → Prop} (X : K.In s.heap) (I : ObjM s.heap x dx C mA) (hg : PySem.W.plainGet K C name = true) (hh : PySem.W.hasDictIn K C = true)
    (ha : PySem.W.findIn K (.ref C) name = some none) (hv : mA name = some v) (hv' : PySem.W.handedIn v = true) (h : Q v { s with toks := s.toks + 1 }) :
    wpAny (model prog w) A (getAttr (.ref x) name expr) Q E s := by
  obtain ⟨od, J, hl⟩ := I.look
  exact PySem.W.get_value X J (PySem.W.plainGet_of hg).1 (PySem.W.findObj_own hh ha rfl (by rw [hl, hv])) hv' h

theorem get_meth {pl : Sem Bool} {Q : Value × List Value → Shared → Prop} (X : K.In s.heap) (I : ObjM s.heap x dx C mA) (hg : PySem.W.plainGet K C name = true)
    (hf : PySem.W.findIn K (.ref C) name = some (some (.ref f))) (ht : PySem.W.isFn K (.ref f) = true) (hv : mA name = none) (h : Q (.ref f, [.ref x]) s) :
    wpAny (model prog w) A (getMethod (.ref x) name pl) Q E s := by
  obtain ⟨od, J, hl⟩ := I.look
  exact PySem.W.method_fn X J (PySem.W.plainGet_of hg).1 (PySem.W.plainGet_of hg).2 hf (beq_iff_eq.mp ht) (by show (PySem.W.lookIn name od).map (·.isSome) = some false; rw [hl, hv]; rfl) h

theorem set_map {ns : List Str} {Q : Unit → Shared → Prop} (X : K.In s.heap) (I : ObjM s.heap x dx C mA)
    (hs : PySem.W.findIn K (.ref C) "__setattr__" = some (some (.builtin "object.__setattr__"))) (hp : PySem.W.plainOver K C = true) (ht : PySem.W.takerIn K C name = some none) (hh : PySem.W.hasDictIn K C = true)
    (hw : PySem.Within mA ns) (hsz : ns.length ≤ sizeLine)
    (h : ∀ h', ObjM h' x dx C (fun y => if y = name then some v else mA y) → Heap.SameBut dx s.heap h' → Q () { s with heap := h', toks := s.toks + 2 }) :
    wpAny (model prog w) A (setAttr (.ref x) name v) Q E s := by
  obtain ⟨od, J, hl⟩ := I.look
  refine PySem.W.set_plain X J hs (PySem.W.osa_open (s := { s with toks := s.toks + 1 }) (r := none) X J hp ht fun b => ?_)
  obtain ⟨cd, hc, hd'⟩ := PySem.W.any_some hh
  have hx : s.heap.get? x = some ⟨.ref C, some dx, .plain, #[]⟩ := I.obj
  refine wpAny_bind (wpAny_pure (wpAny_bind (wpAny_bind (wpAny_loadPart hx (wpAny_bind (PySem.W.Looks.here (s := { s with toks := s.toks + 1 }) (PySem.W.looks_clsIn X hc) ?_))))))
  rw [hd']
  refine wpAny_pure (a := some dx) (wpAny_bind (wpAny_pure (wpAny_bind ?_)))
  refine wpAny_nsSet1 (s := { s with toks := s.toks + 1 }) I.ns fun h' hn2 hs2 => ?_
  obtain ⟨oD, esD, epD, hoD, hdD, hcD⟩ := hn2.count (PySem.Within.cons name v hw)
  refine wpAny_bind (wpAny_lookBehind hoD (by rw [hdD]; exact pastItsLine_dict (Nat.le_trans hcD (by rw [List.length_cons]; omega))) ?_)
  exact wpAny_pure (h _ ⟨(hs2.2 _ (Ne.symm I.ne)).trans I.obj, hn2, I.ne⟩ hs2)

theorem make_map {R : Result → Shared → Prop} {vs : List Value} {kw : List (Str × Value)} (X : K.In s.heap) (hm : PySem.W.makesIn K C = true)
    (hi : PySem.W.findIn K (.ref C) "__init__" = some (some (.ref f))) (hf : PySem.W.typeIn K (.ref f) = some (.type "function"))
    (h : codeAny (model prog w) (A.under (.builtin "type.__call__" ⟨.ref C :: vs, kw⟩)) (.call (.ref f) ⟨.ref (s.heap.objs.size + 1) :: vs, kw⟩) (PySem.W.InitBack (s.heap.objs.size + 1) R)
      { s with heap := (s.heap.push PySem.W.emptyDict).push (PySem.W.instObj C s.heap.objs.size) }) :
    codeAny (model prog w) A (.call (.ref C) ⟨vs, kw⟩) R s := by
  obtain ⟨hh, g, d, t, os⟩ := s
  exact PySem.W.make_core (PySem.W.makes_of X hm) (PySem.W.looks_findIn X hi) (fun self => PySem.W.bind_fn X self hf) (.inl rfl) h
end

noncomputable def putF (f : Str) (v : V) : List (Str × V) → List (Str × V)
  | [] => [(f, v)]
  | (g, x) :: r => if g = f then (g, v) :: r else (g, x) :: putF f v r
theorem lookup_putF (f g : Str) (v : V) : ∀ fs : List (Str × V), (putF f v fs).lookup g = if g = f then some v else fs.lookup g
  | [] => by
    show List.lookup g [(f, v)] = _
    by_cases h : g = f
    · have hb : (g == f) = true := beq_iff_eq.mpr h
      simp only [List.lookup, hb, if_pos h]
    · have hb : (g == f) = false := beq_eq_false_iff_ne.mpr h
      simp only [List.lookup, hb, if_neg h]
  | (k, x) :: r => by
    have ih := lookup_putF f g v r
    rw [show putF f v ((k, x) :: r) = (if k = f then (k, v) :: r else (k, x) :: putF f v r) from rfl]
    by_cases hk : k = f
    · rw [if_pos hk]
      by_cases h : g = k
      · have hb : (g == k) = true := beq_iff_eq.mpr h
        simp only [List.lookup, hb, if_pos (h.trans hk)]
      · have hb : (g == k) = false := beq_eq_false_iff_ne.mpr h
        simp only [List.lookup, hb, if_neg (fun e : g = f => h (e.trans hk.symm))]
    · rw [if_neg hk]
      by_cases h : g = k
      · have hb : (g == k) = true := beq_iff_eq.mpr h
        simp only [List.lookup, hb, if_neg (fun e : g = f => hk (h.symm.trans e))]
      · have hb : (g == k) = false := beq_eq_false_iff_ne.mpr h
        simp only [List.lookup, hb]
        exact ih
theorem keys_putF (f : Str) (v : V) : ∀ fs : List (Str × V), f ∈ (putF f v fs).map (·.1) ∧ ∀ g, g ∈ fs.map (·.1) → g ∈ (putF f v fs).map (·.1)
  | [] => ⟨by simp [putF], fun g h => by simp at h⟩
  | (k, x) :: r => by
    obtain ⟨i1, i2⟩ := keys_putF f v r
    rw [show putF f v ((k, x) :: r) = (if k = f then (k, v) :: r else (k, x) :: putF f v r) from rfl]
    by_cases hk : k = f
    · rw [if_pos hk]
      subst hk
      exact ⟨by simp, fun g h => by simpa using h⟩
    · rw [if_neg hk]
      refine ⟨?_, fun g h => ?_⟩
      · rw [List.map_cons]
        exact List.mem_cons_of_mem _ i1
      · rw [List.map_cons] at h ⊢
        rcases List.mem_cons.mp h with e | e
        · exact List.mem_cons.mpr (.inl e)
        · exact List.mem_cons_of_mem _ (i2 g e)
theorem length_putF (f : Str) (v : V) : ∀ fs : List (Str × V), (putF f v fs).length ≤ fs.length + 1
  | [] => by simp [putF]
  | (k, x) :: r => by
    have ih := length_putF f v r
    rw [show putF f v ((k, x) :: r) = (if k = f then (k, v) :: r else (k, x) :: putF f v r) from rfl]
    by_cases hk : k = f
    · rw [if_pos hk, List.length_cons, List.length_cons]; omega
    · rw [if_neg hk, List.length_cons, List.length_cons]; omega

theorem RelO.some_of {v : V} {o : Option Value} (r : RelO (some v) o) : ∃ u, o = some u ∧ RelV v u := by
  cases o with
  | none => exact (show False from r).elim
  | some u => exact ⟨u, rfl, r⟩
theorem RelO.none_of {o : Option Value} (r : RelO none o) : o = none := by
  cases o with
  | none => rfl
  | some u => exact (show False from r).elim
theorem handed_of {v : V} {u : Value} (r : RelV v u) : PySem.W.handedIn u = true := by
  cases v with
  | non => cases (show u = Value.none from r); rfl
  | bl b => cases (show u = Value.bool b from r); rfl
  | int i => obtain ⟨t, e⟩ := (show ∃ t, u = Value.int i t from r); cases e; rfl
  | str x => obtain ⟨t, e⟩ := (show ∃ t, u = Value.str x t from r); cases e; rfl
  | byt b => obtain ⟨t, e⟩ := (show ∃ t, u = Value.bytes b t from r); cases e; rfl
  | flt b => obtain ⟨t, e⟩ := (show ∃ t, u = Value.float b t from r); cases e; rfl
  | ref a => cases (show u = Value.ref a from r); rfl
  | ty n => cases (show u = Value.type n from r); rfl

section
variable {P : Program} {w : World} {H H' : Hp} {h h' : Heap} {a C dx : Addr} {fs fs' : List (Str × V)}
theorem ins_get (hok : HOk P w H h) (e : H a = some (.ins C dx fs)) : ∃ mA, ObjM h a dx C mA ∧ (∀ f, RelO (fs.lookup f) (mA f)) ∧ PySem.Within mA (fs.map (·.1)) ∧ fs.length ≤ 1000 ∧ H dx = some (.own a) := by
  obtain ⟨d, z, ne, ob, mA, n, r, q⟩ := (show ObjOk P w H h a (.ins C dx fs) from hok a _ e)
  exact ⟨mA, ⟨ob, n, ne⟩, r, q, z, d⟩
end

structure Cls (K : PySem.W.Frag) (C : Addr) : Prop where
  pg : PySem.W.plainGet K C Str.empty = true
  hd : PySem.W.hasDictIn K C = true
  po : PySem.W.plainOver K C = true
  sa : PySem.W.findIn K (.ref C) "__setattr__" = some (some (.builtin "object.__setattr__"))
theorem Cls.get {K : PySem.W.Frag} {C : Addr} (c : Cls K C) (f : Str) : PySem.W.plainGet K C f = true := c.pg
noncomputable def NoAttr (K : PySem.W.Frag) (C : Addr) (f : Str) : Prop := PySem.W.findIn K (.ref C) f = some none
theorem NoAttr.taker {K : PySem.W.Frag} {C : Addr} {f : Str} (n : NoAttr K C f) : PySem.W.takerIn K C f = some none := by
  unfold PySem.W.takerIn
  rw [show PySem.W.findIn K (.ref C) f = some none from n]
  rfl
structure Meth (K : PySem.W.Frag) (C : Addr) (m : Str) (f : Addr) : Prop where
  at_ : PySem.W.findIn K (.ref C) m = some (some (.ref f))
  fn : PySem.W.isFn K (.ref f) = true
  kp : PySem.W.keepIn K (.ref f) = true

section
variable {X : Cx} {pins : List (Addr × Obj)} {σ : St} {H : Hp} {s : Shared} {a C dx : Addr} {fs : List (Str × V)} {f : Str} {v : V} {A : Around} {E : Value → Shared → Prop}

theorem getattr_ok {b : Bool} {Q : Value → Shared → Prop} (I : Inv X pins σ H s) (e : H a = some (.ins C dx fs)) (c : Cls X.K C) (n : NoAttr X.K C f) (l : fs.lookup f = some v)
    (h : ∀ u s', Inv X pins σ H s' → RelV v u → Q u s') : wpAny (model X.prog X.w) A (getAttr (.ref a) f b) Q E s := by
  obtain ⟨mA, O, r, _, _, _⟩ := ins_get I.hok e
  obtain ⟨u, hu, ru⟩ := RelO.some_of (v := v) (o := mA f) (by rw [← l]; exact r f)
  exact get_map I.kIn O (c.get f) c.hd n hu (handed_of ru) (h u _ (I.tok _) ru)

theorem getmeth_ok {m : Str} {g : Addr} {pl : Sem Bool} {Q : Value × List Value → Shared → Prop} (I : Inv X pins σ H s) (e : H a = some (.ins C dx fs)) (c : Cls X.K C) (k : Meth X.K C m g) (l : fs.lookup m = none)
    (h : Q (.ref g, [.ref a]) s) : wpAny (model X.prog X.w) A (getMethod (.ref a) m pl) Q E s := by
  obtain ⟨mA, O, r, _, _, _⟩ := ins_get I.hok e
  have hn : mA m = none := RelO.none_of (by rw [← l]; exact r m)
  exact get_meth I.kIn O (c.get m) k.at_ k.fn hn h

theorem setattr_ok {y : V} {u : Value} {Q : Unit → Shared → Prop} (I : Inv X pins σ H s) (e : H a = some (.ins C dx fs)) (c : Cls X.K C) (n : NoAttr X.K C f) (hl : fs.length < 1000) (ry : RelV y u)
    (h : ∀ s', Inv X pins σ (upd H a (.ins C dx (putF f y fs))) s' → Q () s') : wpAny (model X.prog X.w) A (setAttr (.ref a) f u) Q E s := by
  obtain ⟨mA, O, r, wi, _, ho⟩ := ins_get I.hok e
  have hz : (fs.map (·.1)).length ≤ sizeLine := by rw [List.length_map, sizeLine_eq]; omega
  refine set_map I.kIn O c.sa c.po n.taker c.hd wi hz fun h' O' sb => h _ ?_
  have hd : ∃ o, h'.get? dx = some o := let ⟨o, _, _, e', _⟩ := O'.ns; ⟨o, e'⟩
  refine I.write (x := a) (e := dx) (by rw [e]; exact True.intro) (.inr ho) (fun b q hb z => (sb.2 b hb).trans z) hd ?_
  refine ⟨by rw [upd_ne O.ne]; exact ho, ?_, O.ne, O'.obj, _, O'.ns, fun g => ?_, fun g hg => ?_⟩
  · have := length_putF f y fs; omega
  · show RelO ((putF f y fs).lookup g) (if g = f then some u else mA g)
    rw [lookup_putF]
    by_cases q : g = f
    · rw [if_pos q, if_pos q]; exact ry
    · rw [if_neg q, if_neg q]; exact r g
  · by_cases q : g = f
    · rw [q]; exact (keys_putF f y fs).1
    · refine (keys_putF f y fs).2 g (wi g fun z => hg ?_)
      show (if g = f then some u else mA g) = none
      rw [if_neg q]; exact z

theorem Inv.made (I : Inv X pins σ H s) : Inv X pins σ (upd (upd H s.heap.objs.size (.own (s.heap.objs.size + 1))) (s.heap.objs.size + 1) (.ins C s.heap.objs.size []))
    { s with heap := (s.heap.push PySem.W.emptyDict).push (PySem.W.instObj C s.heap.objs.size) } := by
  have e1 : (s.heap.push PySem.W.emptyDict).get? s.heap.objs.size = some PySem.W.emptyDict := Heap.get?_push_size s.heap rfl
  have e2 : ((s.heap.push PySem.W.emptyDict).push (PySem.W.instObj C s.heap.objs.size)).get? (s.heap.objs.size + 1) = some (PySem.W.instObj C s.heap.objs.size) := by
    have := Heap.get?_push_size (s.heap.push PySem.W.emptyDict) (o := PySem.W.instObj C s.heap.objs.size) rfl
    rwa [Heap.size_push] at this
  have e3 : (s.heap.push PySem.W.emptyDict).Ns s.heap.objs.size (fun _ => none) := ⟨PySem.W.emptyDict, #[], _, e1, rfl, (fun e he => absurd he (by simp)), fun _ => rfl⟩
  have I1 := I.laid (a := s.heap.objs.size) (o := .own (s.heap.objs.size + 1)) (h' := s.heap.push PySem.W.emptyDict) (t' := s.toks) (fun b u q => Heap.get?_push_of_some _ q) (Nat.le_refl _) ⟨_, e1⟩
  refine I1.laid (a := s.heap.objs.size + 1) (o := .ins C s.heap.objs.size []) (t' := s.toks) (fun b u q => Heap.get?_push_of_some _ q) (Nat.le_of_eq (Heap.size_push _ _)) ?_
  have ne : s.heap.objs.size ≠ s.heap.objs.size + 1 := Nat.ne_of_lt (Nat.lt_succ_self _)
  refine ⟨by rw [upd_ne ne, upd_same], Nat.zero_le _, ne, e2, fun _ => none, (Heap.Ns1.of_empty e3).at fun o q => Heap.get?_push_of_some _ q, fun _ => True.intro, fun y hy => absurd rfl hy⟩

theorem attr_of {prog : Program} {w : World} {env : Env} {e : Expr} {f : Str} {pos : Pos} {s : Shared} {Q : Value → Shared → Prop} (hb : attributeBase e f env (eval e env) = eval e env)
    (h : wpAny (model prog w) A (eval e env) (fun o s₁ => wpAny (model prog w) A (getAttr o f true) Q E s₁) E s) : wpAny (model prog w) A (eval (.Attribute e f pos) env) Q E s :=
  Attribute_any_ h (by rw [arm_eval_Attribute, hb])
end

noncomputable def tFld (K : PySem.W.Frag) (ta : TE) (f : Str) : TE := fun σ H Q => ta σ H fun x H1 => ∃ a C dx fs v, x = .ref a ∧ H1 a = some (.ins C dx fs) ∧ Cls K C ∧ NoAttr K C f ∧ fs.lookup f = some v ∧ Q v H1
noncomputable def sFld (K : PySem.W.Frag) (ta tv : TE) (f : Str) : TS := fun D σ H => tv σ H fun y H1 => ta σ H1 fun x H2 => ∃ a C dx fs, x = .ref a ∧ H2 a = some (.ins C dx fs) ∧ Cls K C ∧ NoAttr K C f ∧ fs.length < 1000 ∧
  D.nx σ (upd H2 a (.ins C dx (putF f y fs)))
section
variable {X : Cx} {o e value : Expr} {f : Str} {pos pos' tpos : Pos} {ta tv : TE}
theorem pe_fld (he : PE X e ta) (hb : attributeBase e f X.env (eval e X.env) = eval e X.env) : PE X (.Attribute e f pos) (tFld X.K ta f) := by
  intro pins s σ H Q I h
  refine attr_of hb (thn (he pins s σ H _ I h) fun u s1 ⟨x, H1, I1, rx, a, C, dx, fs, v, ex, ea, c, n, l, q⟩ => ?_)
  subst ex
  obtain rfl : u = Value.ref a := rx
  exact getattr_ok I1 ea c n l fun u' s2 I2 ru => ⟨v, H1, I2, ru, q⟩
theorem ps_fld (ha : PE X o ta) (hv : PE X value tv) (hs : swapsWith value (some (.Attribute o f pos')) pos.line X.env = pure false) : PS X (.Assign [.Attribute o f pos'] value pos) (sFld X.K ta tv f) := by
  intro pins s σ H D I h
  refine plainObj_wpAny_Assign_Attribute (thn (hv pins s σ H _ I h) fun u s1 ⟨y, H1, I1, ry, q⟩ => thn (ha pins s1 σ H1 _ I1 q) fun ov s2 ⟨x, H2, I2, rx, a, C, dx, fs, ex, ea, c, n, l, q2⟩ => ?_) hs
  subst ex
  obtain rfl : ov = Value.ref a := rx
  exact setattr_ok I2 ea c n l ry fun s3 I3 => ⟨σ, _, I3, q2⟩
end

section
variable {X : Cx} {pins : List (Addr × Obj)} {σ : St} {H : Hp} {s : Shared} {A : Around} {E : Value → Shared → Prop} {Q : Value → Shared → Prop} {c : Value} {b : Bool}
inductive TyOf (K : PySem.W.Frag) (H : Hp) : V → Value → Prop where
  | non : TyOf K H .non (.type "NoneType")
  | bl (x : Bool) : TyOf K H (.bl x) (.type "bool")
  | int (i : Int) : TyOf K H (.int i) (.type "int")
  | str (x : Str) : TyOf K H (.str x) (.type "str")
  | flt (x : UInt64) : TyOf K H (.flt x) (.type "float")
  | lst {a : Addr} {xs : List V} (e : H a = some (.lst xs)) : TyOf K H (.ref a) (.type "list")
  | frz {a : Addr} {o : Obj} {xs : List V} (e : H a = some (.frz o (.lst xs))) : TyOf K H (.ref a) (.type "list")
  | tup {a : Addr} {xs : List V} (e : H a = some (.tup xs)) : TyOf K H (.ref a) (.type "tuple")
  | dK {a : Addr} {kvs : List (Key × V)} (e : H a = some (.dK kvs)) : TyOf K H (.ref a) (.type "dict")
  | dT {a : Addr} {kvs : List (List Key × V)} (e : H a = some (.dT kvs)) : TyOf K H (.ref a) (.type "dict")
  | ins {a C dx : Addr} {fs : List (Str × V)} (e : H a = some (.ins C dx fs)) (cl : Cls K C) (ha : PySem.W.findIn K (.ref C) "__class__" = some (some (.builtin "object.__class__")))
      (hn : PySem.W.specialIn K (.builtin "object.__class__") "__get__" = some (some (.builtin "getset_descriptor.__get__"))) (htk : PySem.W.takesIn K (.builtin "object.__class__") = some true)
      (hm : PySem.W.mroIn K C (.type "object") = some true) : TyOf K H (.ref a) (.ref C)
theorem isinst_ok {x : V} {u t : Value} (I : Inv X pins σ H s) (rx : RelV x u) (ty : TyOf X.K H x t) (e : PySem.W.kitOne X.K t c = some b) (h : ∀ tk, Q (.bool b) { s with toks := tk }) :
    wpAny (model X.prog X.w) A (call (.builtin "isinstance") [u, c]) Q E s := by
  cases ty with
  | non => cases (show u = Value.none from rx); exact PySem.W.kia_one PySem.W.kitx_none I.kIn True.intro e (fun z => nomatch z) h
  | bl y => cases (show u = Value.bool y from rx); exact PySem.W.kia_one PySem.W.kitx_bool I.kIn True.intro e (fun z => nomatch z) h
  | int i => obtain ⟨t, q⟩ := (show ∃ t, u = Value.int i t from rx); cases q; exact PySem.W.kia_one PySem.W.kitx_int I.kIn True.intro e (fun z => nomatch z) h
  | str y => obtain ⟨t, q⟩ := (show ∃ t, u = Value.str y t from rx); cases q; exact PySem.W.kia_one PySem.W.kitx_str I.kIn True.intro e (fun z => nomatch z) h
  | flt y => obtain ⟨t, q⟩ := (show ∃ t, u = Value.float y t from rx); cases q; exact PySem.W.kia_one PySem.W.kitx_float I.kIn True.intro e (fun z => nomatch z) h
  | @lst a xs ea =>
    cases (show u = Value.ref a from rx)
    obtain ⟨_, _, n, _, h1⟩ := (show ObjOk X.prog X.w H s.heap a (.lst xs) from I.hok a _ ea)
    exact PySem.W.kia_one PySem.W.kitx_list I.kIn ⟨_, h1, rfl⟩ e (fun z => nomatch z) h
  | @frz a ob xs ea =>
    cases (show u = Value.ref a from rx)
    obtain ⟨_, _, _, n, _, h1⟩ := (show ObjOk X.prog X.w H s.heap a (.frz ob (.lst xs)) from I.hok a _ ea)
    exact PySem.W.kia_one PySem.W.kitx_list I.kIn ⟨_, h1, rfl⟩ e (fun z => nomatch z) h
  | @tup a xs ea =>
    cases (show u = Value.ref a from rx)
    obtain ⟨_, _, _, p⟩ := (show ObjOk X.prog X.w H s.heap a (.tup xs) from I.hok a _ ea)
    obtain ⟨o, h1, h2, _⟩ := p
    exact PySem.W.kia_one PySem.W.kitx_tuple I.kIn ⟨o, h1, h2⟩ e (fun z => nomatch z) h
  | @dK a kvs ea =>
    cases (show u = Value.ref a from rx)
    obtain ⟨_, _, vs, _, p⟩ := (show ObjOk X.prog X.w H s.heap a (.dK kvs) from I.hok a _ ea)
    obtain ⟨o, es, ep, h1, h2, _⟩ := p
    exact PySem.W.kia_one PySem.W.kitx_dict I.kIn ⟨o, h1, h2.1⟩ e (fun z => nomatch z) h
  | @dT a kvs ea =>
    cases (show u = Value.ref a from rx)
    obtain ⟨_, _, xs, _, o, es, ep, h1, h2, _⟩ := (show ObjOk X.prog X.w H s.heap a (.dT kvs) from I.hok a _ ea)
    exact PySem.W.kia_one PySem.W.kitx_dict I.kIn ⟨o, h1, h2.1⟩ e (fun z => nomatch z) h
  | @ins a C dx fs ea cl ha hn htk hm =>
    cases (show u = Value.ref a from rx)
    obtain ⟨mA, O, _⟩ := ins_get I.hok ea
    obtain ⟨od, J, _⟩ := O.look
    exact PySem.W.kia_one (PySem.W.kitx_own (cl.get _) cl.hd ha hn htk hm) I.kIn J e (fun z => nomatch z) h
end
end L2

namespace L2
open PySem PySem.Spec PyProof.Rows

structure Room (k : Nat) (A : Around) : Prop where
  hd : A.handled = none
  dp : A.depth + 3 * k + 5 < recursionLimit
  un : A.units + 16 * k + 200 < cLine
  gd : A.guards = some []
theorem Room.mono {j k : Nat} {A : Around} (r : Room k A) (h : j ≤ k) : Room j A := ⟨r.hd, by have := r.dp; omega, by have := r.un; omega, r.gd⟩
theorem Room.deeper {k : Nat} {A : Around} (r : Room (k + 1) A) (env : Env) : Room k (A.deeper env) :=
  ⟨r.hd, by have := r.dp; show A.depth + 1 + 3 * k + 5 < _; omega, by have := r.un; show A.units + 3 + 16 * k + 200 < _; omega, r.gd⟩
theorem Room.in1 {k : Nat} {A : Around} (r : Room (k + 1) A) : Room k A.in1 :=
  ⟨r.hd, by have := r.dp; show A.depth + 3 * k + 5 < _; omega, by have := r.un; show A.units + 1 + 16 * k + 200 < _; omega, r.gd⟩
theorem make_depth {A : Around} {C : Addr} {us : List Value} {kw : List (Str × Value)} : (A.under (.builtin "type.__call__" ⟨.ref C :: us, kw⟩)).depth = A.depth + 1 := by
  first | rfl | simp [Around.under, Code.weight, Code.isCreation, Code.isGuard, Code.isCaller, Code.frames, Code.isFrame, guardIds]
theorem make_units {A : Around} {C : Addr} {us : List Value} {kw : List (Str × Value)} : (A.under (.builtin "type.__call__" ⟨.ref C :: us, kw⟩)).units = A.units + 1 := by
  first | rfl | simp [Around.under, Code.cUnits, Code.frames, Code.isFrame]
theorem make_guards {A : Around} {C : Addr} {us : List Value} {kw : List (Str × Value)} : (A.under (.builtin "type.__call__" ⟨.ref C :: us, kw⟩)).guards = A.guards := by
  first | rfl | simp [Around.under, Code.isGuard, Code.frames, Code.isFrame, guardIds]
theorem Room.make {k : Nat} {A : Around} (r : Room (k + 1) A) (C : Addr) (us : List Value) (kw : List (Str × Value)) : Room k (A.under (.builtin "type.__call__" ⟨.ref C :: us, kw⟩)) :=
  ⟨r.hd, by have := r.dp; rw [make_depth]; omega, by have := r.un; rw [make_units]; omega, by rw [make_guards]; exact r.gd⟩
theorem Room.depth {k : Nat} {A : Around} (r : Room k A) : A.depth < recursionLimit := by have := r.dp; omega
theorem Room.units {k : Nat} {A : Around} (r : Room k A) : A.units + 64 < cLine := by have := r.un; omega
noncomputable def tNil : TA := fun _ H Q => Q [] H
noncomputable def tCons (ta : TE) (tr : TA) : TA := fun σ H Q => ta σ H fun x H1 => tr σ H1 fun xs H2 => Q (x :: xs) H2
section
variable {X : Cx} {e : Expr} {es : List Expr} {te : TE} {t : TA} {pos : Pos}
theorem pa_nil : PA X [] tNil := fun _ _ _ _ H Q I h => Calls.spliced_nil ⟨[], H, I, .nil, h⟩
theorem pa_cons (ha : PE X e te) (hr : PA X es t) (hs : starEach (e :: es) X.env = (false, eval e X.env) :: starEach es X.env := by rfl) : PA X (e :: es) (tCons te t) := by
  intro pos pins s σ H Q I h
  rw [hs]
  show wpAny _ _ (spliced ((false, eval e X.env) :: backTo pos (starEach es X.env))) _ _ s
  refine Calls.spliced_cons (thn (ha pins s σ H _ I h) fun u s1 ⟨x, H1, I1, r1, q1⟩ => ?_)
  exact thn (hr pos pins s1 σ H1 _ I1 q1) fun us s2 ⟨xs, H2, I2, r2, q2⟩ => ⟨x :: xs, H2, I2, .cons r1 r2, q2⟩

noncomputable def tTup (t : TA) : TE := fun σ H Q => t σ H fun xs H1 => xs.length ≤ sizeLine ∧ ∀ p, H1 p = none → Q (.ref p) (upd H1 p (.tup xs))
noncomputable def tLst (t : TA) : TE := fun σ H Q => t σ H fun xs H1 => xs.length ≤ sizeLine ∧ ∀ p, H1 p = none → Q (.ref p) (upd H1 p (.lst xs))
theorem pe_tup {x1} (h : PA X es t) : PE X (.Tuple es x1 pos) (tTup t) := by
  intro pins s σ H Q I hq
  refine wpAny_Tuple_spliced (thn (h pos pins s σ H _ I hq) fun us s1 ⟨xs, H1, I1, r, z, q⟩ => ⟨by rw [← r.length]; exact z, ?_⟩)
  have hf : H1 s1.heap.objs.size = none := I1.hok.fresh (Nat.le_refl _)
  refine ⟨.ref s1.heap.objs.size, upd H1 s1.heap.objs.size (.tup xs), I1.laid (t' := s1.toks) (fun b u e => Heap.get?_push_of_some _ e) (Nat.le_refl _) ?_, rfl, q _ hf⟩
  exact ⟨z, us, r, ⟨_, Heap.get?_push_size _ rfl, rfl, _, rfl⟩⟩
theorem pe_lst (h : PA X es t) : PE X (.List es pos) (tLst t) := by
  intro pins s σ H Q I hq
  refine wpAny_List_spliced (thn (h pos pins s σ H _ I hq) fun us s1 ⟨xs, H1, I1, r, z, q⟩ => ⟨by rw [← r.length]; exact z, ?_⟩)
  have hf : H1 s1.heap.objs.size = none := I1.hok.fresh (Nat.le_refl _)
  refine ⟨.ref s1.heap.objs.size, upd H1 s1.heap.objs.size (.lst xs), I1.laid (t' := s1.toks) (fun b u e => Heap.get?_push_of_some _ e) (Nat.le_refl _) ?_, rfl, q _ hf⟩
  exact ⟨z, us, 0, r, Heap.get?_push_size _ rfl⟩
end

noncomputable abbrev Sp := List V → Hp → VK → XK → Prop
noncomputable abbrev CXT := List Env → Hp → Shared → XK → Value → Shared → Prop

structure Env0 (P : Program) (w : World) (K : PySem.W.Frag) (mg : Str → Option Value) (base : Heap) (A : Around) (outer : List Env) (s : Shared) (H : Hp) : Prop where
  frames : A.frames = some outer
  mod : Mod K mg base
  bs : ∀ b o, base.get? b = some o → s.heap.get? b = some o ∧ H b = none
  bsz : base.objs.size ≤ s.heap.objs.size
  funs : s.heap.FunFrames base outer
  frf : ∀ b ∈ frs outer, H b = none
  hok : HOk P w H s.heap
  bare : AllBare s.gens
noncomputable def CE (outer : List Env) (P : Program) (w : World) (H : Hp) (s : Shared) (Q : VK) (u : Value) (s' : Shared) : Prop :=
  ∃ v H', s'.os = s.os ∧ AllBare s'.gens ∧ Un (frs outer) [] H H' s.heap s'.heap ∧ HOk P w H' s'.heap ∧ RelV v u ∧ Q v H'
noncomputable def CR (CX : CXT) (outer : List Env) (P : Program) (w : World) (H : Hp) (s : Shared) (Q : VK) (E : XK) (r : Result) (s' : Shared) : Prop :=
  match r with
  | .ok (.ret u) => CE outer P w H s Q u s'
  | .ok _ => False
  | .error e => CX outer H s E e s'
structure FnOk (P : Program) (w : World) (K : PySem.W.Frag) (mg : Str → Option Value) (base : Heap) (CX : CXT) (k : Nat) (f : Addr) (fd : FuncData) (ps : List Str) (sp : Sp) : Prop where
  len : ∀ vs H Q E, sp vs H Q E → vs.length = ps.length
  run : ∀ (A : Around) (outer : List Env) (s : Shared) (H : Hp) (args : Args) (us : List Value) (vs : List V) (Q : VK) (E : XK), Room k A → Env0 P w K mg base A outer s H → BindsTo s fd args (ps.zip us) → Vals vs us → sp vs H Q E →
    codeAny (model P w) A (.call (.ref f) args) (CR CX outer P w H s Q E) s
theorem FnOk.mono {P : Program} {w : World} {K : PySem.W.Frag} {mg : Str → Option Value} {base : Heap} {CX : CXT} {j k : Nat} {f : Addr} {fd : FuncData} {ps : List Str} {sp : Sp} (F : FnOk P w K mg base CX j f fd ps sp) (h : j ≤ k) :
    FnOk P w K mg base CX k f fd ps sp := ⟨F.len, fun A outer s H args us vs Q E hr => F.run A outer s H args us vs Q E (hr.mono h)⟩
theorem FnOk.imp {P : Program} {w : World} {K : PySem.W.Frag} {mg : Str → Option Value} {base : Heap} {CX : CXT} {k : Nat} {f : Addr} {fd : FuncData} {ps : List Str} {sp sp' : Sp} (F : FnOk P w K mg base CX k f fd ps sp)
    (h : ∀ vs H Q E, sp' vs H Q E → sp vs H Q E) : FnOk P w K mg base CX k f fd ps sp' :=
  ⟨fun vs H Q E q => F.len vs H Q E (h _ _ _ _ q), fun A outer s H args us vs Q E hr he hb hv hs => F.run A outer s H args us vs Q E hr he hb hv (h _ _ _ _ hs)⟩

theorem Env0.make {P : Program} {w : World} {K : PySem.W.Frag} {mg : Str → Option Value} {base : Heap} {A : Around} {outer : List Env} {s : Shared} {H : Hp} (e : Env0 P w K mg base A outer s H) (C : Addr) (us : List Value) (kw : List (Str × Value)) :
    Env0 P w K mg base (A.under (.builtin "type.__call__" ⟨.ref C :: us, kw⟩)) outer s H := ⟨by first | exact e.frames | (simpa [Around.under, Code.envs, Code.isFrame, pushEnvs] using e.frames), e.mod, e.bs, e.bsz, e.funs, e.frf, e.hok, e.bare⟩
theorem Env0.in1 {P : Program} {w : World} {K : PySem.W.Frag} {mg : Str → Option Value} {base : Heap} {A : Around} {outer : List Env} {s : Shared} {H : Hp} (e : Env0 P w K mg base A outer s H) :
    Env0 P w K mg base A.in1 outer s H := ⟨e.frames, e.mod, e.bs, e.bsz, e.funs, e.frf, e.hok, e.bare⟩

section
variable {X : Cx} {pins : List (Addr × Obj)} {σ : St} {H : Hp} {s s' : Shared}
theorem Inv.env0 (I : Inv X pins σ H s) : Env0 X.prog X.w X.K X.mg X.base X.A X.stack s H :=
  ⟨I.ok.frames, I.ok.mod, I.bs, Nat.le_trans I.ok.bsz I.sz, I.stack, I.stkFree, I.hok, I.bare⟩
theorem Inv.after {Q : VK} {u : Value} (I : Inv X pins σ H s) (h : CE X.stack X.prog X.w H s Q u s') : EP X pins σ Q u s' := by
  obtain ⟨v, H', os, bare, un, hok, r, q⟩ := h
  obtain ⟨hh, g, d, t, os'⟩ := s'
  obtain rfl : os' = s.os := os
  exact ⟨v, H', I.call (h' := hh) (g' := g) (d' := d) (t' := t) (ch := []) un hok bare (fun b z => absurd z (by simp)), r, q⟩
end

noncomputable def tCall (sp : Sp) (dvs : List V) (E : XK) (t : TA) : TE := fun σ H Q => t σ H fun vs H1 => sp (vs ++ dvs) H1 Q E
noncomputable def tMeth (C : Addr) (m : Str) (sp : Sp) (dvs : List V) (E : XK) (ta : TE) (t : TA) : TE := fun σ H Q => ta σ H fun x H1 => ∃ a dx fs, x = .ref a ∧ H1 a = some (.ins C dx fs) ∧ fs.lookup m = none ∧
  t σ H1 fun vs H2 => sp (x :: (vs ++ dvs)) H2 Q E
noncomputable def tMake (C : Addr) (sp : Sp) (dvs : List V) (E : XK) (t : TA) : TE := fun σ H Q => t σ H fun vs H1 => ∀ x dx, H1 x = none → H1 dx = none → dx ≠ x →
  sp (.ref x :: (vs ++ dvs)) (upd (upd H1 dx (.own x)) x (.ins C dx [])) (fun v H2 => v = .non ∧ Q (.ref x) H2) E

noncomputable def Binds (K : PySem.W.Frag) (fd : FuncData) (ps : List Str) (ds : List Value) : Prop :=
  ∀ (s : Shared) (us : List Value), K.In s.heap → (us ++ ds).length = ps.length → BindsTo s fd ⟨us, []⟩ (ps.zip (us ++ ds))
theorem Binds.all {K : PySem.W.Frag} {fd : FuncData} {ps : List Str} (h : ∀ us : List Value, us.length = ps.length → bindArgs fd ⟨us, []⟩ = pure (ps.zip us)) : Binds K fd ps [] := fun s us _ hl => by
  rw [List.append_nil] at hl ⊢
  exact .of_eq (h us hl)

noncomputable def Passes (CX : CXT) (X : Cx) (E : XK) : Prop := ∀ (pins : List (Addr × Obj)) (σ : St) (H : Hp) (s : Shared) (e : Value) (s' : Shared), Inv X pins σ H s → CX X.stack H s E e s' → X.xe e s'

section
variable {X : Cx} {CX : CXT} {k : Nat} {f C : Addr} {fd : FuncData} {ps : List Str} {sp : Sp} {dvs : List V} {ds : List Value} {E : XK} {x m : Str} {p pos apos : Pos} {e o : Expr} {es : List Expr} {ta : TE} {t : TA}

theorem run_fn {pins : List (Addr × Obj)} {σ : St} {H : Hp} {s : Shared} {Q : VK} {us : List Value} {vs : List V} (F : FnOk X.prog X.w X.K X.mg X.base CX k f fd ps sp) (hr : Room k X.A) (hb : Binds X.K fd ps ds) (hd : Vals dvs ds) (hx : Passes CX X E)
    (I : Inv X pins σ H s) (r : Vals vs us) (h : sp (vs ++ dvs) H Q E) : wpAny (model X.prog X.w) X.A (call (.ref f) us) (EP X pins σ Q) X.xe s := by
  have r2 : Vals (vs ++ dvs) (us ++ ds) := r.append hd
  have hl : (us ++ ds).length = ps.length := by rw [← r2.length]; exact F.len _ _ _ _ h
  refine wpAny_call (codeAny_mono (F.run X.A X.stack s H ⟨us, []⟩ (us ++ ds) (vs ++ dvs) Q E hr I.env0 (hb s us I.kIn hl) r2 h) fun r s' hq => ?_)
  cases r with
  | error e => exact hx pins σ H s e s' I hq
  | ok fl =>
    cases fl with
    | ret u => exact I.after hq
    | next => exact False.elim hq
    | brk => exact False.elim hq
    | cont => exact False.elim hq

theorem pe_call (F : FnOk X.prog X.w X.K X.mg X.base CX k f fd ps sp) (hr : Room k X.A) (hg : Gl X x) (hm : X.mg x = some (.ref f)) (hk : PySem.W.keepIn X.K (.ref f) = true) (hb : Binds X.K fd ps ds) (hd : Vals dvs ds) (hx : Passes CX X E)
    (ha : PA X (e :: es) t) (hdb : (x == ("__debug__" : Str)) = false := by decide) (he : starEach (e :: es) X.env = (false, eval e X.env) :: starEach es X.env := by rfl) (hpl : (backTo pos (starEach es X.env)).any (·.1) = false := by rfl) :
    PE X (.Call (.Name x p) (e :: es) [] pos) (tCall sp dvs E t) := by
  intro pins s σ H Q I h
  refine wpAny_Call_Name_kw (ld_glob I hg hm ?_ hdb)
  refine PySem.W.callWith_K (h₀ := X.base) I.ok.mod.kin hk (thn (ha pos pins s σ H _ I h) fun us s1 ⟨vs, H1, I1, r, q⟩ => ⟨I1.kIn, ?_⟩) he hpl
  exact run_fn F hr hb hd hx I1 r q
theorem pe_meth {pl : Sem Bool} (he : PE X o ta) (c : Cls X.K C) (hm : Meth X.K C m f) (F : FnOk X.prog X.w X.K X.mg X.base CX k f fd ps sp) (hr : Room k X.A) (hb : Binds X.K fd ps ds) (hd : Vals dvs ds) (hx : Passes CX X E) (ha : PA X (e :: es) t)
    (hst : starEach (e :: es) X.env = (false, eval e X.env) :: starEach es X.env := by rfl) (hpl : (backTo pos (starEach es X.env)).any (·.1) = false := by rfl)
    (ht : eval (.Call (.Attribute o m apos) (e :: es) [] pos) X.env = (do
      let ov ← eval o X.env
      standAt apos.atName
      let (f, first) ← holding [ov] (getMethod ov m pl)
      callWith pos f first (backTo pos (starEach (e :: es) X.env)) (backToKw pos (keywordEach [] X.env))) := by rfl) :
    PE X (.Call (.Attribute o m apos) (e :: es) [] pos) (tMeth C m sp dvs E ta t) := by
  intro pins s σ H Q I h
  refine PySem.W.methodCall_KW (pl := pl) (thn (he pins s σ H _ I h) fun u s1 ⟨x, H1, I1, rx, a, dx, fs, ex, ea, l, q⟩ => ?_) ht
  subst ex
  obtain rfl : u = Value.ref a := rx
  refine getmeth_ok I1 ea c hm l ?_
  refine PySem.W.callWith_K (first := [.ref a]) (h₀ := X.base) I.ok.mod.kin hm.kp (thn (ha pos pins s1 σ H1 _ I1 q) fun us s2 ⟨vs, H2, I2, r, q2⟩ => ⟨I2.kIn, ?_⟩) hst hpl
  exact run_fn (us := .ref a :: us) (vs := .ref a :: vs) F hr hb hd hx I2 (.cons rfl r) q2
structure Mk (K : PySem.W.Frag) (C f : Addr) : Prop where
  makes : PySem.W.makesIn K C = true
  init : PySem.W.findIn K (.ref C) "__init__" = some (some (.ref f))
  fn : PySem.W.isFn K (.ref f) = true
  kp : PySem.W.keepIn K (.ref C) = true

theorem run_make {pins : List (Addr × Obj)} {σ : St} {H : Hp} {s : Shared} {Q : VK} {us : List Value} {vs : List V} (M : Mk X.K C f) (F : FnOk X.prog X.w X.K X.mg X.base CX k f fd ps sp) (hr : Room (k + 1) X.A) (hb : Binds X.K fd ps ds) (hd : Vals dvs ds)
    (hx : Passes CX X E) (I : Inv X pins σ H s) (r : Vals vs us)
    (h : ∀ x dx, H x = none → H dx = none → dx ≠ x → sp (.ref x :: (vs ++ dvs)) (upd (upd H dx (.own x)) x (.ins C dx [])) (fun v H2 => v = .non ∧ Q (.ref x) H2) E) :
    wpAny (model X.prog X.w) X.A (call (.ref C) us) (EP X pins σ Q) X.xe s := by
  have hq := h (s.heap.objs.size + 1) s.heap.objs.size (I.hok.fresh (Nat.le_succ _)) (I.hok.fresh (Nat.le_refl _)) (Nat.ne_of_lt (Nat.lt_succ_self _))
  have I2 := Inv.made (C := C) I
  have r2 : Vals (V.ref (s.heap.objs.size + 1) :: (vs ++ dvs)) (Value.ref (s.heap.objs.size + 1) :: (us ++ ds)) := .cons rfl (r.append hd)
  have hl : (Value.ref (s.heap.objs.size + 1) :: us ++ ds).length = ps.length := by
    have e := r2.length
    rw [F.len _ _ _ _ hq] at e
    exact e.symm
  refine wpAny_call (make_map (f := f) I.kIn M.makes M.init (beq_iff_eq.mp M.fn) (codeAny_mono (F.run _ X.stack _ _ ⟨Value.ref (s.heap.objs.size + 1) :: us, []⟩ (Value.ref (s.heap.objs.size + 1) :: (us ++ ds)) _ _ E (hr.make C us [])
    (I2.env0.make C us []) (hb _ (Value.ref (s.heap.objs.size + 1) :: us) I2.kIn hl) r2 hq) fun r s' hq' => ?_))
  cases r with
  | error e => exact hx pins σ _ _ e s' I2 hq'
  | ok fl =>
    cases fl with
    | ret u =>
      obtain ⟨v, H', I3, rv, ev, q3⟩ := I2.after hq'
      subst ev
      exact ⟨rv, ⟨V.ref (s.heap.objs.size + 1), H', I3, rfl, q3⟩⟩
    | next => exact False.elim hq'
    | brk => exact False.elim hq'
    | cont => exact False.elim hq'
theorem pe_make0 (M : Mk X.K C f) (F : FnOk X.prog X.w X.K X.mg X.base CX k f fd ps sp) (hr : Room (k + 1) X.A) (hg : Gl X x) (hm : X.mg x = some (.ref C)) (hb : Binds X.K fd ps ds) (hd : Vals dvs ds) (hx : Passes CX X E)
    (hdb : (x == ("__debug__" : Str)) = false := by decide) : PE X (.Call (.Name x p) [] [] pos) (tMake C sp dvs E tNil) := by
  intro pins s σ H Q I h
  refine wpAny_Call_Name_kw (ld_glob I hg hm ?_ hdb)
  exact PySem.W.callWith_K0 I.kIn M.kp (run_make (us := []) M F hr hb hd hx I .nil h)
end

section
variable {X : Cx} {CX : CXT} {k : Nat} {f C : Addr} {fd : FuncData} {ps ks : List Str} {sp : Sp} {E : XK} {x m : Str} {p pos apos kpos : Pos} {e o : Expr} {es : List Expr} {kws : List Keyword} {te ta : TE} {t tk : TA} {nm : Option Str}
variable {g : List Value → List Value → List Value} {gV : List V → List V → List V}
end

structure FnScope (N P : List Str) (sc : Scope) : Prop where
  kind : sc.kind = .function
  co : sc.isCoroutine = false
  gen : sc.isGenerator = false
  nd : N.Nodup
  pre : N.take P.length = P
  par : ∀ x ∈ P, sc.names.lookup x = some .local ∨ sc.names.lookup x = some .cell
  nofree : ∀ y ∈ sc.names, y.2 ≠ .free

theorem bindL_out {kindOf : Str → Option NameKind} {x : Str} : ∀ {binds : List (Str × Value)} {m : Str → Option Value}, (∀ v, (x, v) ∉ binds) → bindL kindOf binds m x = m x
  | [], _, _ => rfl
  | (n, v) :: r, m, h => by
    unfold bindL
    rw [bindL_out fun w hw => h w (List.mem_cons_of_mem _ hw)]
    split
    · have : x ≠ n := by rintro rfl; exact h v List.mem_cons_self
      simp [this]
    · rfl
theorem bindC_out {kindOf : Str → Option NameKind} {x : Str} : ∀ {binds : List (Str × Value)} {m : Str → Option Value}, (∀ v, (x, v) ∉ binds) → bindC kindOf binds m x = m x
  | [], _, _ => rfl
  | (n, v) :: r, m, h => by
    unfold bindC
    rw [bindC_out fun w hw => h w (List.mem_cons_of_mem _ hw)]
    split
    · rfl
    · have : x ≠ n := by rintro rfl; exact h v List.mem_cons_self
      simp [this]
theorem bindL_get {kindOf : Str → Option NameKind} {x : Str} {v : Value} : ∀ {P : List Str} {vs : List Value} {i : Nat} {m : Str → Option Value}, P.Nodup → P[i]? = some x → vs[i]? = some v → kindOf x = some .local →
    bindL kindOf (P.zip vs) m x = some v
  | [], _, _, _, _, h, _, _ => by simp at h
  | _ :: _, [], _, _, _, _, h, _ => by simp at h
  | p :: P, w :: vs, 0, m, nd, h1, h2, hk => by
    simp at h1 h2; subst h1; subst h2
    show bindL kindOf ((p, w) :: P.zip vs) m p = _
    unfold bindL
    rw [bindL_out fun v hv => (List.nodup_cons.mp nd).1 (List.of_mem_zip hv).1, if_pos hk]
    simp
  | p :: P, w :: vs, i + 1, m, nd, h1, h2, hk => by
    show bindL kindOf ((p, w) :: P.zip vs) m x = _
    unfold bindL
    exact bindL_get (i := i) (List.nodup_cons.mp nd).2 (by simpa using h1) (by simpa using h2) hk
theorem bindC_get {kindOf : Str → Option NameKind} {x : Str} {v : Value} : ∀ {P : List Str} {vs : List Value} {i : Nat} {m : Str → Option Value}, P.Nodup → P[i]? = some x → vs[i]? = some v → kindOf x ≠ some .local →
    bindC kindOf (P.zip vs) m x = some v
  | [], _, _, _, _, h, _, _ => by simp at h
  | _ :: _, [], _, _, _, _, h, _ => by simp at h
  | p :: P, w :: vs, 0, m, nd, h1, h2, hk => by
    simp at h1 h2; subst h1; subst h2
    show bindC kindOf ((p, w) :: P.zip vs) m p = _
    unfold bindC
    rw [bindC_out fun v hv => (List.nodup_cons.mp nd).1 (List.of_mem_zip hv).1, if_neg hk]
    simp
  | p :: P, w :: vs, i + 1, m, nd, h1, h2, hk => by
    show bindC kindOf ((p, w) :: P.zip vs) m x = _
    unfold bindC
    exact bindC_get (i := i) (List.nodup_cons.mp nd).2 (by simpa using h1) (by simpa using h2) hk

noncomputable def start (N : List Str) (vs : List V) : St := vs.map some ++ List.replicate (N.length - vs.length) none

noncomputable def cxOf (CX : CXT) (P : Program) (w : World) (K : PySem.W.Frag) (mg : Str → Option Value) (base : Heap) (N : List Str) (qual : Str) (scope : Scope) (f : Addr) (cd : Value) (A : Around) (outer : List Env) (s : Shared) (H : Hp) (E : XK) : Cx where
  prog := P
  w := w
  K := K
  mg := mg
  base := base
  A := A.deeper (envOfC qual scope s.heap.objs.size f cd)
  N := N
  s₀ := s
  H₀ := H
  env := envOfC qual scope s.heap.objs.size f cd
  outer := outer
  stack := envOfC qual scope s.heap.objs.size f cd :: outer
  ex := []
  calm := true
  fn := fun _ => true
  pn := []
  xe := fun e s' => wpAny (model P w) (A.deeper (envOfC qual scope s.heap.objs.size f cd)) (leaving (envOfC qual scope s.heap.objs.size f cd) e) (fun _ s'' => CX outer H s E e s'') (fun e' s'' => CX outer H s E e' s'') s'

theorem cell_has {sc : Scope} {n : Nat} {x : Str} (h : sc.names.lookup x = some .cell) : ∃ c, (cellsFrom n sc.names []).lookup x = some c := by
  have q := PySem.W.cellsFrom_some sc.names n [] (.inl h)
  exact Option.isSome_iff_exists.mp q

theorem inv_start {CX : CXT} {P : Program} {w : World} {K : PySem.W.Frag} {mg : Str → Option Value} {base : Heap} {N ps : List Str} {qual : Str} {scope : Scope} {f : Addr} {cd : Value} {A : Around} {outer : List Env} {s s1 : Shared} {H : Hp} {E : XK} {us : List Value} {vs : List V}
    (S : FnScope N ps scope) (hd : A.handled = none) (e0 : Env0 P w K mg base A outer s H) (hl : vs.length = ps.length) (r : Vals vs us)
    (x : InCallC s s.heap.objs.size (bindL (envOfC qual scope s.heap.objs.size f cd).kindOf (ps.zip us) fun _ => none) (cellsFrom (s.heap.objs.size + 1) scope.names []) (bindC (envOfC qual scope s.heap.objs.size f cd).kindOf (ps.zip us) fun _ => none) s1) :
    Inv (cxOf CX P w K mg base N qual scope f cd A outer s H E) [] (start N vs) H s1 := by
  have hpl : ps.length ≤ N.length := by have := congrArg List.length S.pre; rw [List.length_take] at this; omega
  obtain ⟨h1, tk, rfl, hk⟩ := x.done
  have noA : ∀ b : Addr, b ∉ (cxOf CX P w K mg base N qual scope f cd A outer s H E).ex := fun b z => absurd (show b ∈ ([] : List Addr) from z) (by simp)
  refine ⟨⟨e0.mod, S.kind, rfl, rfl, Nat.le_refl _, fun y z c h1 h2 => ?_, fun y hy => ?_, fun y c _ h => ?_, fun _ => hd, Around.frames_deeper e0.frames, .inr ⟨rfl, rfl⟩, fun b z => absurd z (noA b), e0.bs, e0.bsz, fun b _ _ => noA b, fun b z => absurd z (noA b), e0.funs, e0.frf⟩,
    rfl, e0.bare, Un.kept hk, ⟨_, x.toInCall.ns, fun i y v h1 h2 h3 => ?_⟩, fun y c h => ⟨_, x.cell y c h⟩, e0.hok.fresh (Nat.le_refl _), fun y c h => ?_, fun p hp => absurd (show p ∈ ([] : List (Addr × Obj)) from hp) (by simp), e0.hok.kept hk, ?_⟩
  · exact name_of_addr x.apart (PySem.mem_of_lookup h1) (PySem.mem_of_lookup h2)
  · have hy : scope.names.lookup y = some .cell ∨ scope.names.lookup y = some .free := hy
    rcases hy with hy | hy
    · exact cell_has hy
    · exact absurd rfl (S.nofree _ (PySem.mem_of_lookup hy))
  · exact Nat.le_of_lt (x.above y c (PySem.mem_of_lookup h))
  · have hi : i < vs.length := by
      unfold start at h2
      by_cases hi : i < vs.length
      · exact hi
      · rw [List.getElem?_append_right (by simpa using hi)] at h2
        rw [List.getElem?_replicate] at h2
        split at h2 <;> cases h2
    have ha : vs[i]? = some v := by
      unfold start at h2
      rw [List.getElem?_append_left (by simpa using hi), List.getElem?_map] at h2
      cases e : vs[i]? with
      | none => rw [e] at h2; cases h2
      | some a => rw [e] at h2; cases h2; rfl
    obtain ⟨u, hu, rv⟩ := r.get ha
    have hp : ps[i]? = some y := by
      rw [← S.pre, List.getElem?_take_of_lt (by omega)]; exact h1
    have ndP : ps.Nodup := by rw [← S.pre]; exact S.nd.sublist (List.take_sublist _ _)
    refine ⟨u, rv, ?_⟩
    rcases S.par y (List.mem_of_getElem? hp) with k | k
    · exact .inl ⟨k, bindL_get ndP hp hu k⟩
    · obtain ⟨c, e⟩ := cell_has (n := s.heap.objs.size + 1) k
      refine .inr ⟨.inl k, c, e, ?_⟩
      have q := x.cell y c e
      rw [bindC_get ndP hp hu (by show scope.names.lookup y ≠ _; rw [k]; decide)] at q
      exact q
  · exact e0.hok.fresh (Nat.le_of_lt (x.above y c (PySem.mem_of_lookup h)))
  · unfold start
    show _ = N.length
    rw [List.length_append, List.length_map, List.length_replicate]
    omega

theorem fn_of {CX : CXT} {P : Program} {w : World} {K : PySem.W.Frag} {mg : Str → Option Value} {base : Heap} {k : Nat} {f : Addr} {name qual : Str} {params : Arguments} {body : List Stmt} {scope : Scope} {dV kV doc pm cdv ct oc : Value} {an od : Option Addr}
    {osl : Array (Option Value)} {N ps : List Str} {sp : Sp} (lk : K.lookup f = some ⟨oc, od, .func (PySem.W.fnOf name qual params body scope dV kV doc pm an cdv ct), osl⟩) (hcd : PySem.W.codeIn K cdv qual = true) (S : FnScope N ps scope)
    (len : ∀ vs H Q E, sp vs H Q E → vs.length = ps.length)
    (hbody : ∀ (A : Around) (outer : List Env) (s : Shared) (H : Hp) (vs : List V) (Q : VK) (E : XK), Room k (A.deeper (envOfC qual scope s.heap.objs.size f cdv)) → sp vs H Q E →
      ∃ t, PSs (cxOf CX P w K mg base N qual scope f cdv A outer s H E) body t ∧ t { nx := fun _ H' => Q .non H', rt := Q } (start N vs) H) :
    FnOk P w K mg base CX (k + 1) f (PySem.W.fnOf name qual params body scope dV kV doc pm an cdv ct) ps sp := by
  refine ⟨len, fun A outer s H args us vs Q E hr e0 hb r hsp => ?_⟩
  have hl := len _ _ _ _ hsp
  have KX : K.In s.heap := e0.mod.kin.keeps fun b o e => (e0.bs b o e).1
  have lim : s.heap.NoLimit := e0.mod.nolimit.keeps fun b o e => (e0.bs b o e).1
  have hkind : ∀ y ∈ ps.zip us, scope.names.lookup y.1 = some .local ∨ (scope.names.lookup y.1 = some .cell ∧ ((cellsFrom (s.heap.objs.size + 1) scope.names []).lookup y.1).isSome = true) := fun ⟨n, v⟩ hy => by
    rcases S.par n (List.of_mem_zip hy).1 with q | q
    · exact .inl q
    · exact .inr ⟨q, PySem.W.cellsFrom_some _ _ _ (.inl q)⟩
  refine codeAny_call_function hr.depth (KX _ _ lk) rfl S.co S.gen rfl (PySem.W.codeRec_of KX hcd) (hb _ _ _ _ ?_)
  refine wpAny_newFunctionEnv_cells S.kind hkind fun env he s1 x => ?_
  subst he
  refine ⟨lim.keeps x.toInCall.keep, codeAny_func ?_⟩
  obtain ⟨t, ht, hq⟩ := hbody A outer s H vs Q E (hr.deeper _) hsp
  have I : Inv (cxOf CX P w K mg base N qual scope f cdv A outer s H E) [] (start N vs) H s1 := inv_start S hr.hd e0 hl r x
  refine wpAny_mono (ht [] s1 (start N vs) H _ I hq) (fun fl s' hs => ?_) fun e s' hs => hs
  have fin : ∀ {σ' : St} {H' : Hp} {v : V} {u : Value}, Inv (cxOf CX P w K mg base N qual scope f cdv A outer s H E) [] σ' H' s' → RelV v u → Q v H' → CE outer P w H s Q u s' :=
    fun {σ' H' v u} J rv q => ⟨v, H', J.os, J.bare, J.base, J.hok, rv, q⟩
  cases fl with
  | ret u =>
    obtain ⟨v, σ', H', J, rv, q⟩ := hs
    exact fin J rv q
  | next =>
    obtain ⟨σ', H', J, q⟩ := hs
    exact fin (v := V.non) (u := Value.none) J rfl q
  | brk =>
    obtain ⟨_, _, _, q⟩ := hs
    exact False.elim q
  | cont =>
    obtain ⟨_, _, _, q⟩ := hs
    exact False.elim q
end L2

namespace L2
open PySem PySem.Spec PyProof.Rows
section
variable {X : Cx} {x : Str} {p pos : Pos} {e : Expr} {es : List Expr} {t : TA} {id T : String} {r : List V → Hp → VK → Prop}

noncomputable def tCB (r : List V → Hp → VK → Prop) (t : TA) : TE := fun σ H Q => t σ H fun vs H1 => r vs H1 Q
theorem pe_callB (hc : CallR X (.builtin id) r) (hg : Gl X x) (hm : X.mg x = none) (hv : bootBuiltins x = some (.builtin id)) (ha : PA X (e :: es) t) (hn : x ≠ "__name__" := by decide) (hdb : (x == ("__debug__" : Str)) = false := by decide)
    (he : starEach (e :: es) X.env = (false, eval e X.env) :: starEach es X.env := by rfl) (hpl : (backTo pos (starEach es X.env)).any (·.1) = false := by rfl) : PE X (.Call (.Name x p) (e :: es) [] pos) (tCB r t) := by
  intro pins s σ H Q I h
  refine wpAny_Call_Name_kw (ld_blt I hg hm hv ?_ hn hdb)
  exact PyProof.Rows.callWith_builtin1 (thn (ha pos pins s σ H _ I h) fun us s1 ⟨vs, H1, I1, r1, q1⟩ => hc pins s1 σ H1 vs us Q I1 r1 q1) he hpl
theorem pe_callTy (hc : CallR X (.type T) r) (hg : Gl X x) (hm : X.mg x = none) (hv : bootBuiltins x = some (.type T)) (ha : PA X (e :: es) t) (hn : x ≠ "__name__" := by decide) (hdb : (x == ("__debug__" : Str)) = false := by decide)
    (he : starEach (e :: es) X.env = (false, eval e X.env) :: starEach es X.env := by rfl) (hpl : (backTo pos (starEach es X.env)).any (·.1) = false := by rfl) : PE X (.Call (.Name x p) (e :: es) [] pos) (tCB r t) := by
  intro pins s σ H Q I h
  refine wpAny_Call_Name_kw (ld_blt I hg hm hv ?_ hn hdb)
  exact PyProof.Rows.callWith_type1 (thn (ha pos pins s σ H _ I h) fun us s1 ⟨vs, H1, I1, r1, q1⟩ => hc pins s1 σ H1 vs us Q I1 r1 q1) he hpl
end
end L2

namespace HT
open PySem PyProof.Rows

section
open PySem.SeqAt
open PySem.AutoSeq1 (wpAny_loadPart')
open PySem.MeetsSeq PySem.MeetsSeq2 PySem.MeetsSeq3

end

section
variable {prog : Program} {w : World} {A : Around} {E : Value → Shared → Prop} {s : Shared}

theorem cat_tup {t b : Addr} {vs ws : List Value} {Q : Value → Shared → Prop} (ht : IsTup s.heap t vs.toArray) (hb : IsTup s.heap b ws.toArray) (hv : vs ≠ [])
    (h1 : ws = [] → Q (.ref t) s) (h2 : ws ≠ [] → Q (.ref s.heap.objs.size) { s with heap := s.heap.push { cls := .type "tuple", data := .seq (vs ++ ws).toArray } })
    (hsz : vs.length + ws.length ≤ sizeLine) : wpAny (model prog w) A (binaryOp .Add (.ref t) (.ref b)) Q E s := by
  obtain ⟨⟨cls, dd, data, sl⟩, ho, hc, n, hd⟩ := id ht
  obtain ⟨⟨cls2, dd2, data2, sl2⟩, ho2, hc2, n2, hd2⟩ := id hb
  simp only at hc hd hc2 hd2
  subst hc hd hc2 hd2
  have e : vs.toArray ++ ws.toArray = (vs ++ ws).toArray := by simp
  by_cases hw : ws = []
  · exact concat_meets ⟨_, ho, rfl⟩ ⟨_, ho2, rfl⟩ noFill_tuple_add seq_tuple_add PySem.F.slot_tuple_add PySem.F.entry_tuple_add (PySem.F.args_tuple_add_2 _ _)
      (tuple_addW1 t b vs.toArray ws.toArray n n2 dd dd2 sl sl2 (by simpa using hv) (by simp [hw])) ⟨ho, ho2, h1 hw⟩
  · refine concat_meets ⟨_, ho, rfl⟩ ⟨_, ho2, rfl⟩ noFill_tuple_add seq_tuple_add PySem.F.slot_tuple_add PySem.F.entry_tuple_add (PySem.F.args_tuple_add_2 _ _)
      (tuple_addW2 t b vs.toArray ws.toArray n n2 dd dd2 sl sl2 (by simpa using hv) (by simpa using hw) (by rw [List.size_toArray, List.size_toArray]; exact hsz)) ⟨ho, ho2, ?_⟩
    rw [e]
    exact h2 hw

noncomputable def sIx (n d : Nat) : Option Int → Nat
  | none => d
  | some v => if v < 0 then (v + (n : Int)).toNat else min v.toNat n
end
end HT

namespace L2
open PySem PySem.Spec PyProof.Rows

noncomputable abbrev TO := St → Hp → (Option Int → Hp → Prop) → Prop
noncomputable def PO (X : Cx) (e : Option Expr) (t : TO) : Prop :=
  ∀ (pins : List (Addr × Obj)) (s : Shared) (σ : St) (H : Hp) (Q : Option Int → Hp → Prop), Inv X pins σ H s → t σ H Q →
    wpAny (model X.prog X.w) X.A (evalPart e X.env) (fun u s' => ∃ o H', Inv X pins σ H' s' ∧ IsPart u o ∧ Q o H') X.xe s
noncomputable def tNoPart : TO := fun _ H Q => Q none H
noncomputable def tPart (t : TE) : TO := fun σ H Q => t σ H fun x H1 => ∃ i, x = .int i ∧ Q (some i) H1

section
variable {X : Cx} {e : Expr} {te : TE} {lo hi : Option Expr} {tl th : TO} {pos p2 : Pos}

theorem po_none : PO X none tNoPart := by
  intro pins s σ H Q I h
  rw [evalPart_none]
  exact wpAny_pure ⟨none, H, I, .none, h⟩
theorem po_some (h : PE X e te) : PO X (some e) (tPart te) := by
  intro pins s σ H Q I hw
  rw [evalPart_some]
  refine thn (h pins s σ H _ I hw) fun u s1 ⟨x, H1, I1, r1, q1⟩ => ?_
  obtain ⟨i, rfl, q⟩ := q1
  obtain ⟨t, rfl⟩ := r1
  exact ⟨some i, H1, I1, .int i t, q⟩

noncomputable def SlR (X : Cx) (r : V → Option Int → Option Int → Hp → VK → Prop) : Prop :=
  ∀ (pins : List (Addr × Obj)) (s : Shared) (σ : St) (H : Hp) (x : V) (v vl vu : Value) (lo hi : Option Int) (sl : Addr) (Q : VK), Inv X pins σ H s → RelV x v → s.heap.IsSliceOf sl vl vu .none → IsPart vl lo → IsPart vu hi → r x lo hi H Q →
    ∃ T id, typeLookup (.type T) "__getitem__" = pure (some (.builtin id)) ∧ s.TypeIs v T ∧ wpAny (model X.prog X.w) X.A (getItem v (.ref sl)) (EP X pins σ Q) X.xe s
theorem SlR.or {r r' : V → Option Int → Option Int → Hp → VK → Prop} (h : SlR X r) (h' : SlR X r') : SlR X (fun x lo hi H Q => r x lo hi H Q ∨ r' x lo hi H Q) := by
  intro pins s σ H x v vl vu lo hi sl Q I rx hs pl pu q
  rcases q with q | q
  · exact h pins s σ H x v vl vu lo hi sl Q I rx hs pl pu q
  · exact h' pins s σ H x v vl vu lo hi sl Q I rx hs pl pu q
noncomputable def tSl (r : V → Option Int → Option Int → Hp → VK → Prop) (te : TE) (tl th : TO) : TE := fun σ H Q => te σ H fun x H1 => tl σ H1 fun l H2 => th σ H2 fun u H3 => r x l u H3 Q
theorem pe_slice {r : V → Option Int → Option Int → Hp → VK → Prop} (hr : SlR X r) (he : PE X e te) (hl : PO X lo tl) (hu : PO X hi th) : PE X (.Subscript e (.Slice lo hi none p2) pos) (tSl r te tl th) := by
  intro pins s σ H Q I h
  refine Subscript_ (thn (he pins s σ H _ I h) fun v s1 ⟨x, H1, I1, r1, q1⟩ => ?_)
  refine wpAny_Slice (thn (hl pins s1 σ H1 _ I1 q1) fun vl s2 ⟨l, H2, I2, pl, q2⟩ => thn (hu pins s2 σ H2 _ I2 q2) fun vu s3 ⟨u, H3, I3, pu, q3⟩ => ?_)
  rw [evalPart_none]
  refine wpAny_pure ?_
  have I4 : Inv X pins σ H3 { s3 with heap := s3.heap.push { cls := .type "slice", data := .fields #[vl, vu, .none] } } := I3.kept (t' := s3.toks) fun b ob q => Heap.get?_push_of_some _ q
  obtain ⟨T, id, hT, ht, hg⟩ := hr pins { s3 with heap := s3.heap.push { cls := .type "slice", data := .fields #[vl, vu, .none] } } σ H3 x v vl vu l u s3.heap.objs.size Q I4 r1 (Heap.IsSliceOf.new ..) pl pu q3
  show wpAny (model X.prog X.w) X.A (subscriptTail e (.Slice lo hi none p2) v (.ref s3.heap.objs.size)) (EP X pins σ Q) X.xe { s3 with heap := s3.heap.push { cls := .type "slice", data := .fields #[vl, vu, .none] } }
  exact tail_any (ops := [.ref s3.heap.objs.size, v]) ht hT hg (by with_unfolding_all rfl)

noncomputable def cutV (xs : List V) (lo hi : Option Int) : List V := (xs.drop (HT.sIx xs.length 0 lo)).take (HT.sIx xs.length xs.length hi - HT.sIx xs.length 0 lo)
theorem cutV_length (xs : List V) (lo hi : Option Int) : (cutV xs lo hi).length ≤ xs.length := by
  unfold cutV
  rw [List.length_take, List.length_drop]
  omega
noncomputable def rCatT (K : PySem.W.Frag) : R2 := fun x y H Q => ∃ a b xs ys, x = .ref a ∧ y = .ref b ∧ SqT K H a xs ∧ SqT K H b ys ∧ xs ≠ [] ∧ xs.length + ys.length ≤ sizeLine ∧
  (ys = [] → Q (.ref a) H) ∧ (ys ≠ [] → ∀ p, H p = none → Q (.ref p) (upd H p (.tup (xs ++ ys))))
theorem Vals.nil_iff {xs : List V} {us : List Value} (r : Vals xs us) : us = [] ↔ xs = [] := by
  cases r with
  | nil => simp
  | cons _ _ => simp
theorem op_catT : OpR X (binaryOp .Add) (rCatT X.K) := by
  intro pins s σ H x y v u Q I rx ry h
  obtain ⟨a, b, xs, ys, rfl, rfl, ha, hb, hx, hz, q1, q2⟩ := h
  cases rx
  cases ry
  obtain ⟨its, r1, p1, _⟩ := I.tuple ha
  obtain ⟨its2, r2, p2, _⟩ := I.tuple hb
  refine HT.cat_tup p1 p2 (fun z => hx (r1.nil_iff.mp z)) (fun z => ⟨.ref a, H, I, rfl, q1 (r2.nil_iff.mp z)⟩) (fun z => ?_) (by rw [← r1.length, ← r2.length]; exact hz)
  refine ⟨.ref s.heap.objs.size, _, I.laid (t' := s.toks) (o := .tup (xs ++ ys)) (fun b ob q => Heap.get?_push_of_some _ q) (Nat.le_refl _) ?_, rfl, q2 (fun w => z (r2.nil_iff.mpr w)) _ (I.hok.fresh (Nat.le_refl _))⟩
  exact ⟨by rw [List.length_append]; exact hz, _, r1.append r2, IsTup.new _ _⟩
end
end L2

namespace L2
open PySem PySem.Spec PyProof.Rows

noncomputable def ixN (n : Nat) (i : Int) : Option Nat := if 0 ≤ i then (if i < n then some i.toNat else none) else if -(n : Int) ≤ i then some (i + n).toNat else none
noncomputable def atI {α : Type} (xs : List α) (i : Int) : Option α := (ixN xs.length i).bind fun j => xs[j]?
theorem ixN_seq {n : Nat} {i : Int} {j : Nat} (h : ixN n i = some j) : seqIndex? i n = some j ∧ j < n ∧ -(n : Int) ≤ i ∧ i < n := by
  unfold ixN at h
  by_cases h0 : 0 ≤ i
  · rw [if_pos h0] at h
    by_cases h1 : i < n
    · rw [if_pos h1] at h
      have e : i.toNat = j := Option.some.inj h
      exact ⟨by rw [seqIndex_of h0 h1, e], by omega, by omega, h1⟩
    · rw [if_neg h1] at h; cases h
  · rw [if_neg h0] at h
    by_cases h1 : -(n : Int) ≤ i
    · rw [if_pos h1] at h
      have e : (i + n).toNat = j := Option.some.inj h
      exact ⟨by rw [seqIndex_neg (by omega) h1, e], by omega, h1, by omega⟩
    · rw [if_neg h1] at h; cases h
theorem atI_get {α : Type} {xs : List α} {i : Int} {v : α} (h : atI xs i = some v) : ∃ j, seqIndex? i xs.length = some j ∧ xs[j]? = some v ∧ j < xs.length ∧ -(xs.length : Int) ≤ i ∧ i < xs.length := by
  unfold atI at h
  cases e : ixN xs.length i with
  | none => rw [e] at h; cases h
  | some j =>
    rw [e] at h
    obtain ⟨h1, h2, h3, h4⟩ := ixN_seq e
    exact ⟨j, h1, h, h2, h3, h4⟩
theorem atI_nat {α : Type} {xs : List α} {j : Nat} {v : α} (h : xs[j]? = some v) : atI xs (j : Int) = some v := by
  have hj : j < xs.length := (List.getElem?_eq_some_iff.mp h).1
  have e : ixN xs.length (j : Int) = some j := by
    unfold ixN
    rw [if_pos (by omega), if_pos (by omega)]; simp
  unfold atI; rw [e]; exact h
noncomputable def PlainIx (b : Expr) : Prop := ∀ o i, subscripted b false o i = operate [o, i] (getItem o i)
noncomputable def IxR (X : Cx) (r : R2) : Prop :=
  ∀ (value slice : Expr) (pins : List (Addr × Obj)) (s : Shared) (σ : St) (H : Hp) (x y : V) (v u : Value) (Q : VK), Inv X pins σ H s → RelV x v → RelV y u → r x y H Q →
    subscripted slice false v u = operate [v, u] (getItem v u) → wpAny (model X.prog X.w) X.A (subscriptTail value slice v u) (EP X pins σ Q) X.xe s
noncomputable def MtR (X : Cx) (id : String) (r : V → List V → Hp → VK → Prop) : Prop :=
  ∀ (pins : List (Addr × Obj)) (s : Shared) (σ : St) (H : Hp) (x : V) (xs : List V) (v : Value) (us : List Value) (Q : VK), Inv X pins σ H s → RelV x v → Vals xs us → r x xs H Q →
    wpAny (model X.prog X.w) X.A (call (.builtin id) (v :: us)) (EP X pins σ Q) X.xe s
section
variable {X : Cx} {a b : Expr} {ta tb : TE} {pos : Pos}
theorem IxR.or {r r' : R2} (h : IxR X r) (h' : IxR X r') : IxR X (fun x y H Q => r x y H Q ∨ r' x y H Q) := by
  intro value slice pins s σ H x y v u Q I rx ry q hs
  rcases q with q | q
  · exact h value slice pins s σ H x y v u Q I rx ry q hs
  · exact h' value slice pins s σ H x y v u Q I rx ry q hs
theorem MtR.or {id : String} {r r' : V → List V → Hp → VK → Prop} (h : MtR X id r) (h' : MtR X id r') : MtR X id (fun x xs H Q => r x xs H Q ∨ r' x xs H Q) := by
  intro pins s σ H x xs v us Q I rx rs q
  rcases q with q | q
  · exact h pins s σ H x xs v us Q I rx rs q
  · exact h' pins s σ H x xs v us Q I rx rs q
theorem pe_ix {r : R2} (hr : IxR X r) (ha : PE X a ta) (hb : PE X b tb) (hs : PlainIx b) : PE X (.Subscript a b pos) (tOp r ta tb) := by
  intro pins s σ H Q I h
  exact Subscript_ (binT ha hb I h fun v u s2 x y H2 I2 rx ry q => hr a b pins s2 σ H2 x y v u Q I2 rx ry q (hs _ _))

noncomputable def rIxL (K : PySem.W.Frag) : R2 := fun x y H Q => ∃ p xs i v, x = .ref p ∧ y = .int i ∧ SqL K H p xs ∧ atI xs i = some v ∧ Q v H
noncomputable def rIxT (K : PySem.W.Frag) : R2 := fun x y H Q => ∃ p xs i v, x = .ref p ∧ y = .int i ∧ SqT K H p xs ∧ atI xs i = some v ∧ Q v H
noncomputable def rIxS : R2 := fun x y H Q => ∃ z i c, x = .str z ∧ y = .int i ∧ z.length ≤ sizeLine ∧ atI z.cps.toList i = some c ∧ Q (.str ⟨#[c]⟩) H
theorem ix_list : IxR X (rIxL X.K) := by
  intro value slice pins s σ H x y v u Q I rx ry h hs
  obtain ⟨p, xs, i, z, rfl, rfl, hq, he, q⟩ := h
  cases rx
  obtain ⟨t, rfl⟩ := ry
  obtain ⟨its, r, pl, hz⟩ := I.list hq
  obtain ⟨j, h1, h2, h3, h4, h5⟩ := atI_get he
  obtain ⟨w, ew, rw'⟩ := r.get h2
  have hl := r.length
  have hn := line63
  have fin : EP X pins σ Q w s := ⟨z, H, I, rw', q⟩
  by_cases h0 : 0 ≤ i
  · have hj : i.toNat = j := by
      rw [seqIndex_of h0 h5] at h1
      exact Option.some.inj h1
    exact item_listR pl.isList h0 (by omega) (by rw [hj]; simpa using ew) fin hs
  · have hj : (i + (its.toArray.size : Int)).toNat = j := by
      rw [seqIndex_neg (by omega) h4] at h1
      rw [List.size_toArray, ← hl]
      exact Option.some.inj h1
    exact subscriptTail_builtinR (x := w) pl.isList.typeIs slot_list_getitem.lookup
      (wpAny_getItem_list_neg (Q := fun r s' => r = w ∧ EP X pins σ Q r s') pl.isList (by omega) (by rw [List.size_toArray] <;> omega) (by omega) (by rw [hj]; simpa using ew) ⟨rfl, fin⟩) hs
theorem ix_tup : IxR X (rIxT X.K) := by
  intro value slice pins s σ H x y v u Q I rx ry h hs
  obtain ⟨p, xs, i, z, rfl, rfl, hq, he, q⟩ := h
  cases rx
  obtain ⟨t, rfl⟩ := ry
  obtain ⟨its, r, pl, hz⟩ := I.tuple hq
  obtain ⟨j, h1, h2, h3, h4, h5⟩ := atI_get he
  obtain ⟨w, ew, rw'⟩ := r.get h2
  have hl := r.length
  have hn := line63
  have fin : EP X pins σ Q w s := ⟨z, H, I, rw', q⟩
  exact subscriptTail_builtinR (x := w) pl.typeIs slot_tuple_getitem.lookup
    (getItem_tuple (j := j) (Q := fun r s' => r = w ∧ EP X pins σ Q r s') pl (by omega) (by omega) (by rw [List.size_toArray, ← hl]; exact h1) (by simpa using ew) ⟨rfl, fin⟩) hs
theorem ix_str : IxR X rIxS := by
  intro value slice pins s σ H x y v u Q I rx ry h hs
  obtain ⟨z, i, c, rfl, rfl, hz, he, q⟩ := h
  obtain ⟨t, rfl⟩ := rx
  obtain ⟨t', rfl⟩ := ry
  obtain ⟨j, h1, h2, h3, h4, h5⟩ := atI_get he
  have hl : z.cps.toList.length = z.length := by simp [Str.length]
  rw [hl] at h1 h4 h5
  have hn := line63
  exact tail_any (typeIs_str s z t) slot_str_getitem.lookup (getItem_str (c := c) (by
    have e1 : decide (i < -(2 ^ 63 : Int)) = false := decide_eq_false (by omega)
    have e2 : decide (i ≥ 2 ^ 63) = false := decide_eq_false (by omega)
    rw [e1, e2, Bool.or_false]) (by rw [h1]; simpa using h2) ⟨.str ⟨#[c]⟩, H, I.tok _, ⟨_, rfl⟩, q⟩) hs
theorem mapSeq_set (its : List Value) (n j : Nat) (u : Value) : Obj.mapSeq (·.setIfInBounds j u) { cls := .type "list", data := .seq its.toArray n } = { cls := .type "list", data := .seq (its.set j u).toArray n } := by
  simp [Obj.mapSeq]
theorem Inv.lst {pins : List (Addr × Obj)} {σ : St} {H : Hp} {s : Shared} {p : Addr} {xs : List V} (I : Inv X pins σ H s) (h : H p = some (.lst xs)) :
    ∃ (its : List Value) (n : Nat), Vals xs its ∧ s.heap.get? p = some { cls := .type "list", data := .seq its.toArray n } ∧ xs.length ≤ sizeLine := by
  obtain ⟨z, its, n, r, e⟩ := I.hok p _ h
  exact ⟨its, n, r, e, z⟩
theorem Inv.lstUpd {pins : List (Addr × Obj)} {σ : St} {H : Hp} {s : Shared} {p : Addr} {xs ys : List V} {its its' : List Value} {n n' : Nat} {f : Obj → Obj} (I : Inv X pins σ H s) (h : H p = some (.lst xs))
    (ho : s.heap.get? p = some { cls := .type "list", data := .seq its.toArray n }) (hf : f { cls := .type "list", data := .seq its.toArray n } = { cls := .type "list", data := .seq its'.toArray n' }) (r : Vals ys its') (hz : ys.length ≤ sizeLine) (t : Nat) :
    Inv X pins σ (upd H p (.lst ys)) { s with heap := s.heap.update p f, toks := t } := by
  have e : (s.heap.update p f).get? p = some { cls := .type "list", data := .seq its'.toArray n' } := by
    rw [Heap.get?_update_self f ho (by rw [hf] <;> rfl), hf]
  refine I.write (x := p) (e := p) (by rw [h]; trivial) (.inl rfl) (fun b u hb q => (Heap.get?_update_other _ _ (Ne.symm hb)).trans q) ⟨_, e⟩ ?_
  exact ⟨hz, its', n', r, e⟩
noncomputable def rSetL : V → V → V → Hp → (Hp → Prop) → Prop := fun o i v H Q => ∃ p xs k j, o = .ref p ∧ i = .int k ∧ H p = some (.lst xs) ∧ ixN xs.length k = some j ∧ Q (upd H p (.lst (xs.set j v)))
theorem set_list : PSet X rSetL := by
  intro pins s σ H o i v ov iv u Q I ro ri rv h
  obtain ⟨p, xs, k, j, rfl, rfl, hp, hj, q⟩ := h
  cases ro
  obtain ⟨t, rfl⟩ := ri
  obtain ⟨its, n, r, ho, hz⟩ := I.lst hp
  obtain ⟨h1, h2, h3, h4⟩ := ixN_seq hj
  have hl := r.length
  have hn := line63
  have I' : Inv X pins σ (upd H p (.lst (xs.set j v))) { s with heap := s.heap.update p (Obj.mapSeq (·.setIfInBounds j u)) } :=
    I.lstUpd hp ho (mapSeq_set its n j u) (r.set rv j) (by rw [List.length_set]; exact hz) s.toks
  by_cases h0 : 0 ≤ k
  · have hk : k.toNat = j := by
      rw [seqIndex_of h0 h4] at h1
      exact Option.some.inj h1
    exact PySem.W.ki_setAt ho h0 (by omega) (by rw [List.size_toArray, ← hl]; exact h4) (by rw [hk]; exact ⟨_, I', q⟩)
  · have hk : (k + (its.toArray.size : Int)).toNat = j := by
      rw [seqIndex_neg (by omega) h3] at h1
      rw [List.size_toArray, ← hl]
      exact Option.some.inj h1
    exact PySem.W.ki_setBack ho (by omega) (by rw [List.size_toArray, ← hl]; exact h3) (by omega) (by rw [hk]; exact ⟨_, I', q⟩)

theorem slice_bounds (lo hi : Option Int) (n : Nat) : (sliceBounds lo hi none n).1 = ((HT.sIx n 0 lo : Nat) : Int) ∧ (sliceBounds lo hi none n).2.1 = ((HT.sIx n n hi : Nat) : Int) ∧ (sliceBounds lo hi none n).2.2 = 1 := by
  refine ⟨?_, ?_, rfl⟩
  · cases lo with
    | none => simp [sliceBounds, HT.sIx]
    | some i =>
      simp only [sliceBounds, HT.sIx, Option.getD_none, show (1 : Int) > 0 by decide, if_true]
      by_cases h : i < 0
      · simp only [h, if_true] <;> omega
      · simp only [h, if_false] <;> omega
  · cases hi with
    | none => simp [sliceBounds, HT.sIx]
    | some i =>
      simp only [sliceBounds, HT.sIx, Option.getD_none, show (1 : Int) > 0 by decide, if_true]
      by_cases h : i < 0
      · simp only [h, if_true] <;> omega
      · simp only [h, if_false] <;> omega
theorem slicePick_cut (its : List Value) (lo hi : Option Int) : slicePick its.toArray lo hi none = ((its.drop (HT.sIx its.length 0 lo)).take (HT.sIx its.length its.length hi - HT.sIx its.length 0 lo)).toArray := by
  obtain ⟨h1, h2, h3⟩ := slice_bounds lo hi its.toArray.size
  unfold slicePick
  rw [h1, h2, h3]
  simp only [sliceRange_one, pick_run, List.size_toArray] <;> rfl
noncomputable def rSlL (K : PySem.W.Frag) : V → Option Int → Option Int → Hp → VK → Prop := fun x lo hi H Q => ∃ a xs, x = .ref a ∧ SqL K H a xs ∧ ∀ p, H p = none → Q (.ref p) (upd H p (.lst (cutV xs lo hi)))
theorem sl_list : SlR X (rSlL X.K) := by
  intro pins s σ H x v vl vu lo hi sl Q I rx hs pl pu h
  obtain ⟨a, xs, rfl, hx, q⟩ := h
  cases rx
  obtain ⟨its, r, ht, hz⟩ := I.list hx
  have hlen := r.length
  refine ⟨"list", _, slot_list_getitem.lookup, ht.isList.typeIs, ?_⟩
  refine wpAny_getItem_list_slice ht.isList hs pl pu .none (by simp) ?_ (by rw [List.size_toArray] <;> omega)
  rw [slicePick_cut, ← hlen]
  refine ⟨.ref s.heap.objs.size, _, I.laid (t' := s.toks) (o := .lst (cutV xs lo hi)) (fun b ob q => Heap.get?_push_of_some _ q) (Nat.le_refl _) ?_, rfl, q _ (I.hok.fresh (Nat.le_refl _))⟩
  exact ⟨Nat.le_trans (cutV_length xs lo hi) hz, _, 0, (r.drop (HT.sIx xs.length 0 lo)).take (HT.sIx xs.length xs.length hi - HT.sIx xs.length 0 lo), Heap.get?_push_size _ rfl⟩

noncomputable def flatV : V → Bool
  | .non => true
  | .bl _ => true
  | .int _ => true
  | .str _ => true
  | _ => false
noncomputable def eqV : V → V → Bool
  | .non, .non => true
  | .bl a, .bl b => a == b
  | .bl a, .int b => (if a then 1 else 0) == b
  | .int a, .bl b => a == (if b then 1 else 0)
  | .int a, .int b => a == b
  | .str a, .str b => a == b
  | _, _ => false
theorem eqAt_V {A : Around} {s : Shared} {y x : V} {u v : Value} (ry : RelV y u) (rx : RelV x v) (fy : flatV y = true) (fx : flatV x = true) : SeqAt.EqAt A s u v (eqV y x) := by
  cases y with
  | non =>
    cases ry
    cases x with
    | non => cases rx; exact SeqAt.EqAt.same _
    | bl b => cases rx; exact SeqAt.EqAt.none_bool b
    | int b => obtain ⟨t, rfl⟩ := rx; exact SeqAt.EqAt.none_int b t
    | str b => obtain ⟨t, rfl⟩ := rx; exact SeqAt.EqAt.none_str b t
    | _ => exact absurd (show false = true from fx) Bool.false_ne_true
  | bl a =>
    cases ry
    cases x with
    | non => cases rx; exact SeqAt.EqAt.bool_none a
    | bl b => cases rx; exact SeqAt.EqAt.bool_bool a b
    | int b => obtain ⟨t, rfl⟩ := rx; exact SeqAt.EqAt.bool_int a b t
    | str b => obtain ⟨t, rfl⟩ := rx; exact SeqAt.EqAt.bool_str a b t
    | _ => exact absurd (show false = true from fx) Bool.false_ne_true
  | int a =>
    obtain ⟨t', rfl⟩ := ry
    cases x with
    | non => cases rx; exact SeqAt.EqAt.int_none a t'
    | bl b => cases rx; exact SeqAt.EqAt.int_bool a t' b
    | int b => obtain ⟨t, rfl⟩ := rx; exact SeqAt.EqAt.int_int a t' b t
    | str b => obtain ⟨t, rfl⟩ := rx; exact SeqAt.EqAt.int_str a t' b t
    | _ => exact absurd (show false = true from fx) Bool.false_ne_true
  | str a =>
    obtain ⟨t', rfl⟩ := ry
    cases x with
    | non => cases rx; exact SeqAt.EqAt.str_none a t'
    | bl b => cases rx; exact SeqAt.EqAt.str_bool a t' b
    | int b => obtain ⟨t, rfl⟩ := rx; exact SeqAt.EqAt.str_int a t' b t
    | str b => obtain ⟨t, rfl⟩ := rx; exact SeqAt.EqAt.str_str a t' b t
    | _ => exact absurd (show false = true from fx) Bool.false_ne_true
  | _ => exact absurd (show false = true from fy) Bool.false_ne_true
noncomputable def eqU (x : V) (u : Value) : Bool := match u with
  | .none => eqV .non x
  | .bool b => eqV (.bl b) x
  | .int i _ => eqV (.int i) x
  | .str z _ => eqV (.str z) x
  | _ => false
theorem eqU_of {x y : V} {u : Value} (r : RelV y u) (f : flatV y = true) : eqU x u = eqV y x := by
  cases y with
  | non => cases r; rfl
  | bl b => cases r; rfl
  | int i => obtain ⟨t, rfl⟩ := r; rfl
  | str z => obtain ⟨t, rfl⟩ := r; rfl
  | _ => exact absurd (show false = true from f) Bool.false_ne_true
theorem any_eqU {x : V} : ∀ {xs : List V} {us : List Value}, Vals xs us → xs.all flatV = true → us.any (eqU x) = xs.any fun y => eqV y x
  | _, _, .nil, _ => rfl
  | y :: xs, u :: us, .cons r t, f => by
    rw [List.all_cons, Bool.and_eq_true] at f
    rw [List.any_cons, List.any_cons, eqU_of r f.1, any_eqU t f.2]
theorem mem_eqAt {A : Around} {s : Shared} {x : V} {v : Value} (rx : RelV x v) (fx : flatV x = true) : ∀ {xs : List V} {us : List Value}, Vals xs us → xs.all flatV = true → ∀ u ∈ us, SeqAt.EqAt A s u v (eqU x u)
  | _, _, .nil, _ => fun u hu => by cases hu
  | y :: xs, u :: us, .cons r t, f => fun u' hu => by
    rw [List.all_cons, Bool.and_eq_true] at f
    rcases List.mem_cons.mp hu with rfl | hu
    · rw [eqU_of r f.1]; exact eqAt_V r rx f.1 fx
    · exact mem_eqAt rx fx t f.2 u' hu
noncomputable def inV (x : V) (xs : List V) : Bool := xs.any fun y => eqV y x
noncomputable def rIn (K : PySem.W.Frag) (neg : Bool) : R2 := fun x y H Q => ∃ p xs, y = .ref p ∧ (SqL K H p xs ∨ SqT K H p xs) ∧ flatV x = true ∧ xs.all flatV = true ∧ Q (.bl (if neg then !inV x xs else inV x xs)) H
theorem op_in_seq : OpR X (compareOp .In) (rIn X.K false) := by
  intro pins s σ H x y v u Q I rx ry h
  obtain ⟨p, xs, rfl, hq, fx, fs, q⟩ := h
  cases ry
  rcases hq with hq | hq
  · obtain ⟨its, r, pl, hz⟩ := I.list hq
    refine SeqAt.in_listAt (eqU x) pl.isList (fun w hw => mem_eqAt rx fx r fs w (by simpa using hw)) ⟨.bl _, H, I, rfl, ?_⟩
    rw [show its.toArray.any (eqU x) = its.any (eqU x) by simp, any_eqU r fs]
    exact q
  · obtain ⟨its, r, pl, hz⟩ := I.tuple hq
    refine SeqAt.in_tupleAt (eqU x) pl (fun w hw => mem_eqAt rx fx r fs w (by simpa using hw)) ⟨.bl _, H, I, rfl, ?_⟩
    rw [show its.toArray.any (eqU x) = its.any (eqU x) by simp, any_eqU r fs]
    exact q
theorem call_len_seq : CallR X (.builtin "len") (fun xs H Q => ∃ p ys, xs = [.ref p] ∧ (SqL X.K H p ys ∨ SqT X.K H p ys) ∧ Q (.int ys.length) H) := by
  intro pins s σ H xs us Q I r h
  obtain ⟨p, ys, rfl, hq, q⟩ := h
  obtain ⟨u, rfl, rx⟩ := vals1 r
  cases rx
  have hn := line63
  rcases hq with hq | hq
  · obtain ⟨its, r', pl, hz⟩ := I.list hq
    have hlen := r'.length
    exact Calls.call_len_list pl.isList (by simp only [List.size_toArray] <;> omega) ⟨.int ys.length, H, I.tok _, ⟨s.toks + 1, by rw [List.size_toArray, hlen]⟩, q⟩
  · obtain ⟨its, r', pl, hz⟩ := I.tuple hq
    have hlen := r'.length
    exact len_tuple pl (by simp only [List.size_toArray] <;> omega) ⟨.int ys.length, H, I.tok _, ⟨s.toks + 1, by rw [List.size_toArray, hlen]⟩, q⟩
theorem CallR.or {f : Value} {r r' : List V → Hp → VK → Prop} (h : CallR X f r) (h' : CallR X f r') : CallR X f (fun xs H Q => r xs H Q ∨ r' xs H Q) := by
  intro pins s σ H xs us Q I rs q
  rcases q with q | q
  · exact h pins s σ H xs us Q I rs q
  · exact h' pins s σ H xs us Q I rs q
theorem call_list_of : CallR X (.type "list") (fun xs H Q => ∃ p ys, xs = [.ref p] ∧ (SqL X.K H p ys ∨ SqT X.K H p ys) ∧ ∀ l, H l = none → Q (.ref l) (upd H l (.lst ys))) := by
  intro pins s σ H xs us Q I r h
  obtain ⟨p, ys, rfl, hq, q⟩ := h
  obtain ⟨u, rfl, rx⟩ := vals1 r
  cases rx
  have fin : ∀ (its : List Value), Vals ys its → ys.length ≤ sizeLine → ∀ (h' : Heap) (c' : Nat), (∀ b o', s.heap.get? b = some o' → h'.get? b = some o') →
      h'.get? s.heap.objs.size = some { cls := .type "list", dict := none, data := .seq its.toArray c', slots := #[] } → EP X pins σ Q (.ref s.heap.objs.size) { s with heap := h' } := fun its r' hz h' c' kp e =>
    ⟨.ref s.heap.objs.size, _, I.laid (t' := s.toks) kp (Nat.le_refl _) (show ObjOk X.prog X.w _ h' _ (.lst ys) from ⟨hz, its, c', r', e⟩), rfl, q _ (I.hok.fresh (Nat.le_refl _))⟩
  rcases hq with hq | hq
  · obtain ⟨its, r', pl, hz⟩ := I.list hq
    have hlen := r'.length
    obtain ⟨o, ho, hc, n, hd⟩ := pl.isList
    exact call_list_seq p (.inl rfl) ho hc hd (fun h' c' kp e => fin its r' hz h' c' kp e) (by simp only [List.size_toArray] <;> omega)
  · obtain ⟨its, r', pl, hz⟩ := I.tuple hq
    have hlen := r'.length
    obtain ⟨o, ho, hc, n, hd⟩ := pl
    exact call_list_seq p (.inr rfl) ho hc hd (fun h' c' kp e => fin its r' hz h' c' kp e) (by simp only [List.size_toArray] <;> omega)
theorem call_tuple_of : CallR X (.type "tuple") (fun xs H Q => ∃ p ys, xs = [.ref p] ∧ ((SqL X.K H p ys ∧ ∀ l, H l = none → Q (.ref l) (upd H l (.tup ys))) ∨ (SqT X.K H p ys ∧ Q (.ref p) H))) := by
  intro pins s σ H xs us Q I r h
  obtain ⟨p, ys, rfl, h⟩ := h
  obtain ⟨u, rfl, rx⟩ := vals1 r
  cases rx
  rcases h with ⟨hq, q⟩ | ⟨hq, q⟩
  · obtain ⟨its, r', pl, hz⟩ := I.list hq
    have hlen := r'.length
    refine call_tuple_list pl.isList (fun h' kp => ?_) (by simp only [List.size_toArray] <;> omega)
    have I1 : Inv X pins σ H { s with heap := h' } := I.kept (t' := s.toks) kp
    have I2 : Inv X pins σ (upd H h'.objs.size (.tup ys)) { s with heap := h'.push { cls := .type "tuple", data := .seq its.toArray } } :=
      I1.laid (t' := s.toks) (fun b o e => Heap.get?_push_of_some _ e) (Nat.le_refl _) (show ObjOk X.prog X.w _ _ _ (.tup ys) from ⟨hz, its, r', IsTup.new _ _⟩)
    exact ⟨.ref h'.objs.size, _, I2, rfl, q _ (I1.hok.fresh (Nat.le_refl _))⟩
  · obtain ⟨its, r', pl, hz⟩ := I.tuple hq
    exact call_tuple_same pl ⟨.ref p, H, I, rfl, q⟩

noncomputable def tyV (K : PySem.W.Frag) (T : String) (x : V) (H : Hp) : Prop := match x with
  | .str _ => T = "str"
  | .int _ => T = "int"
  | .ref p => (T = "list" ∧ ∃ xs, SqL K H p xs) ∨ (T = "tuple" ∧ ∃ o, K.lookup p = some o ∧ o.cls = .type "tuple" ∧ o.dict = none) ∨
      (T = "dict" ∧ ((∃ kvs, H p = some (.dK kvs)) ∨ ∃ kvs, H p = some (.dT kvs))) ∨ (T = "set" ∧ ∃ S n, H p = some (.set S n))
  | _ => False
theorem tyV_is {pins : List (Addr × Obj)} {σ : St} {H : Hp} {s : Shared} {T : String} {x : V} {v : Value} (I : Inv X pins σ H s) (r : RelV x v) (ty : tyV X.K T x H) :
    s.TypeIs v T ∧ ∀ a, v = .ref a → ∃ ob, s.heap.get? a = some ob ∧ ob.dict = none := by
  cases x with
  | str z =>
    obtain ⟨t, rfl⟩ := r
    cases (show T = "str" from ty)
    exact ⟨typeIs_str s z t, fun _ e => nomatch e⟩
  | int i =>
    obtain ⟨t, rfl⟩ := r
    cases (show T = "int" from ty)
    exact ⟨typeIs_int s i t, fun _ e => nomatch e⟩
  | ref p =>
    cases r
    rcases ty with ⟨rfl, xs, hq⟩ | ⟨rfl, o, hk, hc, hd⟩ | ⟨rfl, hk⟩ | ⟨rfl, S, n, hk⟩
    · obtain ⟨its, _, pl, _⟩ := I.list hq
      refine ⟨pl.isList.typeIs, fun a e => ?_⟩
      cases e
      obtain ⟨o, n, e, c, hd, _⟩ := pl
      exact ⟨o, e, hd⟩
    · refine ⟨⟨o, I.kIn p o hk, hc⟩, fun a e => ?_⟩
      cases e
      exact ⟨o, I.kIn _ o hk, hd⟩
    · have z : ∃ o, s.heap.get? p = some o ∧ o.ExactDict := by
        rcases hk with ⟨kvs, hk⟩ | ⟨kvs, hk⟩
        · obtain ⟨_, _, _, _, o, _, _, e, ex, _⟩ := I.hok p _ hk
          exact ⟨o, e, ex⟩
        · obtain ⟨_, _, _, _, o, _, _, e, ex, _⟩ := I.hok p _ hk
          exact ⟨o, e, ex⟩
      obtain ⟨o, e, ex⟩ := z
      refine ⟨⟨o, e, ex.1⟩, fun a e2 => ?_⟩
      cases e2
      exact ⟨o, e, ex.2.1⟩
    · obtain ⟨o, _, _, _, e, ex, _⟩ := I.hok p _ hk
      refine ⟨⟨o, e, ex.1⟩, fun a e2 => ?_⟩
      cases e2
      exact ⟨o, e, ex.2.1⟩
  | _ => exact False.elim ty
noncomputable def tBM (K : PySem.W.Frag) (T : String) (r : V → List V → Hp → VK → Prop) (to : TE) (t : TA) : TE := fun σ H Q => to σ H fun x H1 => tyV K T x H1 ∧ t σ H1 fun xs H2 => r x xs H2 Q
variable {o e : Expr} {es : List Expr} {to : TE} {t : TA} {name : Str} {apos cpos : Pos} {T id : String} {r : V → List V → Hp → VK → Prop}
theorem pe_bm (pa : PlainAttrs T) (slot : Slot T name id) (hty : typeOf (.builtin id) = pure (.type "method_descriptor")) (hm : MtR X id r) (ho : PE X o to) (ha : PA X (e :: es) t)
    (hbase : attributeBase o name X.env (eval o X.env) = eval o X.env := by rfl)
    (hfew : ((backTo cpos (starEach (e :: es) X.env)).all (fun x => !x.1) && (backToKw cpos (keywordEach [] X.env)).all (fun x => x.1.isSome)
      && decide ((e :: es).length + ([] : List Keyword).length + (if ([] : List Keyword).isEmpty then 0 else 1) < 30)) = true := by rfl)
    (hline : (apos.endLine == cpos.line) = true := by rfl) (hs : starEach (e :: es) X.env = (false, eval e X.env) :: starEach es X.env := by rfl) (hplain : (backTo cpos (starEach es X.env)).any (·.1) = false := by rfl) :
    PE X (.Call (.Attribute o name apos) (e :: es) [] cpos) (tBM X.K T r to t) := by
  intro pins s σ H Q I h
  refine wpAny_Call_method_late hbase hfew hline rfl (thn (ho pins s σ H _ I h) fun v s1 ⟨x, H1, I1, r1, ty, q1⟩ => ?_)
  obtain ⟨h1, h2⟩ := tyV_is I1 r1 ty
  refine ⟨T, id, pa, slot, hty, h1, h2, ?_⟩
  have hA := ha cpos pins s1 σ H1 _ I1 q1
  rw [hs] at hA ⊢
  refine Calls.callWith_builtin (by show (false || (backTo cpos (starEach es X.env)).any (·.1)) = false; rw [hplain] <;> rfl) (Calls.evalArgs_plain ?_)
  exact thn hA fun us s2 ⟨vs, H2, I2, r2, q2⟩ => hm pins s2 σ H2 x vs v us Q I2 r1 r2 q2
end
end L2

namespace L2
open PySem PySem.Spec PyProof.Rows

noncomputable def MtM (X : Cx) (id : String) (r : V → List V → Hp → VK → Prop) : Prop :=
  ∀ (pins : List (Addr × Obj)) (s : Shared) (σ : St) (H : Hp) (x : V) (xs : List V) (v : Value) (us : List Value) (Q : VK), Inv X pins σ H s → RelV x v → Vals xs us → r x xs H Q →
    wpAny (model X.prog X.w) X.A (call (.builtin id) (v :: us)) (EP X pins σ Q) X.xe s

theorem Vals.one : ∀ {x : V} {us : List Value}, Vals [x] us → ∃ u, us = [u] ∧ RelV x u
  | _, _, .cons r .nil => ⟨_, rfl, r⟩
theorem Vals.two : ∀ {x y : V} {us : List Value}, Vals [x, y] us → ∃ u v, us = [u, v] ∧ RelV x u ∧ RelV y v
  | _, _, _, .cons r (.cons q .nil) => ⟨_, _, rfl, r, q⟩
theorem Vals.zero : ∀ {us : List Value}, Vals [] us → us = []
  | _, .nil => rfl
theorem Vals.dropLast {xs : List V} {us : List Value} (h : Vals xs us) : Vals xs.dropLast us.dropLast := by
  induction h with
  | nil => exact .nil
  | cons r t ih =>
    cases t with
    | nil => exact .nil
    | cons q t' => exact .cons r ih
theorem Vals.reverse {xs : List V} {us : List Value} (h : Vals xs us) : Vals xs.reverse us.reverse := by
  induction h with
  | nil => exact .nil
  | cons r t ih => rw [List.reverse_cons, List.reverse_cons]; exact Vals.append ih (.cons r .nil)
theorem Vals.rep {xs : List V} {us : List Value} (h : Vals xs us) : ∀ k : Nat, Vals (List.replicate k xs).flatten (List.replicate k us).flatten
  | 0 => .nil
  | k + 1 => by
    rw [List.replicate_succ, List.replicate_succ, List.flatten_cons, List.flatten_cons]
    exact Vals.append h (Vals.rep h k)
section
variable {X : Cx} {pins : List (Addr × Obj)} {σ : St} {H : Hp} {s : Shared} {l b : Addr} {xs ys zs : List V}

theorem Inv.lset {its its' : List Value} {n : Nat} {f : Array Value → Array Value} {t' : Nat} (I : Inv X pins σ H s) (hH : H l = some (.lst xs))
    (e : s.heap.get? l = some { cls := .type "list", data := .seq its.toArray n }) (hf : f its.toArray = its'.toArray) (hv : Vals ys its') (hz : ys.length ≤ sizeLine) :
    Inv X pins σ (upd H l (.lst ys)) { s with heap := s.heap.update l (Obj.mapSeq f), toks := t' } := by
  have q := PySem.IsL.update e f
  rw [hf] at q
  refine I.write (x := l) (e := l) (by rw [hH]; exact trivial) (.inl rfl) (fun b' u hb hu => (Heap.get?_update_other s.heap (Obj.mapSeq f) (Ne.symm hb)).trans hu) ⟨_, q⟩ ?_
  exact ⟨hz, its', _, hv, q⟩
theorem Inv.lnew {its : List Value} {t' : Nat} (I : Inv X pins σ H s) (hv : Vals ys its) (hz : ys.length ≤ sizeLine) :
    Inv X pins σ (upd H s.heap.objs.size (.lst ys)) { s with heap := s.heap.push { cls := .type "list", data := .seq its.toArray }, toks := t' } :=
  I.laid (fun _ _ q => Heap.get?_push_of_some _ q) (Nat.le_refl _) ⟨hz, its, 0, hv, Heap.get?_push_size _ rfl⟩
theorem Inv.fresh (I : Inv X pins σ H s) : H s.heap.objs.size = none := I.hok.fresh (Nat.le_refl _)
theorem Inv.lstM (I : Inv X pins σ H s) (hH : H l = some (.lst xs)) : xs.length ≤ sizeLine ∧ ∃ (its : List Value) (n : Nat), Vals xs its ∧ xs.length = its.length ∧ s.heap.get? l = some { cls := .type "list", data := .seq its.toArray n } := by
  obtain ⟨z, its, n, r, e⟩ := I.hok l _ hH
  exact ⟨z, its, n, r, r.length, e⟩

end

section
variable {X : Cx}

noncomputable def rAppend : V → List V → Hp → VK → Prop := fun x vs H Q => ∃ l xs y, x = .ref l ∧ vs = [y] ∧ H l = some (.lst xs) ∧ xs.length < sizeLine ∧ Q .non (upd H l (.lst (xs ++ [y])))
theorem mt_append : MtM X "list.append" rAppend := by
  intro pins s σ H x vs v us Q I rx rv h
  obtain ⟨l, xs, y, rfl, rfl, hH, hz, q⟩ := h
  cases rx
  obtain ⟨u, rfl, ru⟩ := rv.one
  obtain ⟨z, its, n, r, hl, e⟩ := I.lstM hH
  refine call_meets F.slot_list_append ⟨_, e, rfl⟩ F.entry_list_append (F.args_list_append_2 _ _) (PySem.list_append l its.toArray n u (by rw [List.size_toArray]; omega)) ⟨e, ?_⟩
  refine ⟨.non, _, I.lset (its' := its ++ [u]) hH e (by simp) (r.append (.cons ru .nil)) ?_, rfl, q⟩
  rw [List.length_append, List.length_singleton]
  omega

noncomputable def rCat : R2 := fun x y H Q => ∃ l b xs zs, x = .ref l ∧ y = .ref b ∧ H l = some (.lst xs) ∧ H b = some (.lst zs) ∧ xs.length + zs.length ≤ sizeLine ∧ ∀ p, H p = none → Q (.ref p) (upd H p (.lst (xs ++ zs)))
theorem op_cat : OpR X (binaryOp .Add) rCat := by
  intro pins s σ H x y v u Q I rx ry h
  obtain ⟨l, b, xs, zs, rfl, rfl, hH, hB, hz, q⟩ := h
  cases rx
  cases ry
  obtain ⟨z, its, n, r, hl, e⟩ := I.lstM hH
  obtain ⟨z2, its2, n2, r2, hl2, e2⟩ := I.lstM hB
  refine PySem.P.add_list e e2 ?_ (by rw [List.size_toArray, List.size_toArray]; omega)
  have ea : its.toArray ++ its2.toArray = (its ++ its2).toArray := by simp
  rw [ea]
  exact ⟨.ref _, _, I.lnew (t' := s.toks) (r.append r2) (by rw [List.length_append]; omega), rfl, q _ I.fresh⟩
end

section
variable {prog : Program} {w : World} {A : Around} {E : Value → Shared → Prop} {s : Shared}
end

section
variable {X : Cx}
end
end L2

namespace L2
open PySem PySem.Spec PyProof.Rows

section
variable {κ : Type} [DecidableEq κ]
noncomputable def valV (kvs : List (κ × V)) (k : κ) : Option V := (kvs.find? fun kv => decide (kv.1 = k)).map (·.2)
noncomputable def putK (kvs : List (κ × V)) (k : κ) (v : V) : List (κ × V) :=
  if (kvs.any fun kv => decide (kv.1 = k)) = true then kvs.map (fun kv => if kv.1 = k then (kv.1, v) else kv) else kvs ++ [(k, v)]
noncomputable def dropK (kvs : List (κ × V)) (k : κ) : List (κ × V) := kvs.filter fun kv => decide (kv.1 ≠ k)

theorem valV_pos {p : κ × V} {r : List (κ × V)} {k : κ} (e : p.1 = k) : valV (p :: r) k = some p.2 := by simp [valV, List.find?_cons, e]
theorem valV_neg {p : κ × V} {r : List (κ × V)} {k : κ} (e : ¬ p.1 = k) : valV (p :: r) k = valV r k := by simp [valV, List.find?_cons, e]
theorem valV_any (k : κ) : ∀ kvs : List (κ × V), (kvs.any fun kv => decide (kv.1 = k)) = (valV kvs k).isSome
  | [] => rfl
  | p :: r => by
    rw [List.any_cons]
    by_cases e : p.1 = k
    · simp only [valV_pos e, decide_eq_true e, Bool.true_or, Option.isSome_some]
    · rw [valV_neg e, decide_eq_false e, Bool.false_or]; exact valV_any k r
theorem length_putK (kvs : List (κ × V)) (k : κ) (v : V) : (putK kvs k v).length ≤ kvs.length + 1 := by
  unfold putK
  split
  · rw [List.length_map]; omega
  · rw [List.length_append, List.length_cons, List.length_nil]; omega
theorem RelO.isSome_eq {o : Option V} {u : Option Value} (r : RelO o u) : o.isSome = u.isSome := by
  cases o with
  | none => cases u with
    | none => rfl
    | some _ => exact (show False from r).elim
  | some _ => cases u with
    | none => exact (show False from r).elim
    | some _ => rfl
theorem RelO.getD {o : Option V} {u : Option Value} {d : V} {d' : Value} (r : RelO o u) (rd : RelV d d') : RelV (o.getD d) (u.getD d') := by
  cases o with
  | none => cases u with
    | none => exact rd
    | some _ => exact (show False from r).elim
  | some _ => cases u with
    | none => exact (show False from r).elim
    | some _ => exact r

theorem KV.val {kvs : List (κ × V)} {vs : List (κ × Value)} (r : KV kvs vs) (k : κ) : RelO (valV kvs k) (valueAt vs k) := by
  unfold KV at r
  induction r with
  | nil => exact True.intro
  | @cons p q ps qs h t ih =>
    obtain ⟨h1, h2⟩ := h
    by_cases e : p.1 = k
    · have e' : q.1 = k := h1.symm.trans e
      have b : valueAt (q :: qs) k = some q.2 := by simp [valueAt, List.find?_cons, e']
      rw [valV_pos e, b]; exact h2
    · have e' : ¬ q.1 = k := fun z => e (h1.trans z)
      have b : valueAt (q :: qs) k = valueAt qs k := by simp [valueAt, List.find?_cons, e']
      rw [valV_neg e, b]; exact ih
theorem KV.any {kvs : List (κ × V)} {vs : List (κ × Value)} (r : KV kvs vs) (k : κ) : (kvs.any fun kv => decide (kv.1 = k)) = vs.any fun kv => decide (kv.1 = k) := by
  unfold KV at r
  induction r with
  | nil => rfl
  | cons h t ih => rw [List.any_cons, List.any_cons, ih, h.1]
theorem KV.repl {kvs : List (κ × V)} {vs : List (κ × Value)} (r : KV kvs vs) (k : κ) {y : V} {u : Value} (ry : RelV y u) :
    KV (kvs.map fun kv => if kv.1 = k then (kv.1, y) else kv) (vs.map fun kv => if kv.1 = k then (kv.1, u) else kv) := by
  unfold KV at r ⊢
  induction r with
  | nil => exact .nil
  | @cons p q ps qs h t ih =>
    rw [List.map_cons, List.map_cons]
    refine .cons ?_ ih
    obtain ⟨h1, h2⟩ := h
    by_cases e : p.1 = k
    · rw [if_pos e, if_pos (h1.symm.trans e)]; exact ⟨h1, ry⟩
    · rw [if_neg e, if_neg (fun z => e (h1.trans z))]; exact ⟨h1, h2⟩
theorem KV.put {kvs : List (κ × V)} {vs : List (κ × Value)} (r : KV kvs vs) (k : κ) {y : V} {u : Value} (ry : RelV y u) : KV (putK kvs k y) (stored vs k u) := by
  unfold putK stored
  rw [r.any k]
  by_cases e : (vs.any fun kv => decide (kv.1 = k)) = true
  · rw [if_pos e, if_pos e]; exact r.repl k ry
  · rw [if_neg e, if_neg e]; exact Paired.snoc r ⟨rfl, ry⟩
theorem KV.drop {kvs : List (κ × V)} {vs : List (κ × Value)} (r : KV kvs vs) (k : κ) : KV (dropK kvs k) (without vs k) := by
  unfold KV at r ⊢
  unfold dropK without
  induction r with
  | nil => exact .nil
  | @cons p q ps qs h t ih =>
    obtain ⟨h1, h2⟩ := h
    rw [List.filter_cons, List.filter_cons]
    by_cases e : p.1 = k
    · have a : ¬ decide (p.1 ≠ k) = true := by simp [e]
      have b : ¬ decide (q.1 ≠ k) = true := by simp [h1.symm.trans e]
      rw [if_neg a, if_neg b]; exact ih
    · have e' : ¬ q.1 = k := fun z => e (h1.trans z)
      have a : decide (p.1 ≠ k) = true := by simp [e]
      have b : decide (q.1 ≠ k) = true := by simp [e']
      rw [if_pos a, if_pos b]; exact .cons ⟨h1, h2⟩ ih
theorem KV.keys {kvs : List (κ × V)} {vs : List (κ × Value)} (r : KV kvs vs) : kvs.map (·.1) = vs.map (·.1) := by
  unfold KV at r
  induction r with
  | nil => rfl
  | cons h t ih => rw [List.map_cons, List.map_cons, ih, h.1]
theorem KV.length {kvs : List (κ × V)} {vs : List (κ × Value)} (r : KV kvs vs) : kvs.length = vs.length := Paired.length r
end


theorem kV_is {P : Program} {w : World} {k : Key} {u : Value} (r : RelV (kV k) u) : (mixKind P w).is k u = true := by
  cases k with
  | inl i => obtain ⟨t, e⟩ := (show ∃ t, u = Value.int i t from r); subst e; exact mixKind_int P w i t
  | inr x => obtain ⟨t, e⟩ := (show ∃ t, u = Value.str x t from r); subst e; exact mixKind_str P w x t
theorem items_are {P : Program} {w : World} : ∀ {ks : List Key} {us : List Value}, Vals (ks.map kV) us → ItemsAre (mixKind P w) ks us
  | [], _, r => by rw [List.map_nil] at r; cases r; exact .nil
  | k :: ks, _, r => by
    rw [List.map_cons] at r
    cases r with
    | cons h t => exact .cons (kV_is h) (items_are t)

noncomputable abbrev KT (H : Hp) : List (List Key × V) → List (List Key × Addr × Value) → Prop := Paired fun p q => p.1 = q.1 ∧ RdT H q.2.1 (p.1.map kV) ∧ RelV p.2 q.2.2
theorem KT.val {H : Hp} {kvs : List (List Key × V)} {xs : List (List Key × Addr × Value)} (r : KT H kvs xs) (k : List Key) : RelO (valV kvs k) ((atKey xs k).map (·.2)) := by
  induction r with
  | nil => exact True.intro
  | @cons p q ps qs h t ih =>
    obtain ⟨h1, _, h2⟩ := h
    by_cases e : p.1 = k
    · have e' : q.1 = k := h1.symm.trans e
      have b : atKey (q :: qs) k = some q.2 := by simp [atKey, List.find?_cons, e']
      rw [valV_pos e, b]; exact h2
    · have e' : ¬ q.1 = k := fun z => e (h1.trans z)
      have b : atKey (q :: qs) k = atKey qs k := by simp [atKey, List.find?_cons, e']
      rw [valV_neg e, b]; exact ih
theorem KT.repl {H : Hp} {kvs : List (List Key × V)} {xs : List (List Key × Addr × Value)} (r : KT H kvs xs) (k : List Key) {y : V} {u : Value} (ry : RelV y u) :
    KT H (kvs.map fun kv => if kv.1 = k then (kv.1, y) else kv) (xs.map (putAt k u)) := by
  induction r with
  | nil => exact .nil
  | @cons p q ps qs h t ih =>
    rw [List.map_cons, List.map_cons]
    refine .cons ?_ ih
    obtain ⟨h1, h2, h3⟩ := h
    unfold putAt
    by_cases e : p.1 = k
    · rw [if_pos e, if_pos (h1.symm.trans e)]; exact ⟨h1, h2, ry⟩
    · rw [if_neg e, if_neg (fun z => e (h1.trans z))]; exact ⟨h1, h2, h3⟩
theorem KT.put {H : Hp} {kvs : List (List Key × V)} {xs : List (List Key × Addr × Value)} (r : KT H kvs xs) (k : List Key) {b : Addr} {y : V} {u : Value} (hb : RdT H b (k.map kV)) (ry : RelV y u) :
    KT H (putK kvs k y) (storedH xs k b u) := by
  have e : (kvs.any fun kv => decide (kv.1 = k)) = (atKey xs k).isSome := by
    rw [valV_any, (r.val k).isSome_eq, Option.isSome_map]
  unfold putK storedH
  rw [e]
  by_cases q : (atKey xs k).isSome = true
  · rw [if_pos q, if_pos q]; exact r.repl k ry
  · rw [if_neg q, if_neg q]; exact Paired.snoc r ⟨rfl, hb, ry⟩
theorem KT.keeps {H H' : Hp} {kvs : List (List Key × V)} {xs : List (List Key × Addr × Value)} (r : KT H kvs xs) (ht : ∀ b ys, RdT H b ys → RdT H' b ys) : KT H' kvs xs :=
  Paired.mapP r fun _ _ z => ⟨z.1, ht _ _ z.2.1, z.2.2⟩

section
variable {P : Program} {w : World} {H : Hp} {h : Heap} {a : Addr}
theorem rd_of {u : HO} (ok : HOk P w H h) (e : Rd H a u) : ObjOk P w H h a u := e.ok ok
theorem dk_rd {kvs : List (Key × V)} (ok : HOk P w H h) (e : Rd H a (.dK kvs)) : kvs.length ≤ sizeLine ∧ (a == sysModules) = false ∧ ∃ vs, KV kvs vs ∧ h.DictOf (mixKind P w) a vs :=
  show ObjOk P w H h a (.dK kvs) from rd_of ok e
theorem dk_of {kvs : List (Key × V)} (ok : HOk P w H h) (e : H a = some (.dK kvs)) : kvs.length ≤ sizeLine ∧ (a == sysModules) = false ∧ ∃ vs, KV kvs vs ∧ h.DictOf (mixKind P w) a vs := dk_rd ok (.inl e)
theorem key_of {ks : List Key} (ok : HOk P w H h) (e : RdT H a (ks.map kV)) : (tupleKind (mixKind P w)).is h ks a := by
  obtain ⟨_, its, r, o, h1, h2, n, h3⟩ := (show ObjOk P w H h a (.tup (ks.map kV)) from Rd.ok (show Rd H a _ from e) ok)
  exact ⟨o, its.toArray, n, h1, h2, h3, by simpa using items_are r⟩
theorem dt_rd {kvs : List (List Key × V)} (ok : HOk P w H h) (e : Rd H a (.dT kvs)) : kvs.length ≤ sizeLine ∧ (a == sysModules) = false ∧
    ∃ xs, KT H kvs xs ∧ h.DictOfH (tupleKind (mixKind P w)) a xs := by
  obtain ⟨z, y, xs, r, o, es, ep, h1, h2, h3, h4, h5⟩ := (show ObjOk P w H h a (.dT kvs) from rd_of ok e)
  refine ⟨z, y, xs, r, o, es, ep, h1, h2, h3, h4, fun x hx => ?_, h5⟩
  have all : ∀ {l : List (List Key × V)} {m : List (List Key × Addr × Value)}, KT H l m → ∀ x ∈ m, (tupleKind (mixKind P w)).is h x.1 x.2.1 := by
    intro l m q
    induction q with
    | nil => intro x hx; exact nomatch hx
    | @cons p q ps qs hq t ih =>
      intro x hx
      rcases List.mem_cons.mp hx with e | hx
      · subst e
        exact key_of ok (by rw [← hq.1]; exact hq.2.1)
      · exact ih x hx
  exact all r x hx
end

noncomputable def DGet (H : Hp) (a : Addr) (y : V) (r : Option V) : Prop :=
  (∃ kvs k, Rd H a (.dK kvs) ∧ y = kV k ∧ r = valV kvs k) ∨ ∃ kvs k b, Rd H a (.dT kvs) ∧ y = .ref b ∧ RdT H b (k.map kV) ∧ r = valV kvs k
noncomputable def DPut (H : Hp) (a : Addr) (y v : V) (H' : Hp) : Prop :=
  (∃ kvs k, H a = some (.dK kvs) ∧ y = kV k ∧ kvs.length < sizeLine ∧ H' = upd H a (.dK (putK kvs k v))) ∨
  ∃ kvs k b, H a = some (.dT kvs) ∧ y = .ref b ∧ RdT H b (k.map kV) ∧ kvs.length < sizeLine ∧ H' = upd H a (.dT (putK kvs k v))
theorem DGet.k {H : Hp} {a : Addr} {kvs : List (Key × V)} {k : Key} (e : H a = some (.dK kvs)) : DGet H a (kV k) (valV kvs k) := .inl ⟨kvs, k, .inl e, rfl, rfl⟩
theorem DGet.t {H : Hp} {a b : Addr} {kvs : List (List Key × V)} {k : List Key} (e : H a = some (.dT kvs)) (eb : H b = some (.tup (k.map kV))) : DGet H a (.ref b) (valV kvs k) := .inr ⟨kvs, k, b, .inl e, rfl, .inl eb, rfl⟩
theorem DPut.k {H : Hp} {a : Addr} {kvs : List (Key × V)} {k : Key} {v : V} (e : H a = some (.dK kvs)) (hl : kvs.length < sizeLine) : DPut H a (kV k) v (upd H a (.dK (putK kvs k v))) := .inl ⟨kvs, k, e, rfl, hl, rfl⟩
theorem DPut.t {H : Hp} {a b : Addr} {kvs : List (List Key × V)} {k : List Key} {v : V} (e : H a = some (.dT kvs)) (eb : H b = some (.tup (k.map kV))) (hl : kvs.length < sizeLine) :
    DPut H a (.ref b) v (upd H a (.dT (putK kvs k v))) := .inr ⟨kvs, k, b, e, rfl, .inl eb, hl, rfl⟩


section
variable {X : Cx} {pins : List (Addr × Obj)} {σ : St} {H : Hp} {s : Shared} {a : Addr} {y v : V} {u r : Value} {o : Option V} {A : Around} {E : Value → Shared → Prop}

theorem Inv.big (I : Inv X pins σ H s) : sysModules < s.heap.objs.size := by
  have h : mainGlobals < s.heap.objs.size := (I.mod.glob.keeps I.bk).lt
  exact Nat.lt_trans (by decide) h

theorem d_getItem {Q : Value → Shared → Prop} (hu : A.units + 1 < cLine) (I : Inv X pins σ H s) (g : DGet H a y (some v)) (ry : RelV y u) (h : ∀ w' s', Inv X pins σ H s' → RelV v w' → Q w' s') :
    wpAny (model X.prog X.w) A (getItem (.ref a) u) Q E s := by
  rcases g with ⟨kvs, k, e, ey, l⟩ | ⟨kvs, k, b, e, ey, eb, l⟩
  · subst ey
    obtain ⟨z, hd, vs, rel, dd⟩ := dk_rd I.hok e
    obtain ⟨w', hw, rw'⟩ := RelO.some_of (v := v) (o := valueAt vs k) (by rw [l]; exact rel.val k)
    exact wpAny_getItem_of (kV_is ry) dd.mapOf hw (h w' _ (I.tok _) rw')
  · subst ey
    cases (show u = Value.ref b from ry)
    obtain ⟨z, hd, xs, rel, dd⟩ := dt_rd I.hok e
    obtain ⟨w', hw, rw'⟩ := RelO.some_of (v := v) (o := (atKey xs k).map (·.2)) (by rw [l]; exact rel.val k)
    obtain ⟨p, hp, hp2⟩ := Option.map_eq_some_iff.mp hw
    refine wpAny_getItem_heap (tupleKind_room_in1 hu) (key_of I.hok eb) dd hp ?_
    rw [hp2]
    exact h w' _ (I.tok _) rw'
theorem d_write {h' : Heap} {t' : Nat} {ob : HO} (I : Inv X pins σ H s) (mu : Mut (H a)) (hs : Heap.SameBut a s.heap h') (he : ∃ q, h'.get? a = some q) (new : ObjOk X.prog X.w (upd H a ob) h' a ob) :
    Inv X pins σ (upd H a ob) { s with heap := h', toks := t' } :=
  I.write (x := a) (e := a) mu (.inl rfl) (fun b q hb z => (hs.2 b hb).trans z) he new
theorem dk_new {P : Program} {w : World} {H' : Hp} {h' : Heap} {kvs : List (Key × V)} {vs : List (Key × Value)} (z : kvs.length ≤ sizeLine) (hd : (a == sysModules) = false) (rel : KV kvs vs) (dd : h'.DictOf (mixKind P w) a vs) :
    ObjOk P w H' h' a (.dK kvs) := ⟨z, hd, vs, rel, dd⟩
end

section
variable {X : Cx} {pins : List (Addr × Obj)} {σ : St} {H : Hp} {s : Shared} {a : Addr} {kvs : List (Key × V)} {k : Key} {u : Value} {A : Around} {E : Value → Shared → Prop}
end


noncomputable def NoSl (i : Expr) : Prop := ∀ ov iv, subscripted i false ov iv = operate [ov, iv] (getItem ov iv)
theorem subD_of {prog : Program} {w : World} {A : Around} {E : Value → Shared → Prop} {s : Shared} {env : Env} {value slice : Expr} {pos : Pos} {T id : String} {Q : Value → Shared → Prop}
    (hl : typeLookup (.type T) "__getitem__" = pure (some (.builtin id))) (hs : NoSl slice)
    (h : wpAny (model prog w) A (eval value env) (fun o s₁ => wpAny (model prog w) A (eval slice env) (fun i s₂ => s₂.TypeIs o T ∧ wpAny (model prog w) A (getItem o i) Q E s₂) E s₁) E s) :
    wpAny (model prog w) A (eval (.Subscript value slice pos) env) Q E s := by
  refine Subscript_ (wpAny_mono h (fun o s₁ h₁ => wpAny_mono h₁ (fun i s₂ h₂ => ?_) fun _ _ x => x) fun _ _ x => x)
  obtain ⟨hT, h₂⟩ := h₂
  unfold subscriptTail
  refine wpAny_bind ?_
  rw [getitemInPython_of_ne hT.not_modules]
  refine wpAny_bind (wpAny_specialOf hT hl ?_)
  have fin : wpAny (model prog w) A (subscripted slice false o i) (fun r s₃ => wpAny (model prog w) A (letTemporaryGo value o r >>= fun _ => pure r) Q E s₃) E s₂ := by
    rw [hs o i]
    exact wpAny_operating (wpAny_mono h₂ (fun r s₃ h₃ => wpAny_bind (wpAny_letTemporaryGo (wpAny_pure h₃))) fun _ _ x => x)
  first
    | exact wpAny_pure (wpAny_bind fin)
    | exact wpAny_bind (wpAny_pure (wpAny_bind fin))
    | exact wpAny_bind fin

theorem dict_typeIs {X : Cx} {pins : List (Addr × Obj)} {σ : St} {H : Hp} {s : Shared} {a : Addr} {y : V} {o : Option V} (I : Inv X pins σ H s) (g : DGet H a y o) : s.TypeIs (.ref a) "dict" := by
  rcases g with ⟨kvs, k, e, _, _⟩ | ⟨kvs, k, b, e, _, _, _⟩
  · obtain ⟨_, _, vs, _, dd⟩ := dk_rd I.hok e
    exact dd.typeIs
  · obtain ⟨_, _, xs, _, dd⟩ := dt_rd I.hok e
    exact dd.typeIs
noncomputable def tDGet (td ty : TE) : TE := fun σ H Q => td σ H fun x H1 => ty σ H1 fun y H2 => ∃ a v, x = .ref a ∧ DGet H2 a y (some v) ∧ Q v H2
section
variable {X : Cx} {o i e value : Expr} {pos pos' tpos : Pos} {td ty tv : TE}
theorem pe_dget (hu : X.A.units + 1 < cLine) (ho : PE X o td) (hi : PE X i ty) (hs : NoSl i) : PE X (.Subscript o i pos) (tDGet td ty) := by
  intro pins s σ H Q I h
  refine subD_of PySem.F.slot_dict_getitem.lookup hs (thn (ho pins s σ H _ I h) fun u s1 ⟨x, H1, I1, rx, q1⟩ => thn (hi pins s1 σ H1 _ I1 q1) fun iv s2 ⟨y, H2, I2, ry, a, v, ex, g, q2⟩ => ?_)
  subst ex
  obtain rfl : u = Value.ref a := rx
  exact ⟨dict_typeIs I2 g, d_getItem hu I2 g ry fun w' s3 I3 rw' => ⟨v, H2, I3, rw', q2⟩⟩
end


theorem dk_empty {P : Program} {w : World} {H : Hp} (h : Heap) (hb : sysModules < h.objs.size) : ObjOk P w H (h.push { cls := .type "dict", data := .dict #[] }) h.objs.size (.dK []) :=
  ⟨Nat.zero_le _, beq_eq_false_iff_ne.mpr (Ne.symm (Nat.ne_of_lt hb)), [], .nil, Heap.DictOf.new h⟩
theorem dt_empty {P : Program} {w : World} {H : Hp} (h : Heap) (hb : sysModules < h.objs.size) : ObjOk P w H (h.push { cls := .type "dict", data := .dict #[] }) h.objs.size (.dT []) :=
  ⟨Nat.zero_le _, beq_eq_false_iff_ne.mpr (Ne.symm (Nat.ne_of_lt hb)), [], .nil, _, #[], 0, Heap.get?_push_size _ rfl, ⟨rfl, rfl, rfl⟩, rfl, rfl, List.nodup_nil⟩
noncomputable def tDNewT : TE := fun _ H Q => ∀ p, H p = none → Q (.ref p) (upd H p (.dT []))
section
variable {X : Cx} {pos : Pos}
theorem pe_dnewT : PE X (.Dict [] [] pos) tDNewT := fun pins s σ H Q I h =>
  wpAny_Dict_empty ⟨.ref s.heap.objs.size, _, I.laid (a := s.heap.objs.size) (o := .dT []) (t' := s.toks) (fun _ _ q => Heap.get?_push_of_some _ q) (Nat.le_refl _) (dt_empty s.heap I.big), rfl, h _ (I.hok.fresh (Nat.le_refl _))⟩
end

noncomputable def tPairs : List (TE × TE) → St → Hp → (List (V × V) → Hp → Prop) → Prop
  | [], _, H, Q => Q [] H
  | (tk, tv) :: r, σ, H, Q => tk σ H fun x H1 => tv σ H1 fun y H2 => tPairs r σ H2 fun ps H3 => Q ((x, y) :: ps) H3
noncomputable abbrev VV : List (V × V) → List (Value × Value) → Prop := Paired fun p q => RelV p.1 q.1 ∧ RelV p.2 q.2
noncomputable def PPs (X : Cx) (pos : Pos) (keys : List (Option Expr)) (values : List Expr) (trs : List (TE × TE)) : Prop :=
  ∀ (pins : List (Addr × Obj)) (s : Shared) (σ : St) (H : Hp) (Q : List (V × V) → Hp → Prop), Inv X pins σ H s → tPairs trs σ H Q →
    wpAny (model X.prog X.w) X.A (evalPairs (pairTrees keys values X.env pos)) (fun vs s' => ∃ ps H', Inv X pins σ H' s' ∧ VV ps vs ∧ Q ps H') X.xe s
theorem pps_nil {X : Cx} {pos : Pos} : PPs X pos [] [] [] := fun pins s σ H Q I h => pairTrees_nil_walk ⟨[], H, I, .nil, h⟩
theorem pps_cons {X : Cx} {pos : Pos} {k v : Expr} {ks : List (Option Expr)} {vs : List Expr} {tk tv : TE} {trs : List (TE × TE)} (hk : PE X k tk) (hv : PE X v tv) (hr : PPs X pos ks vs trs) :
    PPs X pos (some k :: ks) (v :: vs) ((tk, tv) :: trs) := fun pins s σ H Q I h =>
  pairTrees_cons_walk (thn (hk pins s σ H _ I h) fun u s1 ⟨x, H1, I1, rx, q1⟩ => thn (hv pins s1 σ H1 _ I1 q1) fun w2 s2 ⟨y, H2, I2, ry, q2⟩ =>
    thn (hr pins s2 σ H2 _ I2 q2) fun ws s3 ⟨ps, H3, I3, rel, q3⟩ => ⟨(x, y) :: ps, H3, I3, .cons ⟨rx, ry⟩ rel, q3⟩)

noncomputable def mergeK (kvs more : List (Key × V)) : List (Key × V) := more.foldl (fun acc kv => putK acc kv.1 kv.2) kvs
theorem KV.merge : ∀ {more : List (Key × V)} {rs : List (Key × Value)} {kvs : List (Key × V)} {vs : List (Key × Value)}, KV more rs → KV kvs vs → KV (mergeK kvs more) (merged vs rs) := by
  intro more rs kvs vs r
  unfold KV at r
  induction r generalizing kvs vs with
  | nil => intro q; exact q
  | @cons p q ps qs h t ih =>
    intro r0
    have e : KV (putK kvs p.1 p.2) (stored vs q.1 q.2) := by
      have := r0.put p.1 h.2
      rw [← h.1]; exact this
    exact ih e
theorem length_mergeK : ∀ (more kvs : List (Key × V)), (mergeK kvs more).length ≤ kvs.length + more.length
  | [], kvs => by show kvs.length ≤ kvs.length + 0; omega
  | p :: r, kvs => by
    have h1 := length_mergeK r (putK kvs p.1 p.2)
    have h2 := length_putK kvs p.1 p.2
    show (mergeK (putK kvs p.1 p.2) r).length ≤ _
    rw [List.length_cons]; omega
theorem carries_of {P : Program} {w : World} : ∀ {kvs : List (Key × V)} {ws : List (Value × Value)}, VV (kvs.map fun kv => (kV kv.1, kv.2)) ws → ∃ rs, Carries (mixKind P w) ws rs ∧ KV kvs rs
  | [], _, r => by rw [List.map_nil] at r; cases r; exact ⟨[], True.intro, .nil⟩
  | p :: kvs, _, r => by
    rw [List.map_cons] at r
    cases r with
    | @cons a b as bs h t =>
      obtain ⟨rs, c, q⟩ := carries_of (P := P) (w := w) t
      obtain ⟨b1, b2⟩ := b
      exact ⟨(p.1, b2) :: rs, ⟨kV_is h.1, rfl, c⟩, .cons ⟨rfl, h.2⟩ q⟩
noncomputable def tDisp (trs : List (TE × TE)) : TE := fun σ H Q => ∀ p, H p = none → tPairs trs σ (upd H p (.dK [])) fun ps H2 => H2 p = some (.dK []) ∧ ∃ kvs : List (Key × V), ps = kvs.map (fun kv => (kV kv.1, kv.2)) ∧ kvs.length ≤ 15 ∧ Q (.ref p) (upd H2 p (.dK (mergeK [] kvs)))
theorem pe_disp {X : Cx} {pos : Pos} {keys : List (Option Expr)} {values : List Expr} {trs : List (TE × TE)} (h : PPs X pos keys values trs) (hall : keys.all (·.isSome) = true) (hl : keys.length = values.length) (h0 : keys ≠ [])
    (h15 : keys.length ≤ 15) : PE X (.Dict keys values pos) (tDisp trs) := by
  intro pins s σ H Q I q
  have hn := I.hok.fresh (Nat.le_refl s.heap.objs.size)
  have I1 := I.laid (a := s.heap.objs.size) (o := .dK []) (h' := s.heap.push { cls := .type "dict", data := .dict #[] }) (t' := s.toks) (fun _ _ q => Heap.get?_push_of_some _ q) (Nat.le_refl _) (dk_empty s.heap I.big)
  refine wpAny_Dict_walk (knd := mixKind X.prog X.w) hall hl h0 h15 (thn (h pins _ σ _ _ I1 (q _ hn)) fun ws s2 ⟨ps, H2, I2, rel, e, kvs, ep, lk, q2⟩ => ?_)
  subst ep
  obtain ⟨rs, c, rk⟩ := carries_of (P := X.prog) (w := X.w) rel
  obtain ⟨z, hd, vs0, r0, dd⟩ := dk_of I2.hok e
  cases r0
  refine ⟨rs, c, dd, fun h' dd' hs => ⟨.ref s.heap.objs.size, _, ?_, rfl, q2⟩⟩
  have hz : (mergeK [] kvs).length ≤ sizeLine := by
    have h1 := length_mergeK kvs []
    rw [List.length_nil] at h1
    rw [sizeLine_eq]; omega
  have he : ∃ q, h'.get? s.heap.objs.size = some q := let ⟨q, _, _, hq, _⟩ := dd'; ⟨q, hq⟩
  exact d_write I2 (by rw [e]; exact True.intro) hs he (dk_new hz hd (rk.merge .nil) dd')


structure M2 (X : Cx) (o : Expr) (m : Str) (apos : Pos) (e f : Expr) (cpos : Pos) : Prop where
  base : attributeBase o m X.env (eval o X.env) = eval o X.env
  few : ((backTo cpos (starEach [e, f] X.env)).all (fun x => !x.1) && (backToKw cpos (keywordEach [] X.env)).all (fun x => x.1.isSome)
    && decide (([e, f] : List Expr).length + ([] : List Keyword).length + (if ([] : List Keyword).isEmpty then 0 else 1) < 30)) = true
  line : (apos.endLine == cpos.line) = true
  trees : backTo cpos (starEach [e, f] X.env) = [(false, eval e X.env), (false, eval f X.env)]

noncomputable def IsD (H : Hp) (a : Addr) : Prop := (∃ kvs, Rd H a (.dK kvs)) ∨ ∃ kvs, Rd H a (.dT kvs)
theorem isD_at {X : Cx} {pins : List (Addr × Obj)} {σ : St} {H : Hp} {s : Shared} {a : Addr} (I : Inv X pins σ H s) (d : IsD H a) :
    s.TypeIs (.ref a) "dict" ∧ (∀ b, Value.ref a = .ref b → ∃ ob, s.heap.get? b = some ob ∧ ob.dict = none) ∧ (a == sysModules) = false := by
  rcases d with ⟨kvs, e⟩ | ⟨kvs, e⟩
  · obtain ⟨_, hd, vs, _, dd⟩ := dk_rd I.hok e
    refine ⟨dd.typeIs, fun b q => ?_, hd⟩
    cases q
    obtain ⟨ob, _, _, h1, h2, _⟩ := dd
    exact ⟨ob, h1, h2.2.1⟩
  · obtain ⟨_, hd, xs, _, dd⟩ := dt_rd I.hok e
    refine ⟨dd.typeIs, fun b q => ?_, hd⟩
    cases q
    obtain ⟨ob, _, _, h1, h2, _⟩ := dd
    exact ⟨ob, h1, h2.2.1⟩

section
variable {X : Cx} {pins : List (Addr × Obj)} {σ : St} {H : Hp} {s : Shared} {a : Addr} {y d : V} {u r : Value} {o : Option V} {A : Around} {E : Value → Shared → Prop}
theorem d_get2 {Q : Value → Shared → Prop} (hu : A.units + 1 < cLine) (I : Inv X pins σ H s) (g : DGet H a y o) (ry : RelV y u) (rd : RelV d r) (h : ∀ w' s', Inv X pins σ H s' → RelV (o.getD d) w' → Q w' s') :
    wpAny (model X.prog X.w) A (call (.builtin "dict.get") [.ref a, u, r]) Q E s := by
  rcases g with ⟨kvs, k, e, ey, l⟩ | ⟨kvs, k, b, e, ey, eb, l⟩
  · subst ey
    obtain ⟨z, hd, vs, rel, dd⟩ := dk_rd I.hok e
    refine call_meetsIn PySem.F.slot_dict_get dd.typeIs PySem.F.entry_dict_get (PySem.F.args_dict_get_3 _ _ _) (meets_dict_get_default (mixKind X.prog X.w) a (kV_is ry) hd r) ⟨_, dd.mapOf, h _ _ (I.tok _) ?_⟩
    rw [l]
    exact (rel.val k).getD rd
  · subst ey
    cases (show u = Value.ref b from ry)
    obtain ⟨z, hd, xs, rel, dd⟩ := dt_rd I.hok e
    refine call_meetsIn PySem.F.slot_dict_get dd.typeIs PySem.F.entry_dict_get (PySem.F.args_dict_get_3 _ _ _) (meetsH_dict_get_default (tupleKind (mixKind X.prog X.w)) a b hd r) ⟨tupleKind_room_in1 hu, k, xs, key_of I.hok eb, dd, h _ _ (I.tok _) ?_⟩
    rw [l]
    exact (rel.val k).getD rd
end

noncomputable def tDGet2 (td ty tx : TE) : TE := fun σ H Q => td σ H fun x H1 => ∃ a, x = .ref a ∧ IsD H1 a ∧ ty σ H1 fun y H2 => tx σ H2 fun z H3 => ∃ o, DGet H3 a y o ∧ Q (o.getD z) H3
section
variable {X : Cx} {o e f : Expr} {apos cpos : Pos} {td ty tx : TE}
theorem pe_dget2 (hu : X.A.units + 1 < cLine) (ho : PE X o td) (he : PE X e ty) (hf : PE X f tx) (m : M2 X o "get" apos e f cpos) : PE X (.Call (.Attribute o "get" apos) [e, f] [] cpos) (tDGet2 td ty tx) := by
  intro pins s σ H Q I h
  refine wpAny_Call_method m.base m.few m.line PySem.F.plainAttrs_dict PySem.F.slot_dict_get PySem.F.type_dict_get (thn (ho pins s σ H _ I h) fun u s1 ⟨x, H1, I1, rx, a, ex, d, q1⟩ => ?_)
  subst ex
  obtain rfl : u = Value.ref a := rx
  obtain ⟨t1, t2, _⟩ := isD_at I1 d
  refine ⟨t1, t2, ?_⟩
  rw [m.trees]
  refine Calls.callWith_builtin rfl (Calls.evalArgs_plain (Calls.spliced_cons (thn (he pins s1 σ H1 _ I1 q1) fun iv s2 ⟨y, H2, I2, ry, q2⟩ =>
    Calls.spliced_cons (thn (hf pins s2 σ H2 _ I2 q2) fun fv s3 ⟨z, H3, I3, rz, ov, g, q3⟩ => Calls.spliced_nil ?_))))
  exact d_get2 hu I3 g ry rz fun w' s4 I4 rw' => ⟨_, H3, I4, rw', q3⟩
end

section
variable {X : Cx} {pins : List (Addr × Obj)} {σ : St} {H : Hp} {s : Shared} {a : Addr} {kvs : List (Key × V)} {A : Around} {E : Value → Shared → Prop}
end


section
variable {X : Cx} {pins : List (Addr × Obj)} {σ : St} {H : Hp} {s : Shared} {a : Addr} {y : V} {u : Value} {A : Around} {E : Value → Shared → Prop}
end
end L2

namespace Att
open PySem PySem.W PySem.Calls PyProof.Rows

theorem ints_of_wellAll {P : Params} {h : Heap} : ∀ (ns : List Int) (vs : List Value), WellAll P h vs (ns.map WData.int) → IntsAre vs ns := by
  intro ns
  induction ns with
  | nil =>
    intro vs w
    rw [List.map_nil] at w
    cases w
    exact .nil
  | cons n ns ih =>
    intro vs w
    rw [List.map_cons] at w
    cases w with
    | cons a b =>
      cases a
      exact .cons _ _ (ih _ b)

theorem script_of {l : OpenLaw} {n : Nat} (hn : l.most = some n) {P : Params} {h : Heap} {args : List WData} {vals : List Value}
    (hpre : l.row.toRowW.claim.pre args = true) (hwl : WellAll P h vals args) :
    ∃ a vs ns, vals = [Value.ref a] ∧ args = [WData.list (ns.map WData.int)] ∧ h.get? a = some { cls := .type "list", data := .seq vs.toArray } ∧ IntsAre vs ns ∧ ns.length ≤ n := by
  have hsh : WShape.hasAll [] args [.list .int] = true := (pre_splitW hpre).1
  have hc : l.pre.holds [] { args := args } = true := (pre_splitW hpre).2
  obtain ⟨d, r, rfl, h1, h2⟩ := hasAllW_cons hsh
  obtain rfl := hasAllW_nil h2
  obtain ⟨xs, rfl, h3⟩ := hasW_list h1
  obtain ⟨ns, rfl⟩ := items_int h3
  have hlen : ns.length ≤ n := by
    unfold OpenLaw.pre at hc
    have h4 : (WTm.not (.lt (.lit (.int (n : Int))) (.len (.arg 0)))).holds [] { args := [.list (ns.map .int)] } = true := by
      have h4 := (holds_andW hc).1
      rw [hn] at h4
      exact h4
    have h5 := condW_of h4 (w_not (w_lt w_lit (w_len_list (w_arg rfl))))
    rw [List.length_map] at h5
    refine Nat.le_of_not_lt fun q => ?_
    have q' : (n : Int) < ((ns.length : Nat) : Int) := by omega
    first
      | (rw [decide_eq_true q'] at h5; exact absurd h5 (by decide))
      | (simp at h5; omega)
  cases hwl with
  | cons w1 w2 =>
    cases w2
    cases w1 with
    | list ho hall => exact ⟨_, _, ns, rfl, rfl, ho, ints_of_wellAll ns _ hall, hlen⟩

theorem post_true (l : OpenLaw) (args : List WData) : l.row.toRowW.claim.post args (.bool true) args = true :=
  postW_of (r := l.row.toRowW) (X := (true == true))
    (show WShape.has [] (.bool true) .bool = true by first | rfl | decide | simp [WShape.has, WShape.arms, WShape.armsAll])
    (show (WTm.eq .res (.lit (.bool true))).value [] { args := args, res := some (.bool true), after := args } = some (.bool (true == true)) from w_eq_bool (w_res rfl) w_lit) rfl

theorem attach_call {l : OpenLaw} {n : Nat} {q : Program} {loose : List Str} {XP : (Str → Option Value) → Heap → Prop} {YP : World → Heap → Prop} {d : DefRec}
    (hn : l.most = some n) (hdf : d.params.defaults = [])
    (call : ∀ (w : World) (s₀ s₁ : Shared) (mg mb : Str → Option Value) (fa : Addr) (o : Obj) (pm cd doc : Value) (a : Addr) (vs : List Value) (ns : List Int),
      Ground q loose [] XP w s₀ mg mb s₁.heap → YP w s₁.heap →
      s₁.heap.get? fa = some o → o.data = .func (docDef d.name d.params d.body d.scope pm cd doc) → s₁.heap.CodeRec cd d.name → mg d.name = some (.ref fa) →
      s₁.heap.get? a = some { cls := .type "list", data := .seq vs.toArray } → IntsAre vs ns → ns.length ≤ n → s₁.gens = #[] →
      codeAny (model l.prog w) callerA (.call (.ref fa) ⟨[.ref a], []⟩) (fun r s' => r = .ok (.ret (.bool true)) ∧ OldK s₁.heap s'.heap ∧ s'.os = s₁.os ∧ AllBare s'.gens) s₁) :
    WalkO q loose XP YP l.row.toRowW d [] (fun f vs => PySem.call f vs) := by
  intro w s₀ s₁ mg mb G Y fa o pm cd doc dV kV ho hd hcd hD hmg hg args vals as hpre hlay hrd hwl hlo
  obtain rfl : dV = .none := Dflts.none hD hdf
  obtain rfl : kV = .none := Dflts.noKw hD
  obtain ⟨a, vs, ns, rfl, rfl, hobj, hints, hlen⟩ := script_of hn hpre hwl
  refine enter_call (codeAny_mono (call w s₀ s₁ mg mb fa o pm cd doc a vs ns G Y ho (fd_plain hd) hcd hmg hobj hints hlen hg) fun r s' hq => ?_)
  obtain ⟨rfl, h2, h3, h4⟩ := hq
  exact ⟨.inl ⟨.bool true, .bool true, [], rfl, fun _ => rfl, .bool true, post_true l _, fun _ => ⟨List.Pairwise.nil, fun _ hm => (nomatch hm)⟩⟩, h2, h3, h4⟩

section
variable {prog : Program} {w : World} {A : Around} {E : Value → Shared → Prop} {s : Shared} {K : Frag}

end
end Att

namespace L2
open PySem PySem.Spec PyProof.Rows

theorem vals_ints : ∀ {vs : List Value} {ns : List Int}, IntsAre vs ns → Vals (ns.map V.int) vs
  | _, _, .nil => .nil
  | _, _, .cons n t h => .cons ⟨t, rfl⟩ (vals_ints h)

noncomputable def Only (H : Hp) : Prop := ∀ b, H b = none ∨ ∃ o xs, H b = some (.frz o (.lst xs))

theorem law_call {P : Program} {w : World} {K : PySem.W.Frag} {mg mb : Str → Option Value} {CX : CXT} {k : Nat} {fa a : Addr} {fd : FuncData} {x : Str} {sp : Sp} {s₁ : Shared} {vs : List Value} {ns : List Int}
    (KX : K.In s₁.heap) (hns : s₁.heap.Ns mainGlobals mg) (hb : s₁.heap.Ns builtinsNs mb) (hbb : ∀ x : Str, x ≠ "__name__" → mb x = bootBuiltins x) (hlim : s₁.heap.NoLimit) (hg : s₁.gens = #[])
    (ha : s₁.heap.get? a = some { cls := .type "list", data := .seq vs.toArray }) (hi : IntsAre vs ns) (hl : ns.length ≤ sizeLine) (hr : Room k callerA)
    (F : ∀ base : Heap, K.In base → base.Ns mainGlobals mg → FnOk P w K mg base CX k fa fd [x] sp) (hbind : ∀ (s : Shared) (u : Value), BindsTo s fd ⟨[u], []⟩ [(x, u)])
    (hsp : ∀ H : Hp, Only H → SqL K H a (ns.map V.int) → sp [.ref a] H (fun v _ => v = .bl true) fun _ _ _ => False)
    (hCX : ∀ H e s', CX [] H s₁ (fun _ _ _ => False) e s' → False) :
    codeAny (model P w) callerA (.call (.ref fa) ⟨[.ref a], []⟩) (fun r s' => r = .ok (.ret (.bool true)) ∧ OldK s₁.heap s'.heap ∧ s'.os = s₁.os ∧ AllBare s'.gens) s₁ := by
  have rv := vals_ints hi
  have lenV := hi.length
  -- from an abstract heap in which nothing but the script may be tracked
  have core : ∀ H : Hp, Only H → SqL K H a (ns.map V.int) → HOk P w H s₁.heap → (∀ b, H b ≠ none → b = a) → (H a ≠ none → K.lookup a = none) →
      codeAny (model P w) callerA (.call (.ref fa) ⟨[.ref a], []⟩) (fun r s' => r = .ok (.ret (.bool true)) ∧ OldK s₁.heap s'.heap ∧ s'.os = s₁.os ∧ AllBare s'.gens) s₁ := by
    intro H hO hS hok hA hK
    have base_of : ∀ {b : Addr} {o : Obj}, s₁.heap.get? b = some o → H b = none → (hidT s₁.heap H).get? b = some o := fun e n => hidT_get e n
    have noA : ∀ {b : Addr} {o : Obj} {es : Array DictEntry} {ep : Nat}, s₁.heap.get? b = some o → o.data = .dict es ep → H b = none := fun {b o es ep} e d => by
      cases q : H b with
      | none => rfl
      | some u =>
        have e' : b = a := hA b (by rw [q]; simp)
        subst e'
        rw [ha] at e; cases e
        have d' : Data.seq vs.toArray _ = Data.dict es ep := d
        cases d'
    have nsK : ∀ {b : Addr} {m : Str → Option Value}, s₁.heap.Ns b m → (hidT s₁.heap H).Ns b m := fun {b m} ⟨o, es, ep, e, d, r⟩ => ⟨o, es, ep, base_of e (noA e d), d, r⟩
    have hKb : K.In (hidT s₁.heap H) := fun b o e => base_of (KX b o e) (by
      cases q : H b with
      | none => rfl
      | some u =>
        have e' : b = a := hA b (by rw [q]; simp)
        subst e'
        rw [hK (by rw [q]; simp)] at e; cases e)
    have hM : Mod K mg (hidT s₁.heap H) := ⟨hKb, nsK hns, ⟨mb, nsK hb, hbb⟩, let ⟨mc, h1, h2⟩ := hlim; ⟨mc, nsK h1, h2⟩⟩
    have e0 : Env0 P w K mg (hidT s₁.heap H) callerA [] s₁ H := ⟨rfl, hM, fun b o e => of_hidT e, Nat.le_of_eq (hidT_size _ _), trivial, fun b hb => absurd (show b ∈ ([] : List Addr) from hb) (by simp), hok, .of_eq hg⟩
    refine codeAny_mono ((F _ hKb (nsK hns)).run callerA [] s₁ H ⟨[.ref a], []⟩ [.ref a] [.ref a] _ _ hr e0 (hbind s₁ (.ref a)) (.cons rfl .nil) (hsp H hO hS)) fun r s' h => ?_
    cases r with
    | error e => exact (hCX H e s' h).elim
    | ok fl =>
      cases fl with
      | next => exact False.elim h
      | brk => exact False.elim h
      | cont => exact False.elim h
      | ret u =>
        obtain ⟨v, H', os, bare, un, hok', r', q⟩ := h
        have q' : v = .bl true := q
        subst q'
        obtain rfl : u = Value.bool true := r'
        refine ⟨rfl, OldK.of_keep fun b o e => ?_, os, bare⟩
        cases q : H b with
        | none => exact un.keep b o e q (by intro z; exact absurd (show b ∈ ([] : List Addr) from z) (by simp)) (by simp)
        | some u =>
          rcases hO b with z | ⟨ob, xs, z⟩
          · rw [q] at z; cases z
          · have z2 := un.frzs b ob _ z
            obtain ⟨e1, _⟩ := hok b _ z
            obtain ⟨e2, _⟩ := hok' b _ z2
            rw [e] at e1; cases e1
            exact e2
  cases hk : K.lookup a with
  | some o =>
    -- the script is one of the module's own objects
    have e := KX a o hk
    rw [ha] at e
    cases e
    refine core (fun _ => none) (fun _ => .inl rfl) (.inr ⟨_, vs.toArray, _, hk, rfl, rfl, rfl, by rw [List.size_toArray, lenV]; exact hl, by simpa using rv⟩) (fun b u z => by have z' : (none : Option HO) = some u := z; cases z') (fun b z => absurd rfl z) fun z => absurd rfl z
  | none =>
    refine core (fun b => if b = a then some (.frz { cls := .type "list", data := .seq vs.toArray } (.lst (ns.map V.int))) else none) (fun b => ?_) (.inl (.inr ⟨{ cls := .type "list", data := .seq vs.toArray }, if_pos rfl⟩)) (fun b u z => ?_) (fun b z => ?_) fun _ => hk
    · by_cases hb : b = a
      · exact .inr ⟨_, _, if_pos hb⟩
      · exact .inl (if_neg hb)
    · by_cases hb : b = a
      · have z' := (if_pos hb).symm.trans z
        cases z'
        subst hb
        exact ⟨ha, by rw [List.length_map]; exact hl, vs, _, rv, ha⟩
      · have z' := (if_neg hb).symm.trans z
        cases z'
    · by_cases hb : b = a
      · exact hb
      · exact absurd (if_neg hb) z
end L2

namespace L2
open PySem PySem.Spec PyProof.Rows

theorem walk_of {l : PySem.W.OpenLaw} {n k : Nat} {q : Program} {loose : List Str} {XP : (Str → Option Value) → Heap → Prop} {YP : World → Heap → Prop} {d : DefRec} {K : Params → PySem.W.Frag} {CX : World → CXT} {sp : World → Sp} {x : Str}
    (hn : l.most = some n) (hn2 : n ≤ sizeLine) (hdf : d.params.defaults = []) (hr : Room k callerA)
    (hY : ∀ (w : World) (h : Heap), YP w h → (K w.params).In h)
    (F : ∀ (w : World) (mg : Str → Option Value) (fa : Addr) (h : Heap), (K w.params).In h → h.Ns mainGlobals mg → mg d.name = some (.ref fa) →
      ∃ fd : FuncData, (∀ (s : Shared) (u : Value), BindsTo s fd ⟨[u], []⟩ [(x, u)]) ∧
        ∀ base : Heap, (K w.params).In base → base.Ns mainGlobals mg → FnOk l.prog w (K w.params) mg base (CX w) k fa fd [x] (sp w))
    (hsp : ∀ (w : World) (H : Hp) (a : Addr) (ns : List Int), ns.length ≤ n → Only H → SqL (K w.params) H a (ns.map V.int) → sp w [.ref a] H (fun v _ => v = .bl true) fun _ _ _ => False)
    (hCX : ∀ (w : World) (H : Hp) (s : Shared) (e : Value) (s' : Shared), CX w [] H s (fun _ _ _ => False) e s' → False) :
    PySem.W.WalkO q loose XP YP l.row.toRowW d [] (fun f vs => PySem.call f vs) := by
  refine Att.attach_call hn hdf fun w s₀ s₁ mg mb fa o pm cd doc a vs ns G Y ho hd hcd hmg hobj hints hlen hg => ?_
  have KX := hY w _ Y
  obtain ⟨fd, hb, hF⟩ := F w mg fa _ KX G.T.g hmg
  exact law_call KX G.T.g G.T.b G.T.builtins G.T.nolimit hg hobj hints (Nat.le_trans hlen hn2) hr hF hb (fun H hO hS => hsp w H a ns hlen hO hS) fun H e s' => hCX w H s₁ e s'
end L2


namespace L2
open PySem PySem.Spec PyProof.Rows


noncomputable abbrev CX0 : CXT := fun _ _ _ _ _ _ => False
noncomputable abbrev E0 : XK := fun _ _ _ => False
theorem pass0 {X : Cx} : Passes CX0 X E0 := fun _ _ _ _ _ _ _ h => h.elim

structure Fun (K : PySem.W.Frag) (x qual : Str) (st : Stmt) (f : Addr) (fd : FuncData) : Prop where
  ex : ∃ (oc : Value) (od : Option Addr) (kV doc pm : Value) (an : Option Addr) (cdv ct : Value) (osl : Array (Option Value)),
    fd = PySem.W.fnOf x qual (defArgs st) (defBody st) (defScope st) .none kV doc pm an cdv ct ∧ K.lookup f = some ⟨oc, od, .func fd, osl⟩ ∧ PySem.W.codeIn K cdv qual = true
  kp : PySem.W.keepIn K (.ref f) = true
section
variable {P : Program} {w : World} {K : PySem.W.Frag} {mg : Str → Option Value} {base : Heap}
theorem Fun.ok {x qual : Str} {st : Stmt} {f : Addr} {fd : FuncData} {N ps : List Str} {k : Nat} {sp : Sp} (F : Fun K x qual st f fd) (S : FnScope N ps (defScope st)) (len : ∀ vs H Q E, sp vs H Q E → vs.length = ps.length)
    (hbody : ∀ (cdv : Value) (A : Around) (outer : List Env) (s : Shared) (H : Hp) (vs : List V) (Q : VK) (E : XK), Room k (A.deeper (envOfC qual (defScope st) s.heap.objs.size f cdv)) → sp vs H Q E →
      ∃ t, PSs (cxOf CX0 P w K mg base N qual (defScope st) f cdv A outer s H E).nox (defBody st) t ∧ t { nx := fun _ H' => Q .non H', rt := Q } (start N vs) H) : FnOk P w K mg base CX0 (k + 1) f fd ps sp := by
  obtain ⟨oc, od, kV, doc, pm, an, cdv, ct, osl, rfl, lk, hcd⟩ := F.ex
  refine fn_of lk hcd S len fun A outer s H vs Q E hr hsp => ?_
  obtain ⟨t, h, q⟩ := hbody cdv A outer s H vs Q E hr hsp
  exact ⟨t, h.nox, q⟩
theorem Fun.binds {x qual : Str} {st : Stmt} {f : Addr} {fd : FuncData} {ps : List Str} (F : Fun K x qual st f fd)
    (h : ∀ (kV doc pm : Value) (an : Option Addr) (cdv ct : Value) (us : List Value), us.length = ps.length → bindArgs (PySem.W.fnOf x qual (defArgs st) (defBody st) (defScope st) .none kV doc pm an cdv ct) ⟨us, []⟩ = pure (ps.zip us)) : Binds K fd ps [] := by
  obtain ⟨oc, od, kV, doc, pm, an, cdv, ct, osl, rfl, lk, hcd⟩ := F.ex
  exact .all (h kV doc pm an cdv ct)
theorem fun_mk {x qual : Str} {st : Stmt} {f : Addr} {oc : Value} {od an : Option Addr} {osl : Array (Option Value)} {kV doc pm cdv ct : Value} (l : K.lookup f = some ⟨oc, od, .func (PySem.W.fnOf x qual (defArgs st) (defBody st) (defScope st) .none kV doc pm an cdv ct), osl⟩)
    (c : PySem.W.codeIn K cdv qual = true) (k : PySem.W.keepIn K (.ref f) = true) : Fun K x qual st f (PySem.W.fnOf x qual (defArgs st) (defBody st) (defScope st) .none kV doc pm an cdv ct) := ⟨⟨oc, od, kV, doc, pm, an, cdv, ct, osl, rfl, l, c⟩, k⟩
end
theorem hu_of {A : Around} {k : Nat} (hr : Room k A) : A.units + 1 < cLine := Nat.lt_of_le_of_lt (Nat.add_le_add_left (by decide : 1 ≤ 64) _) hr.units
section
variable {X : Cx}
end

theorem iteF {A B : Prop} (h : B) : if false = true then A else B := by
  rw [if_neg Bool.false_ne_true]
  exact h
theorem iteT {A B : Prop} (h : A) : if true = true then A else B := by
  rw [if_pos rfl]
  exact h
theorem ite2 {c A B : Prop} [Decidable c] (h1 : c → A) (h2 : ¬ c → B) : if c then A else B := by
  by_cases h : c
  · rw [if_pos h]
    exact h1 h
  · rw [if_neg h]
    exact h2 h
theorem iteNS {c A B : Prop} [Decidable c] (hc : c) (h : B) : if (!decide c) = true then A else B := by
  rw [decide_eq_true hc]
  exact iteF h

noncomputable def Same (H H' : Hp) : Prop := ∀ b o, H b = some o → H' b = some o
theorem Same.refl (H : Hp) : Same H H := fun _ _ h => h
theorem Same.trans {H H1 H2 : Hp} (a : Same H H1) (b : Same H1 H2) : Same H H2 := fun c o h => b c o (a c o h)
theorem Same.free {H H' : Hp} (e : Same H H') {l : Addr} (h : H' l = Option.none) : H l = Option.none := by
  cases q : H l with
  | none => rfl
  | some o =>
    rw [e l o q] at h
    cases h
theorem Same.seq {K : PySem.W.Frag} {H H' : Hp} {a : Addr} {xs : List V} (e : Same H H') (h : SqL K H a xs) : SqL K H' a xs := by
  rcases h with (h | ⟨o, h⟩) | h
  · exact .inl (.inl (e _ _ h))
  · exact .inl (.inr ⟨o, e _ _ h⟩)
  · exact .inr h

end L2

namespace L2
open PySem PySem.Spec PyProof.Rows
section
variable {X : Cx}
end
section
variable {κ : Type} [DecidableEq κ]
end
end L2
set_option maxHeartbeats 4000000
namespace L2
open PySem PySem.Spec PyProof.Rows

theorem comp_loop_any {prog : Program} {w : World} {A : Around} {R : Result → Shared → Prop} {s : Shared}
    {elt tg iter : Expr} {ifs : List Expr} {scope : Scope} {pos : Pos} {it acc : Value} {env : Env}
    (I : Nat → Shared → Prop)
    (turn : ∀ n s, I n s → wpAny (model prog w) A (pyNext it)
      (fun r s1 => match r with
        | none => R (.ok .next) s1
        | some v => wpAny (model prog w) A (letOwnedTupleGo tg it v) (fun _ s2 =>
            wpAny (model prog w) A (assign tg env v) (fun _ s3 =>
            wpAny (model prog w) A
              (forIn ifs true fun c r => if r = true then do
                  let ok ← isTrue c env (eval c env)
                  pure (ForInStep.yield ok)
                else pure (ForInStep.yield r))
              (fun ok s4 => if ok = true then
                  wpAny (model prog w) A (eval elt env) (fun x s5 =>
                    wpAny (model prog w) A (call (.builtin "list.append") [acc, x])
                      (fun _ s6 => ∃ m, m < n ∧ I m s6) (fun _ _ => False) s5) (fun _ _ => False) s4
                else ∃ m, m < n ∧ I m s4) (fun _ _ => False) s3) (fun _ _ => False) s2)
            (fun _ _ => False) s1)
      (fun _ _ => False) s)
    (n : Nat) (h : I n s) :
    codeAny (model prog w) A (.compLoop (.ListComp elt [⟨tg, iter, ifs, 0⟩] scope pos) 0 it acc env) R s := by
  refine codeAny_loop rfl I (fun n s hI => ?_) n h
  show wpAny _ A ((compTurn _ 0 it acc env).onRaise (fun x => do noteFrame x env; theTreesLotGoes x)) _ _ s
  refine wpAny_noted (E := fun e s' => R (.error e) s') ?_
  rw [compTurn_list]
  refine wpAny_bind (wpAny_standAt (wpAny_bind (wpAny_mono (turn n s hI) (fun r s1 h1 => ?_) fun _ _ z => z.elim)))
  cases r with
  | none => exact wpAny_pure h1
  | some v =>
    refine wpAny_bind (wpAny_mono h1 (fun _ s2 h2 => wpAny_bind (wpAny_mono h2 (fun _ s3 h3 =>
      wpAny_bind (wpAny_mono h3 (fun ok s4 h4 => ?_) fun _ _ z => z.elim)) fun _ _ z => z.elim)) fun _ _ z => z.elim)
    cases ok with
    | false => exact wpAny_pure ⟨rfl, h4⟩
    | true =>
      exact wpAny_bind (wpAny_bind (wpAny_mono h4 (fun x s5 h5 => wpAny_bind (wpAny_mono h5
        (fun _ s6 h6 => wpAny_pure (wpAny_pure ⟨rfl, h6⟩)) fun _ _ z => z.elim)) fun _ _ z => z.elim))

theorem closure_ok {scope : Scope} {env : Env} (h : ∀ y ∈ scope.names, y.2 = .free → ∃ c, env.cells.lookup y.1 = some c) :
    ∃ cl, closureFor scope env = pure cl ∧ (∀ x c, cl.lookup x = some c → env.cells.lookup x = some c) ∧
      ∀ y ∈ scope.names, y.2 = .free → ∃ c, cl.lookup y.1 = some c := by
  have all : ∀ (ns : List (Str × NameKind)), (∀ y ∈ ns, y.2 = .free → ∃ c, env.cells.lookup y.1 = some c) → ∀ cl0 : List (Str × Addr),
      (∀ x c, cl0.lookup x = some c → env.cells.lookup x = some c) →
      ∃ cl, (forIn ns cl0 fun (x : Str × NameKind) (r : List (Str × Addr)) =>
          (if (x.2 == NameKind.free) = true then do
            let a ← cellOf env x.1
            pure (ForInStep.yield ((x.1, a) :: r))
          else pure (ForInStep.yield r) : Sem _)) = pure cl ∧ (∀ x c, cl.lookup x = some c → env.cells.lookup x = some c) ∧
        (∀ x c, cl0.lookup x = some c → ∃ c, cl.lookup x = some c) ∧ ∀ y ∈ ns, y.2 = .free → ∃ c, cl.lookup y.1 = some c := by
    intro ns
    induction ns with
    | nil => exact fun _ cl0 h0 => ⟨cl0, rfl, h0, fun x c e => ⟨c, e⟩, fun y hy => nomatch hy⟩
    | cons y r ih =>
      intro hy cl0 h0
      by_cases hk : y.2 = .free
      · obtain ⟨c, hc⟩ := hy y (.head _) hk
        have h1 : ∀ x d, ((y.1, c) :: cl0).lookup x = some d → env.cells.lookup x = some d := fun x d e => by
          rw [List.lookup_cons] at e
          cases q : x == y.1 with
          | true =>
            rw [q] at e
            have : x = y.1 := eq_of_beq q
            subst this
            exact (Option.some.inj e) ▸ hc
          | false =>
            rw [q] at e
            exact h0 x d e
        obtain ⟨cl, e, a, b, d⟩ := ih (fun z hz => hy z (.tail _ hz)) ((y.1, c) :: cl0) h1
        have keep : ∀ x d, cl0.lookup x = some d → ∃ d, cl.lookup x = some d := fun x d e => by
          cases q : x == y.1 with
          | true => exact b x c (by rw [List.lookup_cons, q])
          | false => exact b x d (by rw [List.lookup_cons, q]; exact e)
        refine ⟨cl, ?_, a, keep, fun z hz hf => ?_⟩
        · rw [List.forIn_cons]
          have : (y.2 == NameKind.free) = true := by rw [hk]; rfl
          rw [if_pos this]
          have ec : cellOf env y.1 = pure c := by unfold cellOf; rw [hc]
          rw [ec]
          exact e
        · rcases List.mem_cons.mp hz with rfl | hz
          · exact b z.1 c (by rw [List.lookup_cons, beq_self_eq_true])
          · exact d z hz hf
      · obtain ⟨cl, e, a, b, d⟩ := ih (fun z hz => hy z (.tail _ hz)) cl0 h0
        refine ⟨cl, ?_, a, b, fun z hz hf => ?_⟩
        · rw [List.forIn_cons]
          have : ¬ (y.2 == NameKind.free) = true := by simpa using hk
          rw [if_neg this]
          exact e
        · rcases List.mem_cons.mp hz with rfl | hz
          · exact absurd hf hk
          · exact d z hz hf
  obtain ⟨cl, e, a, _, d⟩ := all scope.names h [] (fun x c e => by simp at e)
  exact ⟨cl, congrArg (fun (m : Sem (List (Str × Addr))) => m >>= fun cs => pure cs) e, a, d⟩

theorem relabel_kind {scope : Scope} {env : Env} {x : Str} (hc : ∀ y ∈ scope.names, y.2 ≠ .cell)
    (h : (relabel scope env).names.lookup x = some .cell ∨ (relabel scope env).names.lookup x = some .free) : ∃ y ∈ scope.names, y.1 = x ∧ y.2 = .free := by
  have all : ∀ ns : List (Str × NameKind), (∀ y ∈ ns, y.2 ≠ .cell) → ∀ k, (k = NameKind.cell ∨ k = NameKind.free) →
      (ns.map fun (n, k) => if (k == .free && env.scope.kind == .function && env.kindOf n == some .cell) then (n, .cell) else (n, k)).lookup x = some k → ∃ y ∈ ns, y.1 = x ∧ y.2 = .free := by
    intro ns
    induction ns with
    | nil => intro _ k _ e; simp at e
    | cons y r ih =>
      intro hn k hk e
      obtain ⟨n, j⟩ := y
      rw [List.map_cons, List.lookup_cons] at e
      have step : (∃ z ∈ r, z.1 = x ∧ z.2 = .free) → ∃ z ∈ (n, j) :: r, z.1 = x ∧ z.2 = .free := fun ⟨z, hz, q⟩ => ⟨z, .tail _ hz, q⟩
      by_cases hcc : (j == NameKind.free && env.scope.kind == .function && env.kindOf n == some .cell) = true
      · have hj : j = .free := by
          simp only [Bool.and_eq_true, beq_iff_eq] at hcc
          exact hcc.1.1
        simp only [hcc, if_true] at e
        cases q : x == n with
        | true => exact ⟨(n, j), .head _, (eq_of_beq q).symm, hj⟩
        | false =>
          rw [q] at e
          exact step (ih (fun z hz => hn z (.tail _ hz)) k hk e)
      · simp only [hcc, if_false, Bool.false_eq_true] at e
        cases q : x == n with
        | true =>
          rw [q] at e
          have ej : j = k := Option.some.inj e
          refine ⟨(n, j), .head _, (eq_of_beq q).symm, ?_⟩
          rcases hk with hk | hk
          · exact absurd (ej.trans hk) (hn (n, j) (.head _))
          · exact ej.trans hk
        | false =>
          rw [q] at e
          exact step (ih (fun z hz => hn z (.tail _ hz)) k hk e)
  rcases h with h | h
  · exact all scope.names hc _ (.inl rfl) h
  · exact all scope.names hc _ (.inr rfl) h

noncomputable def cxComp (X : Cx) (N : List Str) (scope : Scope) (cl : List (Str × Addr)) (fp : List Addr) (s : Shared) (H : Hp) : Cx where
  prog := X.prog
  w := X.w
  K := X.K
  mg := X.mg
  base := X.base
  A := X.A
  N := N
  s₀ := s
  H₀ := H
  env := compEnvC scope cl s.heap.objs.size X.env
  outer := X.stack
  stack := X.stack
  ex := fp
  fn := fun _ => false
  calm := X.calm
  pn := []
  xe := fun _ _ => False

noncomputable def blockSt (n : Nat) (cap : List Nat) (σ : St) : St := List.replicate n none ++ cap.map fun j => (σ[j]?).join

noncomputable def PTs (X : Cx) (ifs : List Expr) (t : TT) : Prop :=
  ∀ (pins : List (Addr × Obj)) (s : Shared) (σ : St) (H : Hp) (Q : Bool → Hp → Prop), Inv X pins σ H s → t σ H Q →
    wpAny (model X.prog X.w) X.A (forIn ifs true fun c r => if r = true then do
        let ok ← isTrue c X.env (eval c X.env)
        pure (ForInStep.yield ok)
      else pure (ForInStep.yield r)) (TP X pins σ Q) X.xe s
noncomputable def tYes : TT := fun _ H Q => Q true H
theorem pts_nil {X : Cx} : PTs X [] tYes := fun _ _ _ H _ I h => wpAny_tests_nil ⟨H, I, h⟩
theorem pts_one {X : Cx} {c : Expr} {t : TT} (h : PT X c t) : PTs X [c] t := fun pins s σ H Q I hw => wpAny_tests_one (h pins s σ H Q I hw)

noncomputable def compRun (J : It) (D : Addr) (n : Nat) (cap : List Nat) (σ : St) (g : TG) (tt : TT) (te : TE) (Q : VK) (H1 : Hp) : Prop :=
  ∃ W : Nat → Nat → Hp → Prop, (∃ m, W 0 m (upd H1 D (.lst []))) ∧ ∀ i m H, W i m H →
    (J.stop i H ∧ Q (.ref D) H) ∨ (J.go i H ∧ ∃ N : Hp → Prop, (∀ H', N H' → ∃ m', m' < m ∧ W (i + 1) m' H') ∧ ∀ x H', J.yld i H x H' → g x (blockSt n cap σ) H' fun σ2 H2 =>
      tt σ2 H2 fun b H3 => if b = true then te σ2 H3 fun y H4 => ∃ xs, H4 D = some (.lst xs) ∧ xs.length < sizeLine ∧ N (upd H4 D (.lst (xs ++ [y])))
        else N H3)
noncomputable def tComp (n : Nat) (cap : List Nat) (wi : TI) (g : TG) (tt : TT) (te : TE) : TE := fun σ H Q => wi σ H fun J H1 => ∀ D, H1 D = none → compRun J D n cap σ g tt te Q H1

section
variable {X : Cx} {elt tg iter : Expr} {ifs : List Expr} {scope : Scope} {pos : Pos} {N : List Str} {n : Nat} {cap : List Nat} {wi : TI} {g : TG} {tt : TT} {te : TE}

structure Blk (X : Cx) (scope : Scope) (N : List Str) (n : Nat) (cap : List Nat) : Prop where
  kind : scope.kind = .function
  cell : ∀ y ∈ scope.names, y.2 ≠ .cell
  names : ∀ y ∈ scope.names, y.2 = .local → scope.names.lookup y.1 = some .local
  free : ∀ y ∈ scope.names, y.2 = .free → X.env.kindOf y.1 = some .cell ∨ X.env.kindOf y.1 = some .free
  len : N.length = n + cap.length
  caps : ∀ (i j : Nat) (x : Str), cap[i]? = some j → N[n + i]? = some x → X.N[j]? = some x ∧ (scope.names.lookup x = some .free)
end

noncomputable def blkOk (names : List (Str × NameKind)) (N : List Str) (n : Nat) (cap : List Nat) (No : List Str) (so : List (Str × NameKind)) : Bool :=
  names.all (fun y => y.2 != .cell) && names.all (fun y => y.2 != .local || names.lookup y.1 == some .local) &&
  names.all (fun y => y.2 != .free || (so.lookup y.1 == some .cell || so.lookup y.1 == some .free)) && (N.length == n + cap.length) &&
  (List.range cap.length).all fun i => match cap[i]?, N[n + i]? with
    | some j, some x => No[j]? == some x && names.lookup x == some .free
    | _, _ => true
theorem blk_of {X : Cx} {scope : Scope} {N : List Str} {n : Nat} {cap : List Nat} (hk : scope.kind = .function) (h : blkOk scope.names N n cap X.N X.env.scope.names = true) : Blk X scope N n cap := by
  unfold blkOk at h
  simp only [Bool.and_eq_true, List.all_eq_true] at h
  obtain ⟨⟨⟨⟨h1, h2⟩, h3⟩, h4⟩, h5⟩ := h
  refine ⟨hk, fun y hy z => ?_, fun y hy z => ?_, fun y hy z => ?_, by simpa using h4, fun i j x e1 e2 => ?_⟩
  · have := h1 y hy
    rw [z] at this
    cases this
  · have := h2 y hy
    rw [z] at this
    simpa using this
  · have := h3 y hy
    rw [z] at this
    show X.env.scope.names.lookup y.1 = some .cell ∨ X.env.scope.names.lookup y.1 = some .free
    simpa using this
  · have hi : i < cap.length := (List.getElem?_eq_some_iff.mp e1).1
    have := h5 i (List.mem_range.mpr hi)
    rw [e1, e2] at this
    simpa using this

theorem blk_get {n : Nat} {cap : List Nat} {σ : St} {i : Nat} {v : V} (h : (blockSt n cap σ)[i]? = some (some v)) :
    ∃ k j, i = n + k ∧ cap[k]? = some j ∧ σ[j]? = some (some v) := by
  unfold blockSt at h
  by_cases hi : i < n
  · rw [List.getElem?_append_left (by simpa using hi), List.getElem?_replicate, if_pos hi] at h
    cases h
  · rw [List.getElem?_append_right (by simpa using Nat.not_lt.mp hi)] at h
    simp only [List.length_replicate, List.getElem?_map] at h
    cases e : cap[i - n]? with
    | none => rw [e] at h; cases h
    | some j =>
      rw [e] at h
      have h' : (σ[j]?).join = some v := Option.some.inj h
      refine ⟨i - n, j, by omega, e, ?_⟩
      cases q : σ[j]? with
      | none => rw [q] at h'; cases h'
      | some o =>
        rw [q] at h'
        exact congrArg some h'

theorem relabel_free {scope : Scope} {env : Env} {x : Str} (h : scope.names.lookup x = some .free) :
    (relabel scope env).names.lookup x = some .cell ∨ (relabel scope env).names.lookup x = some .free := by
  have all : ∀ ns : List (Str × NameKind), ns.lookup x = some .free →
      (ns.map fun (n, k) => if (k == .free && env.scope.kind == .function && env.kindOf n == some .cell) then (n, NameKind.cell) else (n, k)).lookup x = some .cell ∨
      (ns.map fun (n, k) => if (k == .free && env.scope.kind == .function && env.kindOf n == some .cell) then (n, NameKind.cell) else (n, k)).lookup x = some .free := by
    intro ns
    induction ns with
    | nil => intro e; simp at e
    | cons y r ih =>
      intro e
      obtain ⟨m, j⟩ := y
      rw [List.lookup_cons] at e
      rw [List.map_cons, List.lookup_cons]
      cases q : x == m with
      | true =>
        rw [q] at e
        have ej : j = .free := Option.some.inj e
        subst ej
        by_cases hcc : (NameKind.free == NameKind.free && env.scope.kind == .function && env.kindOf m == some .cell) = true
        · simp only [hcc, if_true, q, true_or]
        · simp only [hcc, if_false, Bool.false_eq_true, q, or_true]
      | false =>
        rw [q] at e
        have h1 := ih e
        by_cases hcc : (j == NameKind.free && env.scope.kind == .function && env.kindOf m == some .cell) = true
        · simp only [hcc, if_true, q]
          exact h1
        · simp only [hcc, if_false, Bool.false_eq_true, q]
          exact h1
  exact all scope.names h

theorem comp_ok {X : Cx} {pins : List (Addr × Obj)} {σ : St} {H : Hp} {s : Shared} {N : List Str} {scope : Scope} {n : Nat} {cap : List Nat} {cl : List (Str × Addr)} {fp : List Addr}
    (I : Inv X pins σ H s) (B : Blk X scope N n cap) (c1 : ∀ x c, cl.lookup x = some c → X.env.cells.lookup x = some c)
    (c2 : ∀ y ∈ scope.names, y.2 = .free → ∃ c, cl.lookup y.1 = some c) (hf : ∀ b ∈ fp, FpOk X pins H b) (hfl : ∀ b ∈ fp, b < s.heap.objs.size) : (cxComp X N scope cl fp s H).Ok where
  mod := I.ok.mod
  kind := by show (relabel scope X.env).kind = _; exact B.kind
  glob := I.ok.glob
  blt := I.ok.blt
  above := Nat.le_refl _
  inj := fun x y c e1 e2 => I.ok.inj x y c (c1 x c e1) (c1 y c e2)
  has := fun x h => by
    obtain ⟨y, hy, e, k⟩ := relabel_kind B.cell h
    obtain ⟨c, hc⟩ := c2 y hy k
    exact ⟨c, e ▸ hc⟩
  cab := fun x c h => nomatch h
  hd := I.ok.hd
  frames := I.ok.frames
  stk := .inl rfl
  exf := fun b hb => ⟨Nat.ne_of_lt (hfl b hb), fun x c e => (hf b hb).2.2.2.2.1 x c (c1 x c e)⟩
  bs := I.bs
  bsz := Nat.le_trans I.ok.bsz I.sz
  noex := fun b o e hb => by
    rcases (hf b hb).2.2.2.1 with z | z
    · exact I.ok.noex b o e z
    · exact absurd (Nat.lt_of_lt_of_le (Heap.lt_size e) (Nat.le_trans I.ok.bsz z)) (Nat.lt_irrefl _)
  exfs := fun b hb z => by
    rcases List.mem_cons.mp (I.stkSub b z) with e | e
    · exact (hf b hb).2.1 e
    · exact (hf b hb).2.2.1 e
  funs := I.stack
  frf := I.stkFree

theorem comp_start {X : Cx} {pins : List (Addr × Obj)} {σ : St} {H : Hp} {s : Shared} {h1 : Heap} {t1 : Nat} {N : List Str} {scope : Scope} {n : Nat} {cap : List Nat} {cl : List (Str × Addr)} {fp : List Addr} {m : Str → Option Value}
    (I : Inv X pins σ H s) (B : Blk X scope N n cap) (c1 : ∀ x c, cl.lookup x = some c → X.env.cells.lookup x = some c)
    (c2 : ∀ y ∈ scope.names, y.2 = .free → ∃ c, cl.lookup y.1 = some c) (hf : ∀ b ∈ fp, FpOk X pins H b) (hfl : ∀ b ∈ fp, b < s.heap.objs.size)
    (hn : h1.Ns s.heap.objs.size m) (k : ∀ b o, s.heap.get? b = some o → h1.get? b = some o) :
    Inv (cxComp X N scope cl fp s H) [] (blockSt n cap σ) H { s with heap := h1, toks := t1 } where
  ok := comp_ok I B c1 c2 hf hfl
  os := rfl
  bare := I.bare
  base := Un.kept k
  loc := by
    refine ⟨m, hn, fun i x v e1 e2 e3 => ?_⟩
    obtain ⟨k', j, rfl, ec, es⟩ := blk_get e2
    obtain ⟨ex, ef⟩ := B.caps k' j x ec e1
    have hy : ∃ y ∈ scope.names, y.1 = x ∧ y.2 = .free := relabel_kind (env := X.env) B.cell (relabel_free ef)
    obtain ⟨y, hy, ey, ky⟩ := hy
    have kx : X.env.kindOf x = some .cell ∨ X.env.kindOf x = some .free := ey ▸ B.free y hy ky
    obtain ⟨m0, _, hl⟩ := I.loc
    have vis : Vis X.env.scope x := .inr kx
    obtain ⟨u, r, l⟩ := hl j x v ex es vis
    refine ⟨u, r, .inr ⟨relabel_free ef, ?_⟩⟩
    rcases l with ⟨kl, _⟩ | ⟨_, c, hc, ho⟩
    · rcases kx with q | q <;> (rw [kl] at q; cases q)
    · obtain ⟨c', hc'⟩ := c2 y hy ky
      rw [ey] at hc'
      have := c1 x c' hc'
      rw [hc] at this
      cases this
      obtain ⟨o, eo, d⟩ := ho
      exact ⟨c, hc', o, k c o eo, d⟩
  cell := fun x c e => by
    obtain ⟨v, o, eo, d⟩ := I.cell x c (c1 x c e)
    exact ⟨v, o, k c o eo, d⟩
  free := I.hok.fresh (Nat.le_refl _)
  freeC := fun x c e => I.freeC x c (c1 x c e)
  pin := fun p hp => nomatch hp
  hok := I.hok.kept k
  len := by show (blockSt n cap σ).length = N.length; rw [B.len]; unfold blockSt; simp

theorem comp_end {X : Cx} {pins : List (Addr × Obj)} {σ σ' : St} {H H' : Hp} {s s' : Shared} {N : List Str} {scope : Scope} {cl : List (Str × Addr)} {fp : List Addr} {pl : List (Addr × Obj)}
    (I : Inv X pins σ H s) (I' : Inv (cxComp X N scope cl fp s H) pl σ' H' s') (hf : ∀ b ∈ fp, FpOk X pins H b) :
    Inv X pins σ H' s' ∧ FpOk X pins H' s.heap.objs.size ∧ ∃ m, s'.heap.Ns s.heap.objs.size m := by
  obtain ⟨m, hn, _⟩ := I'.loc
  have u : Un (frs X.stack) fp H H' s.heap s'.heap := I'.base
  have J : Inv X pins σ H' s' := I.call' (ch := fp) I'.os u I'.hok I'.bare fun b hb => by
    obtain ⟨_, a1, _, a3, a4, a5⟩ := hf b hb
    exact ⟨a3, a1, a4, a5⟩
  exact ⟨J, I.fpOk (Nat.le_refl _) I'.free, m, hn⟩

noncomputable def KeepG (n : Nat) (g : TG) : Prop := ∀ x σ H Q, g x σ H Q → g x σ H fun σ2 H2 => Q σ2 H2 ∧ σ2.length = σ.length ∧ ∀ z, n ≤ z → σ2[z]? = σ[z]?
noncomputable def KeepGs (n : Nat) (g : TGs) : Prop := ∀ xs σ H Q, g xs σ H Q → g xs σ H fun σ2 H2 => Q σ2 H2 ∧ σ2.length = σ.length ∧ ∀ z, n ≤ z → σ2[z]? = σ[z]?
theorem keep_name {n i : Nat} (h : i < n) : KeepG n (gName i) := fun x σ H Q q => ⟨q, by simp, fun z hz => by rw [List.getElem?_set_ne (by omega)]⟩
theorem keep_nil {n : Nat} : KeepGs n gNil := fun xs σ H Q q => ⟨q.1, q.2, rfl, fun _ _ => rfl⟩
theorem keep_cons {n i : Nat} {u : TGs} (h : i < n) (hu : KeepGs n u) (hm : ∀ xs σ H (Q Q' : St → Hp → Prop), u xs σ H Q → (∀ a b, Q a b → Q' a b) → u xs σ H Q') : KeepGs n (gCons (gName i) u) := fun xs σ H Q q => by
  obtain ⟨v, r, e, q⟩ := q
  refine ⟨v, r, e, hm r _ H _ _ (hu r _ H _ q) fun σ2 H2 ⟨p, l, k⟩ => ⟨p, by rw [l]; simp, fun z hz => ?_⟩⟩
  rw [k z hz, List.getElem?_set_ne (by omega)]
theorem mono_nil : ∀ xs σ H (Q Q' : St → Hp → Prop), gNil xs σ H Q → (∀ a b, Q a b → Q' a b) → gNil xs σ H Q' := fun xs σ H Q Q' q m => ⟨q.1, m _ _ q.2⟩
theorem mono_cons {i : Nat} {u : TGs} (hm : ∀ xs σ H (Q Q' : St → Hp → Prop), u xs σ H Q → (∀ a b, Q a b → Q' a b) → u xs σ H Q') :
    ∀ xs σ H (Q Q' : St → Hp → Prop), gCons (gName i) u xs σ H Q → (∀ a b, Q a b → Q' a b) → gCons (gName i) u xs σ H Q' := fun xs σ H Q Q' ⟨v, r, e, q⟩ m => ⟨v, r, e, hm r _ H _ _ q m⟩
theorem keep_pair {K : PySem.W.Frag} {n m i j : Nat} (hi : i < n) (hj : j < n) : KeepG n (gTup K m (gCons (gName i) (gCons (gName j) gNil))) := fun x σ H Q q => by
  obtain ⟨a, xs, e, hq, hl, q⟩ := q
  exact ⟨a, xs, e, hq, hl, keep_cons hi (keep_cons hj keep_nil mono_nil) (mono_cons mono_nil) xs σ H Q q⟩
theorem comp_core {X : Cx} {elt tg iter : Expr} {ifs : List Expr} {scope : Scope} {pos : Pos} {N : List Str} {n : Nat} {cap : List Nat} {g : TG} {tt : TT} {te : TE}
    {cl : List (Str × Addr)} {RR : Value → Addr → Result → Shared → Prop} {E : Value → Shared → Prop}
    (hc : X.calm = true) (B : Blk X scope N n cap) (c1 : ∀ x c, cl.lookup x = some c → X.env.cells.lookup x = some c) (c2 : ∀ y ∈ scope.names, y.2 = .free → ∃ c, cl.lookup y.1 = some c)
    (hk : KeepG n g) (hg : ∀ cl fp s H, PG (cxComp X N scope cl fp s H) tg g) (ht : ∀ cl fp s H, PTs (cxComp X N scope cl fp s H) ifs tt) (he : ∀ cl fp s H, PE (cxComp X N scope cl fp s H) elt te)
    {pins : List (Addr × Obj)} {σ : St} {Q : VK} {itv : Value} {s2 : Shared}
    (h : PIE X pins σ tg (fun J H1 => ∀ D, H1 D = none → compRun J D n cap σ g tt te Q H1) itv s2)
    (hRR : ∀ (D C : Addr) (H' : Hp) (s' : Shared) (m : Str → Option Value), Inv X pins σ H' s' → FpOk X pins H' C → s'.heap.Ns C m → Q (.ref D) H' → RR (.ref D) C (.ok .next) s') :
    wpAny (model X.prog X.w) X.A (newList []) (fun acc s3 =>
      wpAny (model X.prog X.w) X.A (newFunctionEnv scope X.env.globals cl [] X.env.qual none .none (some X.env)) (fun cenv s4 =>
        codeAny (model X.prog X.w) X.A (.compStart (.ListComp elt [⟨tg, iter, ifs, 0⟩] scope pos) 0 itv acc { cenv with scope := relabel scope X.env })
          (RR acc cenv.locals) s4) E s3) E s2 := by
  obtain ⟨it, fp, tn, J, H2, e, I2, T, st2, f2, q2⟩ := h
  subst e
  refine wpAny_newObj_type ?_ (by show 0 ≤ sizeLine; decide)
  have hD : H2 s2.heap.objs.size = none := I2.hok.fresh (Nat.le_refl _)
  obtain ⟨W, ⟨m0, w0⟩, turn⟩ := q2 _ hD
  have I3 : Inv X pins σ (upd H2 s2.heap.objs.size (.lst [])) { s2 with heap := s2.heap.push { cls := .type "list", data := .seq ([] : List Value).toArray }, toks := s2.toks } :=
    I2.lnew .nil (by show 0 ≤ sizeLine; decide)
  have st3 : tn 0 (s2.heap.push { cls := .type "list", data := .seq ([] : List Value).toArray }) := T.keep _ _ _ st2 fun b _ o e => Heap.get?_push_of_some _ e
  have obj2 := T.obj _ _ st2
  have fD : ∀ b ∈ fp, b ≠ s2.heap.objs.size := fun b hb => by
    obtain ⟨o, eo, _⟩ := obj2 b hb
    exact Nat.ne_of_lt (Heap.lt_size eo)
  have f3 : ∀ b ∈ fp, FpOk X pins (upd H2 s2.heap.objs.size (.lst [])) b := fun b hb => ⟨by rw [upd_ne (fD b hb)]; exact (f2 b hb).1, (f2 b hb).2⟩
  have go3 : ∀ (s3 : Shared) (H3 : Hp), Inv X pins σ H3 s3 → tn 0 s3.heap → (∀ b ∈ fp, FpOk X pins H3 b) → W 0 m0 H3 →
      wpAny (model X.prog X.w) X.A (newFunctionEnv scope X.env.globals cl [] X.env.qual none .none (some X.env)) (fun cenv s4 =>
        codeAny (model X.prog X.w) X.A (.compStart (.ListComp elt [⟨tg, iter, ifs, 0⟩] scope pos) 0 (.ref it) (.ref s2.heap.objs.size) { cenv with scope := relabel scope X.env })
          (RR (.ref s2.heap.objs.size) cenv.locals) s4) E s3 := by
    intro s3 H3 I3 st3 f3 w0
    refine wpAny_newFunctionEnv B.cell (fun y hy => nomatch hy) (fun h4 n4 sb4 => ?_) B.kind
    have k4 : ∀ b o, s3.heap.get? b = some o → h4.get? b = some o := fun b o e => sb4.extBut b o (Nat.ne_of_lt (Heap.lt_size e)) (Heap.get?_push_of_some _ e)
    have fl3 : ∀ b ∈ fp, b < s3.heap.objs.size := fun b hb => by
      obtain ⟨o, eo, _⟩ := T.obj _ _ st3 b hb
      exact Heap.lt_size eo
    have I4 : Inv (cxComp X N scope cl fp s3 H3) [] (blockSt n cap σ) H3 { s3 with heap := h4, toks := s3.toks + ([] : List (Str × Value)).length } :=
      comp_start I3 B c1 c2 f3 fl3 n4 k4
    have st4 : tn 0 h4 := T.keep _ _ _ st3 fun b _ o e => k4 b o e
    have stat : ∀ {H' : Hp}, (∀ b ∈ fp, H' b = none) → ∀ b ∈ fp, FpOk (cxComp X N scope cl fp s3 H3) [] H' b := fun hn b hb => by
      obtain ⟨_, a1, a2, _, a4, _⟩ := f3 b hb
      refine ⟨hn b hb, Nat.ne_of_lt (fl3 b hb), fun z => ?_, .inl hb, fun x c e => a4 x c (c1 x c e), fun p hp => nomatch hp⟩
      rcases List.mem_cons.mp (I3.stkSub b z) with e | e
      · exact a1 e
      · exact a2 e
    have loop : ∀ s5 : Shared, s5 = { s3 with heap := h4, toks := s3.toks + ([] : List (Str × Value)).length } →
        codeAny (model X.prog X.w) X.A (.compLoop (.ListComp elt [⟨tg, iter, ifs, 0⟩] scope pos) 0 (.ref it) (.ref s2.heap.objs.size) (compEnvC scope cl s3.heap.objs.size X.env))
          (RR (.ref s2.heap.objs.size) s3.heap.objs.size) s5 := by
      rintro s5 rfl
      refine comp_loop_any (fun k s' => ∃ i H', Inv (cxComp X N scope cl fp s3 H3) [] (blockSt n cap σ) H' s' ∧ tn i s'.heap ∧ (∀ b ∈ fp, H' b = none) ∧ W i k H') ?_ m0
        ⟨0, H3, I4, st4, fun b hb => (f3 b hb).1, w0⟩
      rintro k s6 ⟨i, H6, I6, st6, fr6, w6⟩
      rcases turn i k H6 w6 with ⟨stop, qn⟩ | ⟨go, N6, hN6, step⟩
      · refine thn (T.done (cxComp X N scope cl fp s3 H3) rfl rfl rfl hc i [] s6 _ H6 _ I6 (stat fr6) st6 stop) fun r s7 ⟨hr, I7⟩ => ?_
        subst hr
        obtain ⟨J7, C7, m7, n7⟩ := comp_end I3 I7 f3
        exact hRR _ _ H6 s7 m7 J7 C7 n7 qn
      · refine thn (T.item (cxComp X N scope cl fp s3 H3) rfl rfl rfl hc i [] s6 _ H6 _ I6 (stat fr6) st6 go) fun r s7 ⟨u, hr, h7⟩ => ?_
        subst hr
        refine thn h7 fun _ s8 ⟨x, H8, I8, r8, y8, st8, fr8⟩ => ?_
        have I8' := I8.pinned (stat fr8) (T.obj _ _ st8)
        refine thn (hg cl fp s3 H3 _ s8 _ H8 x u _ I8' r8 (hk _ _ _ _ (step x H8 y8))) fun _ s9 ⟨σ9, H9, I9, q9, l9, k9⟩ => ?_
        refine thn (ht cl fp s3 H3 _ s9 σ9 H9 _ I9 q9) fun b s10 ⟨H10, I10, q10⟩ => ?_
        have wk : ∀ (z : Nat) v, (blockSt n cap σ)[z]? = some (some v) → σ9[z]? = some (some v) := fun z v e => by
          obtain ⟨kk, j, rfl, _, _⟩ := blk_get e
          rw [k9 _ (Nat.le_add_right _ _)]
          exact e
        have back : ∀ {Ha : Hp} {sa : Shared} {j : Nat}, Inv (cxComp X N scope cl fp s3 H3) ([] ++ pinsAt fp s8.heap) σ9 Ha sa → W (i + 1) j Ha →
            ∃ i H', Inv (cxComp X N scope cl fp s3 H3) [] (blockSt n cap σ) H' sa ∧ tn i sa.heap ∧ (∀ b ∈ fp, H' b = none) ∧ W i j H' := fun {Ha sa j} Ia wa => by
          refine ⟨i + 1, Ha, (Ia.unpinned).weak l9.symm wk, T.keep _ _ _ st8 fun b hb o e => (Ia.pin (b, o) (List.mem_append_right _ (List.mem_append_right _ (mem_pinsAt hb e)))).1, fun b hb => ?_, wa⟩
          obtain ⟨o, e, d⟩ := T.obj _ _ st8 b hb
          exact (Ia.pin (b, o) (List.mem_append_right _ (List.mem_append_right _ (mem_pinsAt hb e)))).2.1
        cases b with
        | false =>
          rw [if_neg Bool.false_ne_true] at q10 ⊢
          obtain ⟨m', hm, w'⟩ := hN6 _ q10
          exact ⟨m', hm, back I10 w'⟩
        | true =>
          rw [if_pos rfl] at q10 ⊢
          refine thn (he cl fp s3 H3 _ s10 σ9 H10 _ I10 q10) fun y s11 ⟨yv, H11, I11, r11, q11⟩ => ?_
          obtain ⟨xs, eD, hl, q11⟩ := q11
          obtain ⟨m', hm, w'⟩ := hN6 _ q11
          refine thn (mt_append _ s11 σ9 H11 (.ref s2.heap.objs.size) [yv] (.ref s2.heap.objs.size) [y] (fun _ Hz => Hz = upd H11 s2.heap.objs.size (.lst (xs ++ [yv]))) I11 rfl (.cons r11 .nil)
            ⟨_, xs, yv, rfl, rfl, eD, hl, rfl⟩) fun _ s12 ⟨_, H12, I12, _, e12⟩ => ?_
          subst e12
          exact ⟨m', hm, back I12 w'⟩
    exact codeAny_compStart_list (loop _ rfl) (T.self _ _ _ _ _ st4 (loop _ rfl))
  exact go3 _ _ I3 st3 f3 w0

section
variable {X : Cx} {elt tg iter : Expr} {ifs : List Expr} {scope : Scope} {pos : Pos} {N : List Str} {n : Nat} {cap : List Nat} {wi : TI} {g : TG} {tt : TT} {te : TE}
theorem pe_comp (hc : X.calm = true) (B : Blk X scope N n cap) (hi : PI X tg iter wi) (hk : KeepG n g)
    (hg : ∀ cl fp s H, PG (cxComp X N scope cl fp s H) tg g) (ht : ∀ cl fp s H, PTs (cxComp X N scope cl fp s H) ifs tt) (he : ∀ cl fp s H, PE (cxComp X N scope cl fp s H) elt te)
    (hs : ∀ x, foldedSetIterable iter X.env x = pure x := by intro _; rfl) : PE X (.ListComp elt [⟨tg, iter, ifs, 0⟩] scope pos) (tComp n cap wi g tt te) := by
  intro pins s σ H Q I h
  obtain ⟨cl, ecl, c1, c2⟩ := closure_ok (scope := scope) (env := X.env) fun y hy k => I.ok.has y.1 (B.free y hy k)
  rw [eval_ListComp]
  refine wpAny_comprehension_free (use := none) rfl hs ecl B.kind B.names ?_
  refine thn (hi pins s σ H _ I h) fun v s1 h1 => thn h1 fun itv s2 h2 => ?_
  refine comp_core (RR := fun acc C => compPost (model X.prog X.w) X.A X.xe none (EP X pins σ Q) acc C) hc B c1 c2 hk hg ht he h2 fun D C H' s' m J f nn q => ?_
  exact ⟨m, nn, fun h' sb => ⟨.ref D, H', J.turned (t' := s'.toks) (fun b o hb e => sb.extBut b o hb e) f.1 f.2.1 f.2.2.2.1 f.2.2.2.2.1 f.2.2.2.2.2, rfl, q⟩⟩
theorem ps_setC {i : Nat} {x : Str} {pos' spos : Pos} (hc : X.calm = true) (B : Blk X scope N n cap) (hN : X.N.Nodup) (hi : X.N[i]? = some x) (hx : X.env.scope.names.lookup x = some .local) (hit : PI X tg iter wi) (hk : KeepG n g)
    (hg : ∀ cl fp s H, PG (cxComp X N scope cl fp s H) tg g) (ht : ∀ cl fp s H, PTs (cxComp X N scope cl fp s H) ifs tt) (he : ∀ cl fp s H, PE (cxComp X N scope cl fp s H) elt te)
    (hsw : swapsWith (.ListComp elt [⟨tg, iter, ifs, 0⟩] scope pos) (some (.Name x pos')) spos.line X.env = pure true)
    (hs : ∀ x, foldedSetIterable iter X.env x = pure x := by intro _; rfl) :
    PS X (.Assign [.Name x pos'] (.ListComp elt [⟨tg, iter, ifs, 0⟩] scope pos) spos) (tAsg (tComp n cap wi g tt te) (gName i)) := by
  intro pins s σ H D I h
  obtain ⟨cl, ecl, c1, c2⟩ := closure_ok (scope := scope) (env := X.env) fun y hy k => I.ok.has y.1 (B.free y hy k)
  rw [exec_Assign_Name_used _ _ _ _ hsw]
  refine wpAny_bind (wpAny_standAt (wpAny_bind ?_))
  show wpAny _ X.A (do
    let _ ← comprehension (.ListComp elt [⟨tg, iter, ifs, 0⟩] scope pos) scope X.env _ (newList []) false (eval iter X.env)
      (some (assign (.Name x pos') X.env))) _ _ s
  refine wpAny_bind (thn (wpAny_comprehension_free (use := some (assign (.Name x pos') X.env)) (Q := fun _ s' => SP X pins D .next s') rfl hs ecl B.kind B.names ?_) fun _ s' hq => wpAny_pure (wpAny_pure hq))
  refine thn (hit pins s σ H _ I h) fun v s1 h1 => thn h1 fun itv s2 h2 => ?_
  refine comp_core (Q := fun y H2 => gName i y σ H2 D.nx) (RR := fun acc C => compPost (model X.prog X.w) X.A X.xe (some (assign (.Name x pos') X.env)) (fun _ s' => SP X pins D .next s') acc C) hc B c1 c2 hk hg ht he h2 fun Dl C H' s' m J f nn q => ?_
  show wpAny (model X.prog X.w) X.A (assign (.Name x pos') X.env (.ref Dl)) _ X.xe s'
  refine wpAny_assign_Name (store_ok2 J hN hi (.inl hx) (show RelV (.ref Dl) (.ref Dl) from rfl) (fun s3 I3 ⟨a, sb, ha⟩ => ?_) (.inr hx))
  have ca : C ≠ a := by
    rcases ha with e | e
    · rw [e]; exact f.2.1
    · exact fun z => f.2.2.2.2.1 x a e z.symm
  refine ⟨m, nn.sameBut sb ca, fun h' sb' => ⟨_, H', I3.turned (t' := s3.toks) (fun b o hb e => sb'.extBut b o hb e) f.1 f.2.1 f.2.2.2.1 f.2.2.2.2.1 f.2.2.2.2.2, q⟩⟩
end

section
variable {g : TG} {tt : TT} {te : TE} {n0 : Nat} {cap : List Nat} {σ : St} {Q : VK} {D : Addr} {H1 : Hp} {K : PySem.W.Frag}
theorem comp_range {lo : Int} {n : Nat} (Pv : Nat → Hp → Prop) (h0 : Pv 0 (upd H1 D (.lst [])))
    (hs : ∀ i H, i < n → Pv i H → g (.int (lo + i)) (blockSt n0 cap σ) H fun σ2 H2 => tt σ2 H2 fun b H3 => if b = true then te σ2 H3 fun y H4 => ∃ xs, H4 D = some (.lst xs) ∧ xs.length < sizeLine ∧ Pv (i + 1) (upd H4 D (.lst (xs ++ [y]))) else Pv (i + 1) H3)
    (hd : ∀ H, Pv n H → Q (.ref D) H) :
    compRun (Itr lo n) D n0 cap σ g tt te Q H1 := by
  refine ⟨fun i m H => m = n - i ∧ i ≤ n ∧ Pv i H, ⟨n, by simp, Nat.zero_le _, h0⟩, ?_⟩
  rintro i m H ⟨rfl, hi, p⟩
  by_cases hlt : i < n
  · refine .inr ⟨hlt, Pv (i + 1), fun H' p' => ⟨n - (i + 1), by omega, rfl, hlt, p'⟩, fun x H' y => ?_⟩
    obtain ⟨e1, e2⟩ := y
    subst e1 e2
    exact hs i _ hlt p
  · have e : i = n := by omega
    subst e
    exact .inl ⟨Nat.le_refl _, hd H p⟩
theorem comp_list {a : Addr} {xs : List V} (Pv : Nat → Hp → Prop) (h0 : Pv 0 (upd H1 D (.lst []))) (hl : ∀ i H, i ≤ xs.length → Pv i H → SqL K H a xs)
    (hs : ∀ i x H, xs[i]? = some x → Pv i H → g x (blockSt n0 cap σ) H fun σ2 H2 => tt σ2 H2 fun b H3 => if b = true then te σ2 H3 fun y H4 => ∃ xs, H4 D = some (.lst xs) ∧ xs.length < sizeLine ∧ Pv (i + 1) (upd H4 D (.lst (xs ++ [y]))) else Pv (i + 1) H3)
    (hd : ∀ H, Pv xs.length H → Q (.ref D) H) :
    compRun (Itl K a) D n0 cap σ g tt te Q H1 := by
  refine ⟨fun i m H => m = xs.length - i ∧ i ≤ xs.length ∧ Pv i H, ⟨xs.length, by simp, Nat.zero_le _, h0⟩, ?_⟩
  rintro i m H ⟨rfl, hi, p⟩
  have q := hl i H hi p
  by_cases hlt : i < xs.length
  · refine .inr ⟨⟨xs, xs[i], q, by simp [hlt]⟩, Pv (i + 1), fun H' p' => ⟨xs.length - (i + 1), by omega, rfl, hlt, p'⟩, fun x H' y => ?_⟩
    obtain ⟨e1, y⟩ := y
    subst e1
    exact hs i x _ (y xs q) p
  · have e : i = xs.length := by omega
    subst e
    exact .inl ⟨⟨xs, q, Nat.le_refl _⟩, hd H p⟩
theorem comp_tup {a : Addr} {xs : List V} (Pv : Nat → Hp → Prop) (h0 : Pv 0 (upd H1 D (.lst []))) (hl : ∀ i H, i ≤ xs.length → Pv i H → SqT K H a xs)
    (hs : ∀ i x H, xs[i]? = some x → Pv i H → g x (blockSt n0 cap σ) H fun σ2 H2 => tt σ2 H2 fun b H3 => if b = true then te σ2 H3 fun y H4 => ∃ xs, H4 D = some (.lst xs) ∧ xs.length < sizeLine ∧ Pv (i + 1) (upd H4 D (.lst (xs ++ [y]))) else Pv (i + 1) H3)
    (hd : ∀ H, Pv xs.length H → Q (.ref D) H) :
    compRun (Itt K a) D n0 cap σ g tt te Q H1 := by
  refine ⟨fun i m H => m = xs.length - i ∧ i ≤ xs.length ∧ Pv i H, ⟨xs.length, by simp, Nat.zero_le _, h0⟩, ?_⟩
  rintro i m H ⟨rfl, hi, p⟩
  have q := hl i H hi p
  by_cases hlt : i < xs.length
  · refine .inr ⟨⟨xs, xs[i], q, by simp [hlt]⟩, Pv (i + 1), fun H' p' => ⟨xs.length - (i + 1), by omega, rfl, hlt, p'⟩, fun x H' y => ?_⟩
    obtain ⟨e1, y⟩ := y
    subst e1
    exact hs i x _ (y xs q) p
  · have e : i = xs.length := by omega
    subst e
    exact .inl ⟨⟨xs, q, Nat.le_refl _⟩, hd H p⟩
end
end L2
namespace L2
open PySem PySem.Spec PyProof.Rows

theorem Inv.laidC {X : Cx} {pins : List (Addr × Obj)} {σ : St} {H : Hp} {s : Shared} {h' : Heap} {a : Addr} {o : HO} {t' : Nat} {ch : List Addr} (I : Inv X pins σ H s)
    (hch : ∀ b ∈ ch, FpOk X pins H b) (k : ∀ b u, b ∉ ch → s.heap.get? b = some u → h'.get? b = some u) (hp : s.heap.objs.size ≤ a)
    (new : ObjOk X.prog X.w (upd H a o) h' a o) : Inv X pins σ (upd H a o) { s with heap := h', toks := t' } := by
  have hn := I.hok.fresh hp
  have nch : ∀ c u, H c = some u → c ∉ ch := fun c u e z => by rw [(hch c z).1] at e; cases e
  refine I.step (g' := s.gens) (d' := s.drawn) (ch := ch) (fun b hb => ⟨(hch b hb).2.2.2.1, (hch b hb).2.1, (hch b hb).2.2.2.2.1, (hch b hb).2.2.2.2.2⟩)
    (fun b u _ _ hc e _ => k b u hc e) (fun b u _ _ hc e _ => ⟨u.slots, k b u hc e⟩)
    (fun b u _ e n => by rw [upd_ne (Nat.ne_of_lt (Nat.lt_of_lt_of_le (Heap.lt_size e) hp))]; exact n) (fun b u hc e => ⟨u, k b u hc e⟩)
    (fun b xs q => by rw [upd_ne (ne_of_none q hn)]; exact q) (fun b u xs q => by rw [upd_ne (ne_of_none q hn)]; exact q)
    (fun b ps q => ⟨#[], by rw [upd_ne (ne_of_none q hn), q]; simp⟩) (fun m hm => ?_) (fun b u e => ?_) I.bare
  · exact hm.at' fun ob e => k _ ob (fun z => (hch _ z).2.1 rfl) e
  · by_cases hb : b = a
    · subst hb; rw [upd_same] at e; cases e; exact new
    · rw [upd_ne hb] at e
      refine (I.hok b u e).stay (fun c v hc q => k c v ?_ q) (fun c q => by rw [upd_ne (ne_of_none q hn)]; exact q) fun c xs q => q.upd hn
      rcases hc with rfl | hc
      · exact nch _ _ e
      · exact nch _ _ hc

noncomputable def Ite (K : PySem.W.Frag) (a : Addr) : It :=
  ⟨fun i H => ∃ xs x, SqL K H a xs ∧ xs[i]? = some x,
   fun i H v H' => ∃ T x, H T = none ∧ v = .ref T ∧ H' = upd H T (.tup [.int i, x]) ∧ ∀ xs, SqL K H a xs → xs[i]? = some x,
   fun i H => ∃ xs, SqL K H a xs ∧ xs.length ≤ i⟩

theorem turn_enum {P : Program} {w : World} {K : PySem.W.Frag} {elts : List Expr} {k : Nat} {tp : Pos} (a e it : Addr) (hne : e ≠ it) :
    Turn P w K (.Tuple elts k tp) (Ite K a) [e, it] e (fun i h => (∃ old, IsEnum h e it (i : Nat) old) ∧ h.IsListIter it a i) where
  mem := by simp
  obj := fun i h st b hb => by
    obtain ⟨⟨old, he⟩, o, eo, c, d⟩ := st
    rcases List.mem_cons.mp hb with rfl | hb
    · exact ⟨_, he, fun v z => nomatch z⟩
    · have q : b = it := by simpa using hb
      subst q
      exact ⟨o, eo, fun v z => by rw [d] at z; cases z⟩
  keep := fun i h h' st k => by
    obtain ⟨⟨old, he⟩, hit⟩ := st
    exact ⟨⟨old, k e (by simp) _ he⟩, hit.at fun o q => k it (by simp) o q⟩
  item := by
    intro X hP hw hK hc i pins s σ H E I hf st hg
    subst hP hw hK
    obtain ⟨⟨old, he⟩, hit⟩ := st
    obtain ⟨xs, x, hq, hx⟩ := hg
    obtain ⟨its, rv, p, hz⟩ := I.list hq
    obtain ⟨u, hu, ru⟩ := rv.get hx
    have fe := hf e (by simp)
    have fi := hf it (by simp)
    refine wpAny_pyNext_enum_item he hit p.isList (x := u) (by simpa using hu) hne fun h' ho hit' hT hsz hk => ?_
    have eT : e ≠ s.heap.objs.size := Nat.ne_of_lt (Heap.lt_size he)
    have iT : it ≠ s.heap.objs.size := by
      obtain ⟨o, eo, _⟩ := hit
      exact Nat.ne_of_lt (Heap.lt_size eo)
    have I1 : Inv X pins σ (upd H s.heap.objs.size (.tup [.int i, x])) { s with heap := h', toks := s.toks + 1 } :=
      I.laidC (ch := [e, it]) hf (fun b v hb q => hk b v (fun z => hb (by simp [z])) (fun z => hb (by simp [z])) q) (Nat.le_refl _)
        ⟨(by show 2 ≤ sizeLine; decide), [.int i s.toks, u], .cons ⟨_, rfl⟩ (.cons ru .nil), _, hT, rfl, _, rfl⟩
    refine ⟨_, rfl, wpAny_letOwnedTupleGo_enum ho fun h2 he2 sb2 => ?_⟩
    have I2 : Inv X pins σ (upd H s.heap.objs.size (.tup [.int i, x])) { s with heap := h2, toks := s.toks + 1 } :=
      I1.turned (t' := s.toks + 1) (fun b o hb q => (sb2.2 b hb).trans q) (by rw [upd_ne eT]; exact fe.1) fe.2.1 fe.2.2.2.1 fe.2.2.2.2.1 fe.2.2.2.2.2
    refine ⟨.ref s.heap.objs.size, _, I2, rfl, ⟨_, x, I.hok.fresh (Nat.le_refl _), rfl, rfl, fun ys hy => by rw [I.list_inj hy hq]; exact hx⟩, ⟨⟨u, ?_⟩, ?_⟩, fun b hb => ?_⟩
    · have : (((i + 1 : Nat)) : Int) = (i : Int) + 1 := by omega
      rw [this]
      exact he2
    · exact hit'.extBut sb2.extBut (Ne.symm hne)
    · rcases List.mem_cons.mp hb with rfl | hb
      · rw [upd_ne eT]; exact fe.1
      · have q : b = it := by simpa using hb
        subst q
        rw [upd_ne iT]; exact fi.1
  done := by
    intro X hP hw hK hc i pins s σ H E I hf st hg
    subst hP hw hK
    obtain ⟨⟨old, he⟩, hit⟩ := st
    obtain ⟨xs, hq, hx⟩ := hg
    obtain ⟨its, rv, p, hz⟩ := I.list hq
    have fi := hf it (by simp)
    have hl := rv.length
    exact wpAny_pyNext_enum_end (I.ok.hd hc) he hit p.isList (by simp; omega) fun h' eb =>
      ⟨rfl, I.turned (t' := s.toks) (fun b o hb q => eb b o hb q) fi.1 fi.2.1 fi.2.2.2.1 fi.2.2.2.2.1 fi.2.2.2.2.2⟩
  self := fun _ _ _ _ _ st h => by
    obtain ⟨⟨old, he⟩, _⟩ := st
    exact wpAny_pyIter_enum he h

noncomputable def iEnum (K : PySem.W.Frag) (ta : TA) : TI := fun σ H R => ta σ H fun vs H1 => ∃ l, vs = [.ref l] ∧ (∃ xs, SqL K H1 l xs) ∧ R (Ite K l) H1
theorem pi_enum {X : Cx} {a : Expr} {ta : TA} {p pos tp : Pos} {elts : List Expr} {k : Nat} (hg : Gl X "enumerate") (hm : X.mg "enumerate" = none) (ha : PA X [a] ta)
    (hs : starEach [a] X.env = [(false, eval a X.env)] := by rfl) : PI X (.Tuple elts k tp) (.Call (.Name "enumerate" p) [a] [] pos) (iEnum X.K ta) := by
  intro pins s σ H R I h
  refine Call_ (ld_blt I hg hm boot_enumerate (PyProof.Rows.callWith_type1 (thn (ha pos pins s σ H _ I h) fun us s1 ⟨vs, H1, I1, r1, q1⟩ => ?_) hs rfl))
  obtain ⟨l, e, ⟨xs, hq⟩, q⟩ := q1
  subst e
  cases r1 with
  | cons r rr =>
    cases rr
    cases r
    obtain ⟨its, rv, pl, hz⟩ := I1.list hq
    refine call_enumerate_list pl.isList fun h' he hit hz' hk => ?_
    refine wpAny_pyIter_enum he ?_
    refine ⟨s1.heap.objs.size + 1, [s1.heap.objs.size + 1, s1.heap.objs.size], _, _, H1, rfl, I1.kept (t' := s1.toks) hk, turn_enum l _ _ (Nat.succ_ne_self _), ⟨⟨_, he⟩, hit⟩, fun b hb => ?_, q⟩
    have le : s1.heap.objs.size ≤ b := by
      rcases List.mem_cons.mp hb with z | hb
      · rw [z]; exact Nat.le_succ _
      · have z : b = s1.heap.objs.size := by simpa using hb
        rw [z]; exact Nat.le_refl _
    exact I1.fpOk le (I1.hok.fresh le)

theorem for_enum {K : PySem.W.Frag} {a : Addr} {xs : List V} {g : TG} {tb : TS} {D : Ends} {σ : St} {H : Hp} (Pv : Nat → St → Hp → Prop) (h0 : Pv 0 σ H)
    (hl : ∀ i σ H, i ≤ xs.length → Pv i σ H → SqL K H a xs)
    (hs : ∀ i x σ H T, xs[i]? = some x → Pv i σ H → H T = none → g (.ref T) σ (upd H T (.tup [.int i, x])) fun σ2 H2 => tb { D with nx := Pv (i + 1), ct := Pv (i + 1), bk := D.nx } σ2 H2)
    (hd : ∀ σ H, Pv xs.length σ H → D.nx σ H) :
    ∃ W : Nat → Nat → St → Hp → Prop, (∃ m, W 0 m σ H) ∧ ∀ i m σ H, W i m σ H →
      ((Ite K a).stop i H ∧ D.nx σ H) ∨ ((Ite K a).go i H ∧ ∃ N : St → Hp → Prop, (∀ σ' H', N σ' H' → ∃ m', m' < m ∧ W (i + 1) m' σ' H') ∧
        ∀ x H', (Ite K a).yld i H x H' → g x σ H' fun σ2 H2 => tb { D with nx := N, ct := N, bk := D.nx } σ2 H2) := by
  refine ⟨fun i m σ H => m = xs.length - i ∧ i ≤ xs.length ∧ Pv i σ H, ⟨xs.length, by simp, Nat.zero_le _, h0⟩, ?_⟩
  rintro i m σ H ⟨rfl, hi, p⟩
  have q := hl i σ H hi p
  by_cases hlt : i < xs.length
  · refine .inr ⟨⟨xs, xs[i], q, by simp [hlt]⟩, Pv (i + 1), fun σ' H' p' => ⟨xs.length - (i + 1), by omega, rfl, hlt, p'⟩, fun x H' y => ?_⟩
    obtain ⟨T, z, hT, e1, e2, y⟩ := y
    subst e1 e2
    exact hs i z σ H T (y xs q) p hT
  · have e : i = xs.length := by omega
    subst e
    exact .inl ⟨⟨xs, q, Nat.le_refl _⟩, hd σ H p⟩
end L2
namespace L2
open PySem PySem.Spec PyProof.Rows
open PySem.W (Dat kqdP kqdPs kqdOk)

mutual
inductive Rep (K : PySem.W.Frag) (H : Hp) : V → Dat → Prop
  | non : Rep K H .non .none
  | bl (b : Bool) : Rep K H (.bl b) (.bool b)
  | int (i : Int) : Rep K H (.int i) (.int i)
  | str (x : Str) : Rep K H (.str x) (.str x)
  | tup {a : Addr} {xs : List V} {ds : List Dat} : SqT K H a xs → Reps K H xs ds → Rep K H (.ref a) (.tuple ds)
  | lst {a : Addr} {xs : List V} {ds : List Dat} : SqL K H a xs → Reps K H xs ds → Rep K H (.ref a) (.list ds)
inductive Reps (K : PySem.W.Frag) (H : Hp) : List V → List Dat → Prop
  | nil : Reps K H [] []
  | cons {x : V} {xs : List V} {d : Dat} {ds : List Dat} : Rep K H x d → Reps K H xs ds → Reps K H (x :: xs) (d :: ds)
end

theorem Same.seqT {K : PySem.W.Frag} {H H' : Hp} {a : Addr} {xs : List V} (e : Same H H') (h : SqT K H a xs) : SqT K H' a xs := by
  rcases h with h | h
  · rcases h with h | ⟨o, h⟩
    · exact .inl (.inl (e _ _ h))
    · exact .inl (.inr ⟨o, e _ _ h⟩)
  · exact .inr h
mutual
theorem Rep.mono {K : PySem.W.Frag} {H H' : Hp} (s : Same H H') : ∀ {v : V} {d : Dat}, Rep K H v d → Rep K H' v d
  | _, _, .non => .non
  | _, _, .bl b => .bl b
  | _, _, .int i => .int i
  | _, _, .str x => .str x
  | _, _, .tup h r => .tup (s.seqT h) (Reps.mono s r)
  | _, _, .lst h r => .lst (s.seq h) (Reps.mono s r)
theorem Reps.mono {K : PySem.W.Frag} {H H' : Hp} (s : Same H H') : ∀ {vs : List V} {ds : List Dat}, Reps K H vs ds → Reps K H' vs ds
  | _, _, .nil => .nil
  | _, _, .cons h r => .cons (Rep.mono s h) (Reps.mono s r)
end
theorem Reps.length {K : PySem.W.Frag} {H : Hp} : ∀ {vs : List V} {ds : List Dat}, Reps K H vs ds → vs.length = ds.length
  | _, _, .nil => rfl
  | _, _, .cons _ r => congrArg Nat.succ (Reps.length r)
theorem Reps.get {K : PySem.W.Frag} {H : Hp} : ∀ {vs : List V} {ds : List Dat} {i : Nat} {v : V}, Reps K H vs ds → vs[i]? = some v → ∃ d, ds[i]? = some d ∧ Rep K H v d
  | _, _, _, _, .nil, e => by simp at e
  | _, _, 0, _, .cons h _, e => by simp at e; subst e; exact ⟨_, rfl, h⟩
  | _, _, i + 1, v, .cons _ r, e => by
    obtain ⟨d, h1, h2⟩ := Reps.get (i := i) (v := v) r (by simpa using e)
    exact ⟨d, by simpa using h1, h2⟩
theorem Reps.getD {K : PySem.W.Frag} {H : Hp} : ∀ {vs : List V} {ds : List Dat} {i : Nat} {d : Dat}, Reps K H vs ds → ds[i]? = some d → ∃ v, vs[i]? = some v ∧ Rep K H v d
  | _, _, _, _, .nil, e => by simp at e
  | _, _, 0, _, .cons h _, e => by simp at e; subst e; exact ⟨_, rfl, h⟩
  | _, _, i + 1, v, .cons _ r, e => by
    obtain ⟨d, h1, h2⟩ := Reps.getD (i := i) (d := v) r (by simpa using e)
    exact ⟨d, by simpa using h1, h2⟩
theorem Reps.append {K : PySem.W.Frag} {H : Hp} : ∀ {vs us : List V} {ds es : List Dat}, Reps K H vs ds → Reps K H us es → Reps K H (vs ++ us) (ds ++ es)
  | _, _, _, _, .nil, s => s
  | _, _, _, _, .cons h r, s => .cons h (Reps.append r s)
theorem Reps.snoc {K : PySem.W.Frag} {H : Hp} {vs : List V} {ds : List Dat} {v : V} {d : Dat} (r : Reps K H vs ds) (h : Rep K H v d) : Reps K H (vs ++ [v]) (ds ++ [d]) := r.append (.cons h .nil)
theorem Reps.ints {K : PySem.W.Frag} {H : Hp} : ∀ ns : List Int, Reps K H (ns.map V.int) (ns.map Dat.int)
  | [] => .nil
  | n :: r => .cons (.int n) (Reps.ints r)

section
variable {X : Cx} {pins : List (Addr × Obj)} {σ : St} {H : Hp} {s : Shared}
mutual
theorem Rep.reads (I : Inv X pins σ H s) : ∀ (n : Nat) {v : V} {d : Dat} {u : Value}, Rep X.K H v d → RelV v u → kqdOk n d = true → ∃ as, Reads s.heap u (kqdP d) as
  | _, _, _, _, .non, r, _ => by cases (show _ = _ from r); exact ⟨_, Reads.none⟩
  | _, _, _, _, .bl b, r, _ => by cases (show _ = _ from r); exact ⟨_, Reads.bool b⟩
  | _, _, _, _, .int i, r, _ => by obtain ⟨t, rfl⟩ := r; exact ⟨_, Reads.int i t⟩
  | _, _, _, _, .str x, r, _ => by obtain ⟨t, rfl⟩ := r; exact ⟨_, Reads.str x t⟩
  | 0, _, _, _, .tup _ _, _, hk => by simp [kqdOk] at hk
  | 0, _, _, _, .lst _ _, _, hk => by simp [kqdOk] at hk
  | n + 1, _, _, _, .tup h q, r, hk => by
    cases (show _ = _ from r)
    obtain ⟨its, rv, ⟨o, e, c, m, d⟩, _⟩ := I.tuple h
    obtain ⟨as, z⟩ := Reps.reads I n q rv (by simpa [kqdOk] using hk)
    rw [kqdP]
    exact ⟨as, reads_tuple_at e c d (by simpa using z)⟩
  | n + 1, _, _, _, .lst h q, r, hk => by
    cases (show _ = _ from r)
    obtain ⟨its, rv, ⟨o, m, e, c, _, d⟩, _⟩ := I.list h
    obtain ⟨as, z⟩ := Reps.reads I n q rv (by simpa [kqdOk] using hk)
    rw [kqdP]
    exact ⟨_, reads_list_at e c d (by simpa using z)⟩
theorem Reps.reads (I : Inv X pins σ H s) : ∀ (n : Nat) {vs : List V} {ds : List Dat} {us : List Value}, Reps X.K H vs ds → Vals vs us → (∀ d ∈ ds, kqdOk n d = true) → ∃ as, ReadsAll s.heap us (kqdPs ds) as
  | _, _, _, _, .nil, r, _ => by cases r; exact ⟨_, ReadsAll.nil⟩
  | n, _, _, _, .cons h q, r, hk => by
    cases r with
    | cons r1 r2 =>
      obtain ⟨as, z⟩ := Rep.reads I n h r1 (hk _ (.head _))
      obtain ⟨bs, y⟩ := Reps.reads I n q r2 fun d hm => hk d (.tail _ hm)
      rw [kqdPs]
      exact ⟨_, ReadsAll.cons z y⟩
end
end

noncomputable def rEqD (K : PySem.W.Frag) (neg : Bool) : R2 := fun x y H Q => ∃ dx dy, Rep K H x dx ∧ Rep K H y dy ∧ kqdOk 8 dx = true ∧ kqdOk 8 dy = true ∧ (dx = dy → Q (.bl (!neg)) H) ∧ (dx ≠ dy → Q (.bl neg) H)
section
variable {X : Cx}
theorem shaped_of {d : Dat} (h : kqdOk 8 d = true) : SeqAt.shaped (kqdP d) = true := by
  have l := PySem.W.kqd_lay 8 d h
  unfold SeqAt.shaped
  rw [l.1, Bool.true_and]
  exact decide_eq_true (Nat.le_trans l.2 (by decide))
theorem op_eqD (hu : X.A.units + 64 < cLine) : OpR X (compareOp .Eq) (rEqD X.K false) := by
  intro pins s σ H x y v u Q I rx ry ⟨dx, dy, hx, hy, kx, ky, q1, q2⟩
  obtain ⟨as, ra⟩ := Rep.reads I 8 hx rx kx
  obtain ⟨bs, rb⟩ := Rep.reads I 8 hy ry ky
  have e := PySem.W.kqd_eqv 8 dx dy 8 kx ky
  refine eq_dataH ra rb (shaped_of kx) (shaped_of ky) hu ?_
  cases z : PyData.eqv (kqdP dx) (kqdP dy) with
  | true => exact ⟨.bl true, H, I, rfl, q1 (e.mp z)⟩
  | false => exact ⟨.bl false, H, I, rfl, q2 fun w => by rw [e.mpr w] at z; cases z⟩
inductive TyR (K : PySem.W.Frag) (H : Hp) : V → Value → Prop where
  | of {x : V} {c : Value} (h : TyOf K H x c) : TyR K H x c
  | tup {a : Addr} {xs : List V} (h : SqT K H a xs) : TyR K H (.ref a) (.type "tuple")
  | lst {a : Addr} {xs : List V} (h : SqL K H a xs) : TyR K H (.ref a) (.type "list")
noncomputable def rIsI (K : PySem.W.Frag) : List V → Hp → VK → Prop := fun xs H Q => ∃ x T t b, xs = [x, .ty T] ∧ TyR K H x t ∧ PySem.W.kitOne K t (.type T) = some b ∧ Q (.bl b) H
theorem call_isI : CallR X (.builtin "isinstance") (rIsI X.K) := by
  intro pins s σ H xs us Q I r ⟨x, T, t, b, e, ty, ek, q⟩
  subst e
  obtain ⟨u, w', rfl, rx, rt⟩ := vals2 r
  cases (show w' = Value.type T from rt)
  cases ty with
  | of ty => exact isinst_ok I rx ty ek fun tk => ⟨.bl b, H, I.tok tk, rfl, q⟩
  | tup h =>
    cases (show u = _ from rx)
    obtain ⟨its, rv, ⟨o, e, c, _⟩, _⟩ := I.tuple h
    exact PySem.W.kia_one PySem.W.kitx_tuple I.kIn ⟨o, e, c⟩ ek (fun z => nomatch z) fun tk => ⟨.bl b, H, I.tok tk, rfl, q⟩
  | lst h =>
    cases (show u = _ from rx)
    obtain ⟨its, rv, ⟨o, m, e, c, _⟩, _⟩ := I.list h
    exact PySem.W.kia_one PySem.W.kitx_list I.kIn ⟨o, e, c⟩ ek (fun z => nomatch z) fun tk => ⟨.bl b, H, I.tok tk, rfl, q⟩
noncomputable def CBits (i j : Int) : Prop := Builtin.Int.intBits i ≤ 2 ^ 20 ∧ Builtin.Int.intBits j ≤ 2 ^ 20
theorem op_mulB : OpR X (binaryOp .Mult) (rI CBits fun i j => .int (i * j)) := opI fun i j t u s Q E h q => mul_int q (IntMulOk.of_bits h.1 h.2)
theorem bits_of {i : Int} {k : Nat} (hk : k ≤ 2 ^ 20) (h1 : -(2 ^ k) < i) (h2 : i < 2 ^ k) : Builtin.Int.intBits i ≤ 2 ^ 20 := by
  unfold Builtin.Int.intBits
  split
  · exact Nat.zero_le _
  · rename_i h0
    have hn : i.natAbs < 2 ^ k := by
      have e : ((2 ^ k : Nat) : Int) = 2 ^ k := by norm_cast
      omega
    have : i.natAbs.log2 < k := by
      refine (Nat.log2_lt ?_).mpr hn
      intro z
      simp at h0
      omega
    omega
end
end L2
namespace L2
open PySem PySem.Spec PyProof.Rows
section
variable {X : Cx} {K : PySem.W.Frag}
theorem ix_listK (h : X.K = K := by rfl) : IxR X (rIxL K) := by subst h; exact ix_list
theorem call_len_seqK (h : X.K = K := by rfl) : CallR X (.builtin "len") (fun xs H Q => ∃ p ys, xs = [.ref p] ∧ (SqL K H p ys ∨ SqT K H p ys) ∧ Q (.int ys.length) H) := by subst h; exact call_len_seq
theorem op_in_seqK (h : X.K = K := by rfl) : OpR X (compareOp .In) (rIn K false) := by subst h; exact op_in_seq
theorem pg_tupK {es : List Expr} {k : Nat} {t : TGs} {n : Nat} {pos : Pos} (hc : X.calm = true) (h : PGs X es t) (hK : X.K = K := by rfl)
    (hn : (assignEach es X.env).length = n := by rfl) (hst : (assignEach es X.env).findIdx? (·.1) = none := by rfl) : PG X (.Tuple es k pos) (gTup K n t) := by subst hK; exact pg_tup hc h hn hst
end
end L2
namespace L2
open PySem PySem.Spec PyProof.Rows
structure Bx (p : Prop) : Prop where
  get : p
section
variable {X : Cx} {a b c e l o i f elt tg iter target value : Expr} {es ts rest : List Expr} {st : Stmt} {sts body els : List Stmt} {ta tb tc te td ty tx tv tl to ti : TE} {tA tB' : TT} {t tr : TA} {s u tb' : TS} {g : TG} {gs : TGs} {wi : TI} {tt : TT}
  {pos apos cpos p pos' spos : Pos} {op op' : CmpOp} {bop : Operator} {r r' : R2} {lo hi : Option Expr} {tlo thi : TO}
theorem bpv (k : Nat) {x : Str} {pos : Pos} (hN : X.N[k]? = some x := by rfl) (hv : Vis X.env.scope x := by first | exact Or.inl rfl | exact Or.inr (Or.inl rfl) | exact Or.inr (Or.inr rfl))
    (hd : (x == ("__debug__" : Str)) = false := by decide) (hcd : (x == ("__classdict__" : Str)) = false := by decide) : Bx (PE X (.Name x pos) (tVar k)) := ⟨pe_var hN hv hd hcd⟩
theorem bpe_int {k : Int} {j pos} : Bx (PE X (.Constant (.int k) j pos) (tC (.int k))) := ⟨pe_int⟩
theorem bpe_bl {k : Bool} {j pos} : Bx (PE X (.Constant (.bool k) j pos) (tC (.bl k))) := ⟨pe_bl⟩
theorem bpe_non {j pos} : Bx (PE X (.Constant .none j pos) (tC .non)) := ⟨pe_non⟩
theorem bpe_str {x : Str} {j pos} : Bx (PE X (.Constant (.str x) j pos) (tC (.str x))) := ⟨pe_str⟩
theorem bpe_glob {x : Str} {v : V} {w : Value} {pos : Pos} (hg : Gl X x) (hm : X.mg x = some w) (r : RelV v w) (hd : (x == ("__debug__" : Str)) = false := by decide) : Bx (PE X (.Name x pos) (tC v)) := ⟨pe_glob hg hm r hd⟩
theorem bpe_bltn {x : Str} {v : V} {w : Value} {pos : Pos} (hg : Gl X x) (hm : X.mg x = none) (hv : bootBuiltins x = some w) (r : RelV v w) (hn : x ≠ "__name__" := by decide) (hd : (x == ("__debug__" : Str)) = false := by decide) : Bx (PE X (.Name x pos) (tC v)) := ⟨pe_bltn hg hm hv r hn hd⟩
theorem bpe_op (ho : OpR X (binaryOp bop) r) (ha : Bx (PE X a ta)) (hb : Bx (PE X b tb)) : Bx (PE X (.BinOp a bop b pos) (tOp r ta tb)) := ⟨pe_op ho ha.1 hb.1⟩
theorem bpe_un {uop : UnaryOp} {r : V → Hp → VK → Prop} (ho : UnR X (unaryOp uop) r) (ha : Bx (PE X a ta)) : Bx (PE X (.UnaryOp uop a pos) (tUn r ta)) := ⟨pe_un ho ha.1⟩
theorem bpe_cmpR (ho : OpR X (compareOp op) r) (ha : Bx (PE X a ta)) (hb : Bx (PE X b tb)) (hm : behindInMarks op b = false) : Bx (PE X (.Compare a [op] [b] pos) (tOp r ta tb)) := ⟨pe_cmpR ho ha.1 hb.1 hm⟩
theorem bpt_cmpR (ho : OpR X (compareOp op) r) (ha : Bx (PE X a ta)) (hb : Bx (PE X b tb)) (hm : behindInMarks op b = false) : Bx (PT X (.Compare a [op] [b] pos) (tTest (tOp r ta tb))) := ⟨pt_cmpR ho ha.1 hb.1 hm⟩
theorem bpe_chain (ho : OpR X (compareOp op) r) (ho' : OpR X (compareOp op') r') (ha : Bx (PE X a ta)) (hb : Bx (PE X b tb)) (hc : Bx (PE X c tc)) (hm : lastMarks [op, op'] [b, c] = false := by with_unfolding_all rfl) : Bx (PE X (.Compare a [op, op'] [b, c] pos) (tChain r r' ta tb tc)) := ⟨pe_chain ho ho' ha.1 hb.1 hc.1 hm⟩
theorem bpc_isN {j pos'} (ha : Bx (PE X a ta)) : Bx (PC X .Is a (.Constant .none j pos') (tIsN ta)) := ⟨pc_isN ha.1⟩
theorem bpc_notN {j pos'} (ha : Bx (PE X a ta)) : Bx (PC X .IsNot a (.Constant .none j pos') (tNotN ta)) := ⟨pc_notN ha.1⟩
theorem bpt_cmp (h : Bx (PC X op a b te)) (h1 : behindInMarks op b = false := by first | exact nobehind _ (by decide) (by decide) | rfl) : Bx (PT X (.Compare a [op] [b] pos) (tB te)) := ⟨pt_cmp h.1 h1⟩
theorem bpt_val (h : Bx (PE X e te)) (he : ∀ whole, isTrue e X.env whole = (do let v ← whole; standAt e.pos; holding [v] (truthy v)) := by intro _; rfl) : Bx (PT X e (tB te)) := ⟨pt_val h.1 he⟩
theorem bPW_pt (h : Bx (PW X e tt)) : Bx (PT X e tt) := ⟨h.1.pt⟩
theorem bpw_and1 (ha : Bx (PT X a tA)) : Bx (PW X (.BoolOp .And [a] pos) tA) := ⟨pw_and1 ha.1⟩
theorem bpw_or1 (ha : Bx (PT X a tA)) : Bx (PW X (.BoolOp .Or [a] pos) tA) := ⟨pw_or1 ha.1⟩
theorem bpw_and (ha : Bx (PT X a tA)) (hb : Bx (PW X (.BoolOp .And (b :: rest) pos) tB')) : Bx (PW X (.BoolOp .And (a :: b :: rest) pos) (tAnd tA tB')) := ⟨pw_and ha.1 hb.1⟩
theorem bpw_or (ha : Bx (PT X a tA)) (hb : Bx (PW X (.BoolOp .Or (b :: rest) pos) tB')) : Bx (PW X (.BoolOp .Or (a :: b :: rest) pos) (tOr tA tB')) := ⟨pw_or ha.1 hb.1⟩
theorem bpt_not (ha : Bx (PT X a tA)) : Bx (PT X (.UnaryOp .Not a pos) (tNot tA)) := ⟨pt_not ha.1⟩
theorem bpe_not (ha : Bx (PE X a ta)) : Bx (PE X (.UnaryOp .Not a pos) (tNotV ta)) := ⟨pe_not ha.1⟩
theorem bpe_ifExp (hc : Bx (PT X c tA)) (ha : Bx (PE X a ta)) (hb : Bx (PE X b tb)) : Bx (PE X (.IfExp c a b pos) (tIf tA ta tb)) := ⟨pe_ifExp hc.1 ha.1 hb.1⟩
theorem bpa_nil : Bx (PA X [] tNil) := ⟨pa_nil⟩
theorem bpa_cons (ha : Bx (PE X e te)) (hr : Bx (PA X es t)) (hs : starEach (e :: es) X.env = (false, eval e X.env) :: starEach es X.env := by rfl) : Bx (PA X (e :: es) (tCons te t)) := ⟨pa_cons ha.1 hr.1 hs⟩
theorem bpe_tup {x1} (h : Bx (PA X es t)) : Bx (PE X (.Tuple es x1 pos) (tTup t)) := ⟨pe_tup h.1⟩
theorem bpe_lst (h : Bx (PA X es t)) : Bx (PE X (.List es pos) (tLst t)) := ⟨pe_lst h.1⟩
theorem bpe_ix (hr : IxR X r) (ha : Bx (PE X a ta)) (hb : Bx (PE X b tb)) (hs : PlainIx b) : Bx (PE X (.Subscript a b pos) (tOp r ta tb)) := ⟨pe_ix hr ha.1 hb.1 hs⟩
theorem bpe_dget (hu : X.A.units + 1 < cLine) (ho : Bx (PE X o td)) (hi : Bx (PE X i ty)) (hs : NoSl i) : Bx (PE X (.Subscript o i pos) (tDGet td ty)) := ⟨pe_dget hu ho.1 hi.1 hs⟩
theorem bpe_dget2 (hu : X.A.units + 1 < cLine) (ho : Bx (PE X o td)) (he : Bx (PE X e ty)) (hf : Bx (PE X f tx)) (m : M2 X o "get" apos e f cpos) : Bx (PE X (.Call (.Attribute o "get" apos) [e, f] [] cpos) (tDGet2 td ty tx)) := ⟨pe_dget2 hu ho.1 he.1 hf.1 m⟩
theorem bpe_dnewT : Bx (PE X (.Dict [] [] pos) tDNewT) := ⟨pe_dnewT⟩
theorem bpps_nil : Bx (PPs X pos [] [] []) := ⟨pps_nil⟩
theorem bpps_cons {ks : List (Option Expr)} {vs : List Expr} {trs : List (TE × TE)} (hk : Bx (PE X a ta)) (hv : Bx (PE X b tb)) (hr : Bx (PPs X pos ks vs trs)) : Bx (PPs X pos (some a :: ks) (b :: vs) ((ta, tb) :: trs)) := ⟨pps_cons hk.1 hv.1 hr.1⟩
theorem bpe_disp {keys : List (Option Expr)} {values : List Expr} {trs : List (TE × TE)} (h : Bx (PPs X pos keys values trs)) (hall : keys.all (·.isSome) = true) (hl : keys.length = values.length) (h0 : keys ≠ []) (h15 : keys.length ≤ 15) : Bx (PE X (.Dict keys values pos) (tDisp trs)) := ⟨pe_disp h.1 hall hl h0 h15⟩
theorem bpo_none : Bx (PO X none tNoPart) := ⟨po_none⟩
theorem bpo_some (h : Bx (PE X e te)) : Bx (PO X (some e) (tPart te)) := ⟨po_some h.1⟩
theorem bpe_slice {r : V → Option Int → Option Int → Hp → VK → Prop} {p2 : Pos} (hr : SlR X r) (he : Bx (PE X e te)) (hl : Bx (PO X lo tlo)) (hu : Bx (PO X hi thi)) : Bx (PE X (.Subscript e (.Slice lo hi none p2) pos) (tSl r te tlo thi)) := ⟨pe_slice hr he.1 hl.1 hu.1⟩
theorem bpe_callB {r : List V → Hp → VK → Prop} {x : Str} {id : String} (hc : CallR X (.builtin id) r) (hg : Gl X x) (hm : X.mg x = none) (hv : bootBuiltins x = some (.builtin id)) (ha : Bx (PA X (e :: es) t)) (hn : x ≠ "__name__" := by decide) (hdb : (x == ("__debug__" : Str)) = false := by decide)
    (he : starEach (e :: es) X.env = (false, eval e X.env) :: starEach es X.env := by rfl) (hpl : (backTo pos (starEach es X.env)).any (·.1) = false := by rfl) : Bx (PE X (.Call (.Name x p) (e :: es) [] pos) (tCB r t)) := ⟨pe_callB hc hg hm hv ha.1 hn hdb he hpl⟩
theorem bpe_callTy {r : List V → Hp → VK → Prop} {x : Str} {T : String} (hc : CallR X (.type T) r) (hg : Gl X x) (hm : X.mg x = none) (hv : bootBuiltins x = some (.type T)) (ha : Bx (PA X (e :: es) t)) (hn : x ≠ "__name__" := by decide) (hdb : (x == ("__debug__" : Str)) = false := by decide)
    (he : starEach (e :: es) X.env = (false, eval e X.env) :: starEach es X.env := by rfl) (hpl : (backTo pos (starEach es X.env)).any (·.1) = false := by rfl) : Bx (PE X (.Call (.Name x p) (e :: es) [] pos) (tCB r t)) := ⟨pe_callTy hc hg hm hv ha.1 hn hdb he hpl⟩
theorem bpe_call {CX : CXT} {k : Nat} {fa : Addr} {fd : FuncData} {ps : List Str} {sp : Sp} {dvs : List V} {ds : List Value} {E : XK} {x : Str} (F : FnOk X.prog X.w X.K X.mg X.base CX k fa fd ps sp) (hr : Room k X.A) (hg : Gl X x) (hm : X.mg x = some (.ref fa)) (hk : PySem.W.keepIn X.K (.ref fa) = true)
    (hb : Binds X.K fd ps ds) (hd : Vals dvs ds) (hx : Passes CX X E) (ha : Bx (PA X (e :: es) t)) (hdb : (x == ("__debug__" : Str)) = false := by decide)
    (he : starEach (e :: es) X.env = (false, eval e X.env) :: starEach es X.env := by rfl) (hpl : (backTo pos (starEach es X.env)).any (·.1) = false := by rfl) : Bx (PE X (.Call (.Name x p) (e :: es) [] pos) (tCall sp dvs E t)) := ⟨pe_call F hr hg hm hk hb hd hx ha.1 hdb he hpl⟩
theorem bpe_bm {name : Str} {T id : String} {r : V → List V → Hp → VK → Prop} (pa : PlainAttrs T) (slot : Slot T name id) (hty : typeOf (.builtin id) = pure (.type "method_descriptor")) (hm : MtR X id r) (ho : Bx (PE X o to)) (ha : Bx (PA X (e :: es) t))
    (h1 : attributeBase o name X.env (eval o X.env) = eval o X.env := by rfl)
    (h2 : ((backTo cpos (starEach (e :: es) X.env)).all (fun x => !x.1) && (backToKw cpos (keywordEach [] X.env)).all (fun x => x.1.isSome) && decide ((e :: es).length + ([] : List Keyword).length + (if ([] : List Keyword).isEmpty then 0 else 1) < 30)) = true := by rfl)
    (h3 : (apos.endLine == cpos.line) = true := by rfl) (h4 : starEach (e :: es) X.env = (false, eval e X.env) :: starEach es X.env := by rfl) (h5 : (backTo cpos (starEach es X.env)).any (·.1) = false := by rfl) :
    Bx (PE X (.Call (.Attribute o name apos) (e :: es) [] cpos) (tBM X.K T r to t)) := ⟨pe_bm pa slot hty hm ho.1 ha.1 h1 h2 h3 h4 h5⟩
theorem bpss_nil : Bx (PSs X [] tNext) := ⟨pss_nil⟩
theorem bpss_cons (h1 : Bx (PS X st s)) (h2 : Bx (PSs X sts u)) : Bx (PSs X (st :: sts) (tSeq s u)) := ⟨pss_cons h1.1 h2.1⟩
theorem bpss_one (h1 : Bx (PS X st s)) : Bx (PSs X [st] s) := ⟨pss_one h1.1⟩
theorem bps_never : Bx (PS X st tNever) := ⟨ps_never⟩
theorem bps_expr (he : Bx (PE X e te)) (hs : swapsWith e none pos.line X.env = pure false := by rfl) : Bx (PS X (.Expr e pos) (tDrop te)) := ⟨ps_expr he.1 hs⟩
theorem bps_ret (he : Bx (PE X e te)) : Bx (PS X (.Return (some e) pos) (tRet te)) := ⟨ps_ret he.1⟩
theorem bps_if (hc : Bx (PT X c tA)) (ha : Bx (PSs X body s)) (hb : Bx (PSs X els u)) : Bx (PS X (.If c body els pos) (tIfS tA s u)) := ⟨ps_if hc.1 ha.1 hb.1⟩
theorem bpg_name {k : Nat} {x : Str} (hN : X.N.Nodup) (hi : X.N[k]? = some x) (hx : Loc X.env.scope x) (hf : X.fn x = true ∨ X.env.scope.names.lookup x = some .local := by first | exact .inl rfl | exact .inr rfl | assumption) : Bx (PG X (.Name x pos) (gName k)) := ⟨pg_name hN hi hx hf⟩
theorem bpgs_nil : Bx (PGs X [] gNil) := ⟨pgs_nil⟩
theorem bpgs_cons (h1 : Bx (PG X e g)) (h2 : Bx (PGs X es gs)) (hs : (assignEach (e :: es) X.env).map (·.2) = assign e X.env :: (assignEach es X.env).map (·.2) := by rfl) : Bx (PGs X (e :: es) (gCons g gs)) := ⟨pgs_cons h1.1 h2.1 hs⟩
theorem bpg_tup {k n : Nat} (hc : X.calm = true) (h : Bx (PGs X es gs)) (hn : (assignEach es X.env).length = n := by rfl) (hst : (assignEach es X.env).findIdx? (·.1) = none := by rfl) : Bx (PG X (.Tuple es k pos) (gTup X.K n gs)) := ⟨pg_tup hc h.1 hn hst⟩
theorem bpg_tupK {K : PySem.W.Frag} {k n : Nat} (hc : X.calm = true) (h : Bx (PGs X es gs)) (hK : X.K = K := by rfl) (hn : (assignEach es X.env).length = n := by rfl) (hst : (assignEach es X.env).findIdx? (·.1) = none := by rfl) : Bx (PG X (.Tuple es k pos) (gTup K n gs)) := ⟨pg_tupK hc h.1 hK hn hst⟩
theorem bpg_sub {tset : TSet} (ho : Bx (PE X o to)) (hi : Bx (PE X i ti)) (hs : PSet X tset)
    (ha : ∀ v, assign (.Subscript o i pos) X.env v = (do
      let ov ← holding [v] (eval o X.env)
      let iv ← holding [v, ov] (eval i X.env)
      standAt pos
      holding [v, ov, iv] (setItem ov iv v)
      release [v, ov, iv] []) := by intro _; rfl) : Bx (PG X (.Subscript o i pos) (gSub to ti tset)) := ⟨pg_sub ho.1 hi.1 hs ha⟩
theorem bps_asg (he : Bx (PE X e te)) (hg : Bx (PG X tg g)) (hs : swapsWithSole [tg] e pos.line X.env = pure false := by rfl) (hw : swappedStores [tg] e X.env = pure none := by rfl)
    (h1 : (assignEach [tg] X.env).map (·.2) = [assign tg X.env] := by rfl) : Bx (PS X (.Assign [tg] e pos) (tAsg te g)) := ⟨ps_asg he.1 hg.1 hs hw h1⟩
theorem bps_set {k : Nat} {x : Str} (hN : X.N.Nodup) (hi : X.N[k]? = some x) (hx : Loc X.env.scope x) (he : Bx (PE X e te)) (hs : swapsWith e (some (.Name x pos')) pos.line X.env = pure false := by rfl) (hf : X.fn x = true ∨ X.env.scope.names.lookup x = some .local := by first | exact .inl rfl | exact .inr rfl | assumption) :
    Bx (PS X (.Assign [.Name x pos'] e pos) (tAsg te (gName k))) := ⟨ps_set hN hi hx he.1 hs hf⟩
theorem bps_for (hp : PassesOwn (model X.prog X.w) X.A X.env X.xe) (hc : X.calm = true) (hi : Bx (PI X tg iter wi)) (hg : Bx (PG X tg g)) (hb : Bx (PSs X body tb')) (hs : ∀ x, foldedSetIterable iter X.env x = pure x := by intro _; rfl) : Bx (PS X (.For tg iter body [] pos) (tFor wi g tb')) := ⟨ps_for hp hc hi.1 hg.1 hb.1 hs⟩
theorem bpi_list (hl : Bx (PE X l tl)) : Bx (PI X tg l (iList X.K tl)) := ⟨pi_list hl.1⟩
theorem bpi_tup (hl : Bx (PE X l tl)) : Bx (PI X tg l (iTup X.K tl)) := ⟨pi_tup hl.1⟩
theorem bpi_range1 (hg : Gl X "range") (hm : X.mg "range" = none) (ha : Bx (PA X [a] t)) (hs : starEach [a] X.env = [(false, eval a X.env)] := by rfl) : Bx (PI X tg (.Call (.Name "range" p) [a] [] pos) (iRng1 t)) := ⟨pi_range1 hg hm ha.1 hs⟩
theorem bpi_enum {elts : List Expr} {k : Nat} {tp : Pos} (hg : Gl X "enumerate") (hm : X.mg "enumerate" = none) (ha : Bx (PA X [a] t)) (hs : starEach [a] X.env = [(false, eval a X.env)] := by rfl) : Bx (PI X (.Tuple elts k tp) (.Call (.Name "enumerate" p) [a] [] pos) (iEnum X.K t)) := ⟨pi_enum hg hm ha.1 hs⟩
theorem bpts_nil : Bx (PTs X [] tYes) := ⟨pts_nil⟩
theorem bpts_one (h : Bx (PT X c tA)) : Bx (PTs X [c] tA) := ⟨pts_one h.1⟩
theorem bpe_comp {ifs : List Expr} {scope : Scope} {N : List Str} {n : Nat} {cap : List Nat} (hc : X.calm = true) (B : Blk X scope N n cap) (hi : Bx (PI X tg iter wi)) (hk : KeepG n g)
    (hg : ∀ cl fp s H, Bx (PG (cxComp X N scope cl fp s H) tg g)) (ht : ∀ cl fp s H, Bx (PTs (cxComp X N scope cl fp s H) ifs tt)) (he : ∀ cl fp s H, Bx (PE (cxComp X N scope cl fp s H) elt te))
    (hs : ∀ x, foldedSetIterable iter X.env x = pure x := by intro _; rfl) : Bx (PE X (.ListComp elt [⟨tg, iter, ifs, 0⟩] scope pos) (tComp n cap wi g tt te)) :=
  ⟨pe_comp hc B hi.1 hk (fun cl fp s H => (hg cl fp s H).1) (fun cl fp s H => (ht cl fp s H).1) (fun cl fp s H => (he cl fp s H).1) hs⟩
theorem bps_setC {ifs : List Expr} {scope : Scope} {N : List Str} {n : Nat} {cap : List Nat} {k : Nat} {x : Str} (hc : X.calm = true) (B : Blk X scope N n cap) (hN : X.N.Nodup) (hi : X.N[k]? = some x) (hx : X.env.scope.names.lookup x = some .local) (hit : Bx (PI X tg iter wi)) (hk : KeepG n g)
    (hg : ∀ cl fp s H, Bx (PG (cxComp X N scope cl fp s H) tg g)) (ht : ∀ cl fp s H, Bx (PTs (cxComp X N scope cl fp s H) ifs tt)) (he : ∀ cl fp s H, Bx (PE (cxComp X N scope cl fp s H) elt te))
    (hsw : swapsWith (.ListComp elt [⟨tg, iter, ifs, 0⟩] scope pos) (some (.Name x pos')) spos.line X.env = pure true) (hs : ∀ x, foldedSetIterable iter X.env x = pure x := by intro _; rfl) :
    Bx (PS X (.Assign [.Name x pos'] (.ListComp elt [⟨tg, iter, ifs, 0⟩] scope pos) spos) (tAsg (tComp n cap wi g tt te) (gName k))) :=
  ⟨ps_setC hc B hN hi hx hit.1 hk (fun cl fp s H => (hg cl fp s H).1) (fun cl fp s H => (ht cl fp s H).1) (fun cl fp s H => (he cl fp s H).1) hsw hs⟩
end
section
variable {P : Program} {w : World} {K : PySem.W.Frag} {mg : Str → Option Value} {base : Heap}
theorem Fun.okB {x qual : Str} {st : Stmt} {f : Addr} {fd : FuncData} {N ps : List Str} {k : Nat} {sp : Sp} (F : Fun K x qual st f fd) (S : FnScope N ps (defScope st)) (len : ∀ vs H Q E, sp vs H Q E → vs.length = ps.length)
    (hbody : ∀ (cdv : Value) (A : Around) (outer : List Env) (s : Shared) (H : Hp) (vs : List V) (Q : VK) (E : XK), Room k (A.deeper (envOfC qual (defScope st) s.heap.objs.size f cdv)) → sp vs H Q E →
      ∃ t, Bx (PSs (cxOf CX0 P w K mg base N qual (defScope st) f cdv A outer s H E).nox (defBody st) t) ∧ t { nx := fun _ H' => Q .non H', rt := Q } (start N vs) H) : FnOk P w K mg base CX0 (k + 1) f fd ps sp :=
  F.ok S len fun cdv A outer s H vs Q E hr h => let ⟨t, a, b⟩ := hbody cdv A outer s H vs Q E hr h; ⟨t, a.1, b⟩
end
end L2
namespace L2
open PySem PySem.Spec PyProof.Rows
section
variable {X : Cx}
theorem bools_at {bs : List Bool} : ∀ {us : List Value} {j : Nat} {v : Value}, Vals (bs.map V.bl) us → us[j]? = some v → ∃ b, bs[j]? = some b ∧ v = .bool b := by
  intro us j v r h
  have hl := r.length
  have hj : j < us.length := (List.getElem?_eq_some_iff.mp h).1
  have hb : j < bs.length := by rw [List.length_map] at hl; omega
  obtain ⟨u, hu, ru⟩ := r.get (i := j) (x := .bl bs[j]) (by simp [hb])
  rw [h] at hu
  cases hu
  exact ⟨bs[j], by simp [hb], ru⟩
theorem all_range (bs : List Bool) : (List.range bs.length).all (fun j => (bs[j]?).getD true) = bs.all id := by
  rw [Bool.eq_iff_iff, List.all_eq_true, List.all_eq_true]
  constructor
  · intro h b hb
    obtain ⟨j, hj, e⟩ := List.mem_iff_getElem.mp hb
    have := h j (List.mem_range.mpr hj)
    rw [List.getElem?_eq_getElem hj] at this
    simpa [e] using this
  · intro h j hj
    have hj := List.mem_range.mp hj
    rw [List.getElem?_eq_getElem hj]
    exact h _ (List.getElem_mem hj)
theorem call_allL (hc : X.calm = true) : CallR X (.builtin "all") (fun xs H Q => ∃ (p : Addr) (bs : List Bool), xs = [.ref p] ∧ SqL X.K H p (bs.map V.bl) ∧ Q (.bl (bs.all id)) H) := by
  intro pins s σ H xs us Q I r ⟨p, bs, e, hq, q⟩
  subst e
  obtain ⟨u, rfl, rx⟩ := vals1 r
  cases rx
  obtain ⟨its, rv, pl, hz⟩ := I.list hq
  have hl : its.toArray.size = bs.length := by
    have := rv.length
    simpa using this.symm
  have hlt : p < s.heap.objs.size := by
    obtain ⟨o, ho, _⟩ := pl.isList
    exact Heap.lt_size ho
  refine call_all_walk (wpAny_pyIter_list pl.isList ?_)
  refine ⟨_, _, _, _, _, _, fun j => (bs[j]?).getD true, rfl, Walks.list (A := X.A.in1) (I.ok.hd hc) _ p (Nat.ne_of_lt hlt) its.toArray, ⟨⟨_, Heap.get?_push_size _ rfl, rfl, rfl⟩, pl.isList.at fun o e => Heap.get?_push_of_some _ e⟩, ?_, fun h' tk hk => ?_⟩
  · intro j v s' Q' E' hv hQ
    obtain ⟨b, hb, rfl⟩ := bools_at rv (show its[j]? = some v by simpa using hv)
    dsimp only at hQ
    rw [hb] at hQ
    exact wpAny_truthy_bool hQ
  · rw [hl, all_range]
    refine ⟨.bl _, H, I.kept (t' := tk) fun b o e => hk b o ?_ (Heap.get?_push_of_some _ e), rfl, q⟩
    intro z
    have : b = s.heap.objs.size := by simpa using z
    exact Nat.ne_of_lt (Heap.lt_size e) this
end
end L2
namespace L2
open PySem PySem.Spec PyProof.Rows
open PySem.W (Dat kqdP kqdPs kqdOk)

theorem same_upd {H : Hp} {p : Addr} (h : H p = none) (o : HO) : Same H (upd H p o) := fun b u q => by rw [upd_ne (ne_of_none q h)]; exact q
theorem Same.upd {H H' : Hp} (s : Same H H') {p : Addr} (h : H' p = none) (o : HO) : Same H (upd H' p o) := s.trans (same_upd h o)
theorem Same.write {H H' : Hp} (s : Same H H') {p : Addr} (h : H p = none) (o : HO) : Same H (L2.upd H' p o) := fun b u q => by rw [upd_ne (ne_of_none q h)]; exact s b u q
noncomputable def SameB (p : Addr) (H H' : Hp) : Prop := ∀ b o, b ≠ p → H b = some o → H' b = some o
theorem SameB.refl (p : Addr) (H : Hp) : SameB p H H := fun _ _ _ h => h
theorem Same.b {H H' : Hp} (s : Same H H') (p : Addr) : SameB p H H' := fun b o _ h => s b o h
theorem SameB.trans {p : Addr} {H H1 H2 : Hp} (a : SameB p H H1) (b : SameB p H1 H2) : SameB p H H2 := fun c o n h => b c o n (a c o n h)
theorem SameB.write {p : Addr} {H H1 : Hp} (a : SameB p H H1) (o : HO) : SameB p H (L2.upd H1 p o) := fun c u n h => by rw [upd_ne n]; exact a c u n h
theorem SameB.same {p : Addr} {G H H1 : Hp} (s : Same G H) (g : G p = none) (a : SameB p H H1) : Same G H1 := fun b o q => a b o (ne_of_none q g) (s b o q)

structure Bld (K : PySem.W.Frag) (H0 : Hp) (p : Addr) (xs : List V) (ds : List Dat) (H : Hp) : Prop where
  ex : ∃ G, Same H0 G ∧ Same G H ∧ G p = none ∧ Reps K G xs ds
  at_ : H p = some (.lst xs)
section
variable {K : PySem.W.Frag} {H0 H : Hp} {p T : Addr} {xs vs : List V} {ds es : List Dat}
theorem Bld.start (h : H0 p = none) : Bld K H0 p [] [] (upd H0 p (.lst [])) := ⟨⟨H0, Same.refl _, same_upd h _, h, .nil⟩, upd_same⟩
theorem Bld.same (b : Bld K H0 p xs ds H) : Same H0 H := by
  obtain ⟨G, a, c, _⟩ := b.ex
  exact a.trans c
theorem Bld.out (b : Bld K H0 p xs ds H) : H0 p = none := by
  obtain ⟨G, a, _, c, _⟩ := b.ex
  exact a.free c
theorem Bld.reps (b : Bld K H0 p xs ds H) : Reps K H xs ds := by
  obtain ⟨G, _, a, _, r⟩ := b.ex
  exact r.mono a
theorem Bld.len (b : Bld K H0 p xs ds H) : xs.length = ds.length := b.reps.length
theorem Bld.sq (b : Bld K H0 p xs ds H) : SqL K H p xs := .of b.at_
theorem Bld.rep (b : Bld K H0 p xs ds H) : Rep K H (.ref p) (.list ds) := .lst b.sq b.reps
theorem Bld.new (b : Bld K H0 p xs ds H) (h : H T = none) (o : HO) : Bld K H0 p xs ds (upd H T o) := by
  obtain ⟨G, a, c, n, r⟩ := b.ex
  exact ⟨⟨G, a, c.upd h o, n, r⟩, by rw [upd_ne (ne_of_none b.at_ h)]; exact b.at_⟩
theorem Bld.grow {H' : Hp} (b : Bld K H0 p xs ds H) (s : Same H H') : Bld K H0 p xs ds H' := by
  obtain ⟨G, a, c, n, r⟩ := b.ex
  exact ⟨⟨G, a, c.trans s, n, r⟩, s _ _ b.at_⟩
theorem Bld.other {q : Addr} {o : HO} (b : Bld K H0 p xs ds H) (hq : q ≠ p) (hG : ∀ G, Same H0 G → Same G H → G p = none → Reps K G xs ds → ∃ G', Same H0 G' ∧ Same G' H ∧ G' p = none ∧ G' q = none ∧ Reps K G' xs ds) : Bld K H0 p xs ds (upd H q o) := by
  obtain ⟨G, a, c, n, r⟩ := b.ex
  obtain ⟨G', a', c', n', nq, r'⟩ := hG G a c n r
  exact ⟨⟨G', a', c'.write nq o, n', r'⟩, by rw [upd_ne (Ne.symm hq)]; exact b.at_⟩
theorem Bld.push {v : V} {d : Dat} (b : Bld K H0 p xs ds H) (r : Rep K H0 v d) : Bld K H0 p (xs ++ [v]) (ds ++ [d]) (upd H p (.lst (xs ++ [v]))) := by
  obtain ⟨G, a, c, n, rs⟩ := b.ex
  exact ⟨⟨G, a, c.write n _, n, rs.snoc (r.mono a)⟩, upd_same⟩
end
theorem big {n : Nat} (h : n ≤ 100000) : n < sizeLine := Nat.lt_of_le_of_lt h (by decide)
theorem bigE {n : Nat} (h : n ≤ 100000) : n ≤ sizeLine := Nat.le_of_lt (big h)
end L2
namespace L2
open PySem PySem.Spec PyProof.Rows
open PySem.W (Dat kqdP kqdPs kqdOk)
section
variable {X : Cx}
open Classical in
end
section
variable {X : Cx} {K : PySem.W.Frag}
end
section
variable {g : TG} {tt : TT} {te : TE} {n0 : Nat} {cap : List Nat} {σ : St} {Q : VK} {D : Addr} {H1 : Hp} {K : PySem.W.Frag}
end
end L2
namespace L2
open PySem PySem.Spec PyProof.Rows
open PySem.W (Dat kqdP kqdPs kqdOk)
structure Off (M : List Addr) (G H : Hp) : Prop where
  same : Same G H
  out : ∀ m ∈ M, G m = none
  there : ∀ m ∈ M, ∃ o, H m = some o
section
variable {M : List Addr} {G G1 G2 H H' : Hp} {T m : Addr} {o u : HO}
theorem Off.ne (f : Off M G H) (h : H T = none) : T ∉ M := fun z => by
  obtain ⟨o, e⟩ := f.there T z
  rw [h] at e
  cases e
theorem Off.ne' (f : Off M G H) (h : H T = none) (hm : m ∈ M) : m ≠ T := fun z => f.ne h (z ▸ hm)
theorem Off.new (f : Off M G H) (h : H T = none) (o : HO) : Off M G (upd H T o) := ⟨f.same.upd h o, f.out, fun m hm => by
  obtain ⟨u, e⟩ := f.there m hm
  exact ⟨u, same_upd h o _ _ e⟩⟩
theorem Off.grow (f : Off M G H) (s : Same H H') : Off M G H' := ⟨f.same.trans s, f.out, fun m hm => by
  obtain ⟨u, e⟩ := f.there m hm
  exact ⟨u, s _ _ e⟩⟩
theorem Off.add (f : Off M G H) (h : H T = none) (o : HO) : Same G (upd G T o) := same_upd (f.same.free h) o
theorem Off.lay (f : Off M G H) (h : H T = none) (o : HO) : Off M (upd G T o) (upd H T o) := ⟨fun b v q => by
    by_cases e : b = T
    · subst e
      rw [upd_same] at q ⊢
      exact q
    · rw [upd_ne e] at q ⊢
      exact f.same b v q,
  fun m hm => by rw [upd_ne (f.ne' h hm)]; exact f.out m hm, (f.new h o).there⟩
theorem Off.write (f : Off M G H) (hm : m ∈ M) (o : HO) : Off M G (upd H m o) := ⟨f.same.write (f.out m hm) o, f.out, fun k hk => by
  by_cases e : k = m
  · subst e
    exact ⟨o, upd_same⟩
  · obtain ⟨u, e'⟩ := f.there k hk
    exact ⟨u, by rw [upd_ne e]; exact e'⟩⟩
theorem Off.sb (f : Off M G H) (hm : m ∈ M) (s : SameB m H H') (e : H' m = some o) : Off M G H' := ⟨s.same f.same (f.out m hm), f.out, fun k hk => by
  by_cases ek : k = m
  · subst ek
    exact ⟨o, e⟩
  · obtain ⟨u, e'⟩ := f.there k hk
    exact ⟨u, s k u ek e'⟩⟩
theorem Off.opn (f : Off M G H) (h : H T = none) (o : HO) : Off (T :: M) G (upd H T o) := ⟨f.same.upd h o, fun m hm => by
    rcases List.mem_cons.mp hm with rfl | hm
    · exact f.same.free h
    · exact f.out m hm,
  fun m hm => by
    rcases List.mem_cons.mp hm with rfl | hm
    · exact ⟨o, upd_same⟩
    · exact (f.new h o).there m hm⟩
theorem Off.drop (f : Off (m :: M) G H) : Off M G H := ⟨f.same, fun k hk => f.out k (.tail _ hk), fun k hk => f.there k (.tail _ hk)⟩
theorem Off.less {N : List Addr} (f : Off M G H) (h : ∀ k ∈ N, k ∈ M) : Off N G H := ⟨f.same, fun k hk => f.out k (h k hk), fun k hk => f.there k (h k hk)⟩
theorem Off.take {a : Addr} (f : Off M G H) (e : H a = some o) (hn : a ∉ M) : Off M (upd G a o) H ∧ Same G (upd G a o) := by
  refine ⟨⟨fun b v q => ?_, fun k hk => ?_, f.there⟩, fun b v q => ?_⟩
  · by_cases eb : b = a
    · subst eb
      rw [upd_same] at q
      rw [e]
      exact q
    · rw [upd_ne eb] at q
      exact f.same b v q
  · have : k ≠ a := fun z => hn (z ▸ hk)
    rw [upd_ne this]
    exact f.out k hk
  · by_cases eb : b = a
    · subst eb
      have := f.same _ _ q
      rw [e] at this
      rw [upd_same]
      exact this
    · rw [upd_ne eb]
      exact q
theorem Off.join (f : Off M G1 H) (g : Off M G2 H) : ∃ G, Off M G H ∧ Same G1 G ∧ Same G2 G := by
  refine ⟨fun b => match G1 b with | some o => some o | none => G2 b, ⟨fun b v q => ?_, fun m hm => ?_, f.there⟩, fun b v q => ?_, fun b v q => ?_⟩
  · cases e : G1 b with
    | some o => simp only [e] at q; rw [← q]; exact f.same b o e
    | none => simp only [e] at q; exact g.same b v q
  · simp only [f.out m hm]
    exact g.out m hm
  · simp only [q]
  · cases e : G1 b with
    | some o =>
      have := f.same b o e
      rw [g.same b v q] at this
      simp only [e]
      exact this.symm
    | none => simp only [e]; exact q
theorem Off.start {p : Addr} (h : H p = none) (o : HO) : Off [p] H (upd H p o) := ⟨same_upd h o, fun m hm => by rw [List.mem_singleton.mp hm]; exact h, fun m hm => by rw [List.mem_singleton.mp hm]; exact ⟨o, upd_same⟩⟩
theorem SameB.new {p : Addr} (a : SameB p H H') (h : H' T = none) (o : HO) : SameB p H (L2.upd H' T o) := a.trans ((same_upd h o).b p)
theorem SameB.free {p : Addr} (a : SameB p H H') (h : H' T = none) (hp : T ≠ p) : H T = none := by
  cases e : H T with
  | none => rfl
  | some u => rw [a T u hp e] at h; cases h
end
end L2
namespace L2
open PySem PySem.Spec PyProof.Rows
noncomputable def mergeT (kvs more : List (List Key × V)) : List (List Key × V) := more.foldl (fun acc kv => putK acc kv.1 kv.2) kvs
noncomputable def storeAll (acc xs : List (List Key × Addr × Value)) : List (List Key × Addr × Value) := xs.foldl (fun acc x => storedH acc x.1 x.2.1 x.2.2) acc
section
variable {prog : Program} {w : World} {A : Around} {E : Value → Shared → Prop} {s : Shared}
end
section
variable {prog : Program} {w : World} {A : Around} {R : Result → Shared → Prop}
end
section
variable {prog : Program} {w : World} {A : Around} {E : Value → Shared → Prop} {s : Shared}
end
theorem KT.merge {H : Hp} : ∀ {more : List (List Key × V)} {xs : List (List Key × Addr × Value)} {kvs : List (List Key × V)} {ys : List (List Key × Addr × Value)}, KT H more xs → KT H kvs ys → KT H (mergeT kvs more) (storeAll ys xs)
  | _, _, _, _, .nil, q => q
  | _, _, kvs, ys, .cons (a := p) (b := x) h t, q => by
    have e : KT H (putK kvs p.1 p.2) (storedH ys x.1 x.2.1 x.2.2) := by
      have := q.put p.1 h.2.1 h.2.2
      rw [← h.1]; exact this
    have z := KT.merge (kvs := putK kvs p.1 p.2) (ys := storedH ys x.1 x.2.1 x.2.2) t e
    exact z
section
variable {X : Cx}
end
end L2
namespace L2
open PySem PySem.Spec PyProof.Rows
section
variable {X : Cx} {e k : Expr} {te tk : TE} {pos p2 : Pos}
end
end L2
namespace L2
open PySem PySem.Spec PyProof.Rows
section
variable {prog : Program} {w : World} {A : Around} {E : Value → Shared → Prop} {s : Shared}
end
section
variable {X : Cx} {pos : Pos}
end
end L2
namespace L2
open PySem PySem.Spec PyProof.Rows
section
variable {X : Cx}
end
end L2
namespace L2
open PySem PySem.Spec PyProof.Rows
noncomputable def TabK (K : PySem.W.Frag) (a : Addr) (D : List (Str × KTD.Dat)) : Prop := KTD.tabLook (KTD.datLooks fun b => K.lookup b) (fun b => K.lookup b) a D = true
section
variable {prog : Program} {w : World} {A : Around} {E : Value → Shared → Prop} {s : Shared}
theorem dictGet_tab {δ : Type} {R : δ → Value → Prop} {D : List (Str × δ)} {a : Addr} {k : Str} {tk : Tok} {d0 : δ} {Q : Option Value → Shared → Prop} (T : KTD.TabOf R s.heap a D) (hat : KTD.datumAt k D = some d0)
    (good : ∀ v, R d0 v → Q (some v) { s with toks := s.toks + 1 }) : wpAny (model prog w) A (dictGet a (.str k tk)) Q E s := by
  obtain ⟨_, ob, es, ep, e1, _, e2, rows⟩ := T
  obtain ⟨v0, fv, rv⟩ := rows.find_some hat
  have exs : (es.all fun en => isExactStrKey en.key) = true := by
    obtain ⟨l⟩ := es
    simpa using rows.exact
  have fb : findBy (fun x u => u.isStr x) es k = some v0 := by
    rw [← fv]
    obtain ⟨l⟩ := es
    simp [findBy]
  unfold dictGet
  try with_reducible refine wpAny_holding ?_
  refine wpAny_bind (wpAny_pyHash_str ?_)
  refine wpAny_bind (KTD.kt_dictFind_strs (s := { s with toks := s.toks + 1 }) e1 e2 exs ?_)
  rw [findBy_of_findIdx?] at fb
  cases hi : es.findIdx? fun en => en.key.isStr k with
  | none => rw [hi] at fb; cases fb
  | some i =>
    rw [hi] at fb
    have fb' : (es[i]?).map (·.val) = some v0 := fb
    refine wpAny_bind (wpAny_dictEntries (s := { s with toks := s.toks + 1 }) e1 e2 (wpAny_pure ?_))
    rw [fb']
    exact good v0 rv
end
theorem flats_ints : ∀ {ns : List Int} {vs : List Value}, KTD.flatsLook (ns.map PyData.int) vs = true → Vals (ns.map V.int) vs
  | [], [], _ => .nil
  | n :: ns, v :: vs, h => by
    have h' : (KTD.flatLooks (PyData.int n) v && KTD.flatsLook (ns.map PyData.int) vs) = true := h
    rw [Bool.and_eq_true] at h'
    refine .cons ?_ (flats_ints h'.2)
    have h1 := h'.1
    cases v with
    | int j t =>
      have : n = j := by simpa [KTD.flatLooks] using h1
      subst this
      exact ⟨t, rfl⟩
    | _ => simp [KTD.flatLooks] at h1
  | [], _ :: _, h => by simp [KTD.flatsLook] at h
  | _ :: _, [], h => by simp [KTD.flatsLook] at h
theorem tup_look {K : PySem.W.Frag} {H : Hp} {ns : List Int} {v : Value} (hz : ns.length ≤ 1000) (h : KTD.datLooks (fun b => K.lookup b) (.tup (ns.map PyData.int)) v = true) : ∃ p, v = .ref p ∧ SqT K H p (ns.map V.int) := by
  cases v with
  | ref p =>
    refine ⟨p, rfl, .inr ?_⟩
    simp only [KTD.datLooks] at h
    cases e : K.lookup p with
    | none => rw [e] at h; cases h
    | some o =>
      rw [e] at h
      simp only [Bool.and_eq_true] at h
      obtain ⟨h1, h2⟩ := h
      cases ed : o.data with
      | seq vs n =>
        rw [ed] at h2
        have rv := flats_ints h2
        have lv := rv.length
        rw [List.length_map] at lv
        have lz : vs.size = ns.length := by rw [lv, Array.length_toList]
        have line : (1000 : Nat) ≤ sizeLine := by decide
        exact ⟨o, vs, n, rfl, beq_iff_eq.mp h1, ed, by omega, rv⟩
      | _ => rw [ed] at h2; cases h2
  | _ => simp [KTD.datLooks] at h
section
variable {X : Cx}
theorem TabK.at {pins : List (Addr × Obj)} {σ : St} {H : Hp} {s : Shared} {a : Addr} {D : List (Str × KTD.Dat)} (I : Inv X pins σ H s) (h : TabK X.K a D) : KTD.TabOf (fun d v => KTD.datLooks (fun b => X.K.lookup b) d v = true) s.heap a D :=
  KTD.tab_of_look (fun _ _ z => z) (fun b o q => I.kIn b o q) h
theorem TabK.here {pins : List (Addr × Obj)} {σ : St} {H : Hp} {s : Shared} {a : Addr} {D : List (Str × KTD.Dat)} (I : Inv X pins σ H s) (h : TabK X.K a D) : KTD.Here s.heap s.heap a D :=
  ⟨PySem.W.kt_text_in I.kIn h, fun _ _ q => q⟩
noncomputable def rInTab (K : PySem.W.Frag) (neg : Bool) : R2 := fun x y H Q => ∃ k a D, x = .str k ∧ y = .ref a ∧ TabK K a D ∧ Q (.bl (if neg then !KTD.inKeys k D else KTD.inKeys k D)) H
theorem op_inTab : OpR X (compareOp .In) (rInTab X.K false) := by
  intro pins s σ H x y v u Q I rx ry ⟨k, a, D, e1, e2, h, q⟩
  subst e1 e2
  obtain ⟨t, rfl⟩ := rx
  cases ry
  exact KTD.in_text (h.here I) ⟨.bl _, H, I.tok _, rfl, q⟩
noncomputable def rIxTab (K : PySem.W.Frag) : R2 := fun x y H Q => ∃ (a : Addr) (k : Str) (D : List (Str × KTD.Dat)) (ns : List Int), x = .ref a ∧ y = .str k ∧ TabK K a D ∧ KTD.datumAt k D = some (.tup (ns.map PyData.int)) ∧ ns.length ≤ 1000 ∧ ∀ p, SqT K H p (ns.map V.int) → Q (.ref p) H
theorem ix_tab : IxR X (rIxTab X.K) := by
  intro value slice pins s σ H x y v u Q I rx ry ⟨a, k, D, ns, e1, e2, h, hat, hz, q⟩ hs
  subst e1 e2
  cases (show v = Value.ref a from rx)
  obtain ⟨t, rfl⟩ := (show ∃ t, u = Value.str k t from ry)
  have hT := (h.here I).typeIs
  refine tail_any (ops := [.ref a, .str k t]) hT PySem.F.slot_dict_getitem.lookup ?_ hs
  unfold getItem
  try with_reducible refine wpAny_holding ?_
  refine wpAny_bind (wpAny_sequenceKey hT (by decide) ?_)
  refine wpAny_bind (wpAny_callSpecial?_slot (name := Str.ofString "__getitem__") hT slot_dict_getitem (wpAny_call_entry slot_dict_getitem hT entry_dict_getitem ?_ (args_dict_getitem _ _)))
  show wpAny _ _ (dictGet a (.str k t) >>= _) _ _ s
  refine wpAny_bind (dictGet_tab (h.at I) hat fun v hv => ?_)
  obtain ⟨p, rfl, hp⟩ := tup_look (H := H) hz hv
  exact wpAny_pure ⟨_, rfl, wpAny_pure ⟨.ref p, H, I.tok _, rfl, q p hp⟩⟩
end
end L2
namespace My
open PySem L2
open PySem.W (Dat kqdP kqdPs kqdOk)

structure Works where
  ins : Int
  gates : List (Str × List Int)
  outs : List Int
noncomputable def legsOk (kind : Str) (n : Nat) : Prop := ((kind = "and" ∨ kind = "or" ∨ kind = "odd") ∧ 2 ≤ n ∧ n ≤ 4) ∨ (kind = "not" ∧ n = 1) ∨ (kind = "choose" ∧ n = 3) ∨ ((kind = "zero" ∨ kind = "one") ∧ n = 0)
structure WF (most : Nat) (w : Works) : Prop where
  i1 : 1 ≤ w.ins
  i6 : w.ins ≤ 6
  few : w.gates.length ≤ most
  legs : ∀ (k : Nat) g, w.gates[k]? = some g → legsOk g.1 g.2.length ∧ ∀ l ∈ g.2, 0 ≤ l ∧ l < w.ins + k
  o1 : 1 ≤ w.outs.length
  o3 : w.outs.length ≤ most + 20
  outs : ∀ o ∈ w.outs, 0 ≤ o ∧ o < w.ins + w.gates.length
noncomputable def gateD (g : Str × List Int) : Dat := .tuple [.str g.1, .tuple (g.2.map .int)]
noncomputable def worksD (w : Works) : Dat := .tuple [.int w.ins, .list (w.gates.map gateD), .list (w.outs.map .int)]

theorem legsOk.le {k : Str} {n : Nat} (h : legsOk k n) : n ≤ 4 := by
  unfold legsOk at h
  omega

theorem gates_at {K : PySem.W.Frag} {H : Hp} {w : Works} {x : V} (h : Rep K H x (worksD w)) :
    ∃ a ga oa gs os, x = .ref a ∧ SqT K H a [.int w.ins, .ref ga, .ref oa] ∧ SqL K H ga gs ∧ SqL K H oa os ∧ Reps K H gs (w.gates.map gateD) ∧ Reps K H os (w.outs.map .int) := by
  unfold worksD at h
  cases h with
  | tup ha r =>
    cases r with
    | cons r1 r =>
      cases r with
      | cons r2 r =>
        cases r with
        | cons r3 r =>
          cases r
          cases r1
          cases r2 with
          | lst hg rg =>
            cases r3 with
            | lst ho ro => exact ⟨_, _, _, _, _, rfl, ha, hg, ho, rg, ro⟩
theorem gate_at {K : PySem.W.Frag} {H : Hp} {g : Str × List Int} {x : V} (h : Rep K H x (gateD g)) :
    ∃ a la, x = .ref a ∧ SqT K H a [.str g.1, .ref la] ∧ SqT K H la (g.2.map V.int) := by
  unfold gateD at h
  cases h with
  | tup ha r =>
    cases r with
    | cons r1 r =>
      cases r with
      | cons r2 r =>
        cases r
        cases r1
        cases r2 with
        | tup hl rl =>
          have e : ∀ (xs : List V) (ns : List Int), Reps K H xs (ns.map Dat.int) → xs = ns.map V.int := by
            intro xs ns
            induction ns generalizing xs with
            | nil => intro z; cases z; rfl
            | cons m r ih =>
              intro z
              cases z with
              | cons z1 z2 =>
                cases z1
                rw [ih _ z2]
                rfl
          rw [e _ _ rl] at hl
          exact ⟨_, _, rfl, ha, hl⟩
end My
namespace My
open PySem L2
noncomputable def Bits (ns : List Int) : Prop := ∀ n ∈ ns, n = 0 ∨ n = 1
noncomputable def gateV (x : Str) (ns : List Int) : Int :=
  if x = "and" then (if ns.all (· == 1) = true then 1 else 0)
  else if x = "or" then (if ns.any (· == 1) = true then 1 else 0)
  else if x = "odd" then ns.sum % 2
  else if x = "not" then 1 - ns.getD 0 0
  else if x = "choose" then (if ns.getD 0 0 = 1 then ns.getD 1 0 else ns.getD 2 0)
  else if x = "one" then 1 else 0
theorem n_oa : ("or" : Str) ≠ "and" := by decide +kernel
theorem n_da : ("odd" : Str) ≠ "and" := by decide +kernel
theorem n_do : ("odd" : Str) ≠ "or" := by decide +kernel
theorem n_na : ("not" : Str) ≠ "and" := by decide +kernel
theorem n_no : ("not" : Str) ≠ "or" := by decide +kernel
theorem n_nd : ("not" : Str) ≠ "odd" := by decide +kernel
theorem n_ca : ("choose" : Str) ≠ "and" := by decide +kernel
theorem n_co : ("choose" : Str) ≠ "or" := by decide +kernel
theorem n_cd : ("choose" : Str) ≠ "odd" := by decide +kernel
theorem n_cn : ("choose" : Str) ≠ "not" := by decide +kernel
theorem n_za : ("zero" : Str) ≠ "and" := by decide +kernel
theorem n_zo : ("zero" : Str) ≠ "or" := by decide +kernel
theorem n_zd : ("zero" : Str) ≠ "odd" := by decide +kernel
theorem n_zn : ("zero" : Str) ≠ "not" := by decide +kernel
theorem n_zc : ("zero" : Str) ≠ "choose" := by decide +kernel
theorem n_z1 : ("zero" : Str) ≠ "one" := by decide +kernel
theorem n_1a : ("one" : Str) ≠ "and" := by decide +kernel
theorem n_1o : ("one" : Str) ≠ "or" := by decide +kernel
theorem n_1d : ("one" : Str) ≠ "odd" := by decide +kernel
theorem n_1n : ("one" : Str) ≠ "not" := by decide +kernel
theorem n_1c : ("one" : Str) ≠ "choose" := by decide +kernel
theorem gv_and (ns : List Int) : gateV "and" ns = if ns.all (· == 1) = true then 1 else 0 := by unfold gateV; rw [if_pos rfl]
theorem gv_or (ns : List Int) : gateV "or" ns = if ns.any (· == 1) = true then 1 else 0 := by unfold gateV; rw [if_neg n_oa, if_pos rfl]
theorem gv_odd (ns : List Int) : gateV "odd" ns = ns.sum % 2 := by unfold gateV; rw [if_neg n_da, if_neg n_do, if_pos rfl]
theorem gv_not (ns : List Int) : gateV "not" ns = 1 - ns.getD 0 0 := by unfold gateV; rw [if_neg n_na, if_neg n_no, if_neg n_nd, if_pos rfl]
theorem gv_choose (ns : List Int) : gateV "choose" ns = if ns.getD 0 0 = 1 then ns.getD 1 0 else ns.getD 2 0 := by unfold gateV; rw [if_neg n_ca, if_neg n_co, if_neg n_cd, if_neg n_cn, if_pos rfl]
theorem gv_zero (ns : List Int) : gateV "zero" ns = 0 := by unfold gateV; rw [if_neg n_za, if_neg n_zo, if_neg n_zd, if_neg n_zn, if_neg n_zc, if_neg n_z1]
theorem gv_one (ns : List Int) : gateV "one" ns = 1 := by unfold gateV; rw [if_neg n_1a, if_neg n_1o, if_neg n_1d, if_neg n_1n, if_neg n_1c, if_pos rfl]
theorem getD_bit {ns : List Int} (b : Bits ns) {i : Nat} (h : i < ns.length) : ns.getD i 0 = 0 ∨ ns.getD i 0 = 1 := by
  rw [List.getD_eq_getElem?_getD, List.getElem?_eq_getElem h]
  exact b _ (List.getElem_mem h)
theorem gate_bit {x : Str} {ns : List Int} (b : Bits ns) (h : legsOk x ns.length) : gateV x ns = 0 ∨ gateV x ns = 1 := by
  rcases h with ⟨h | h | h, l1, l2⟩ | ⟨h, l1⟩ | ⟨h, l1⟩ | ⟨h | h, l1⟩
  · rw [h, gv_and]; split <;> simp
  · rw [h, gv_or]; split <;> simp
  · rw [h, gv_odd]; omega
  · rw [h, gv_not]
    have := getD_bit b (i := 0) (by omega)
    omega
  · rw [h, gv_choose]
    split
    · exact getD_bit b (i := 1) (by omega)
    · exact getD_bit b (i := 2) (by omega)
  · rw [h, gv_zero]; simp
  · rw [h, gv_one]; simp
noncomputable def wiresV (gs : List (Str × List Int)) (row : List Int) : Nat → List Int
  | 0 => row
  | n + 1 => wiresV gs row n ++ [match gs[n]? with
      | some g => gateV g.1 (g.2.map fun l => (wiresV gs row n).getD l.toNat 0)
      | none => 0]
theorem wiresV_len (gs : List (Str × List Int)) (row : List Int) : ∀ n, (wiresV gs row n).length = row.length + n
  | 0 => rfl
  | n + 1 => by rw [wiresV, List.length_append, wiresV_len gs row n]; simp; omega
theorem wiresV_bits {m : Nat} {w : Works} {row : List Int} (wf : WF m w) (hl : (row.length : Int) = w.ins) (b : Bits row) : ∀ n, n ≤ w.gates.length → Bits (wiresV w.gates row n)
  | 0, _ => b
  | n + 1, h => by
    have ih := wiresV_bits wf hl b n (by omega)
    obtain ⟨g, hg⟩ : ∃ g, w.gates[n]? = some g := ⟨_, List.getElem?_eq_getElem (by omega)⟩
    rw [wiresV, hg]
    intro z hz
    rcases List.mem_append.mp hz with hz | hz
    · exact ih z hz
    · rw [List.mem_singleton.mp hz]
      obtain ⟨l1, l2⟩ := wf.legs n g hg
      refine gate_bit (fun y hy => ?_) (by rw [List.length_map]; exact l1)
      obtain ⟨l, hl', rfl⟩ := List.mem_map.mp hy
      have := l2 l hl'
      exact getD_bit ih (by rw [wiresV_len]; omega)
theorem ifY {x y : Str} {A B : Prop} (h : x = y) (a : A) : if (decide (V.str x = V.str y)) = true then A else B := by rw [if_pos (decide_eq_true (by rw [h]))]; exact a
theorem ifN {x y : Str} {A B : Prop} (h : x ≠ y) (b : B) : if (decide (V.str x = V.str y)) = true then A else B := by rw [if_neg (by rw [decide_eq_true_eq]; intro z; exact h (V.str.inj z))]; exact b
theorem at_ints {ns : List Int} {i : Int} (h0 : 0 ≤ i) (h1 : i < ns.length) : atI (ns.map V.int) i = some (.int (ns.getD i.toNat 0)) := by
  have e : i = ((i.toNat : Nat) : Int) := by omega
  have hk : i.toNat < ns.length := by omega
  have q : atI (ns.map V.int) ((i.toNat : Nat) : Int) = some (.int ns[i.toNat]) := atI_nat (by rw [List.getElem?_map, List.getElem?_eq_getElem hk] <;> rfl)
  rw [← e] at q
  rw [q, List.getD_eq_getElem?_getD, List.getElem?_eq_getElem hk]
  rfl
theorem ones_sum : ∀ {ns : List Int}, Bits ns → ns.sum = ((ns.filter (· == 1)).length : Int)
  | [], _ => rfl
  | n :: r, b => by
    have ih := ones_sum (ns := r) fun z hz => b z (.tail _ hz)
    rcases b n (.head _) with e | e
    · rw [e, List.sum_cons, ih, List.filter_cons_of_neg (by decide)]; omega
    · rw [e, List.sum_cons, ih, List.filter_cons_of_pos (by decide), List.length_cons]; omega
theorem ones_all {ns : List Int} : (ns.filter (· == 1)).length = ns.length ↔ ns.all (· == 1) = true := by
  rw [List.length_filter_eq_length_iff, List.all_eq_true]
theorem ones_any {ns : List Int} : 0 < (ns.filter (· == 1)).length ↔ ns.any (· == 1) = true := by
  rw [List.length_filter_pos_iff, List.any_eq_true]
theorem k_and {ns : List Int} : (if (decide (V.int ((((ns.filter (· == 1)).map V.int).length : Nat) : Int) = V.int (((ns.map V.int).length : Nat) : Int))) = true then (1 : Int) else 0) = gateV "and" ns := by
  rw [gv_and, List.length_map, List.length_map]
  by_cases h : (ns.filter (· == 1)).length = ns.length
  · rw [if_pos (by simp [h]), if_pos (ones_all.mp h)]
  · rw [if_neg (by simp; omega), if_neg (fun z => h (ones_all.mpr z))]
theorem k_or {ns : List Int} : (if (decide ((0 : Int) < ((((ns.filter (· == 1)).map V.int).length : Nat) : Int))) = true then (1 : Int) else 0) = gateV "or" ns := by
  rw [gv_or, List.length_map]
  by_cases h : 0 < (ns.filter (· == 1)).length
  · rw [if_pos (decide_eq_true (by omega)), if_pos (ones_any.mp h)]
  · rw [if_neg (by rw [decide_eq_true_eq]; omega), if_neg (fun z => h (ones_any.mpr z))]
theorem k_odd {ns : List Int} (b : Bits ns) : ((((ns.filter (· == 1)).map V.int).length : Nat) : Int) % 2 = gateV "odd" ns := by
  rw [gv_odd, ones_sum b, List.length_map]
theorem k_not {ns : List Int} (b : Bits ns) (h : ns.length = 1) : 1 - (if ((((ns.filter (· == 1)).map V.int).length : Nat) : Int) < 1 then ((((ns.filter (· == 1)).map V.int).length : Nat) : Int) else 1) = gateV "not" ns := by
  rw [gv_not, List.length_map]
  match ns, h with
  | [n], _ =>
    rcases b n (.head _) with e | e
    · subst e; rfl
    · subst e; rfl
theorem ones_snoc {ns : List Int} {j : Nat} {n : Int} (h : ns[j]? = some n) : (ns.take (j + 1)).filter (· == 1) = (ns.take j).filter (· == 1) ++ (if n = 1 then [n] else []) := by
  rw [List.take_add_one, h, List.filter_append]
  by_cases e : n = 1
  · subst e; rfl
  · rw [if_neg e]
    congr 1
    show List.filter _ [n] = []
    rw [List.filter_cons_of_neg (by simpa using e)]
    rfl
noncomputable def upto (gs : List (Str × List Int)) (row : List Int) (i : Nat) : List Int := (wiresV gs row (i - row.length)).take i
theorem upto_zero (gs : List (Str × List Int)) (row : List Int) : upto gs row 0 = [] := by unfold upto; simp
theorem upto_len (gs : List (Str × List Int)) (row : List Int) (i : Nat) : (upto gs row i).length = i := by
  unfold upto
  rw [List.length_take, wiresV_len]
  omega
theorem upto_row {gs : List (Str × List Int)} {row : List Int} {i : Nat} (h : i < row.length) : upto gs row (i + 1) = upto gs row i ++ [row.getD i 0] := by
  unfold upto
  have e1 : i + 1 - row.length = 0 := by omega
  have e2 : i - row.length = 0 := by omega
  rw [e1, e2]
  show row.take (i + 1) = row.take i ++ _
  rw [List.take_add_one, List.getElem?_eq_getElem h, List.getD_eq_getElem?_getD, List.getElem?_eq_getElem h]
  rfl
theorem upto_gate {gs : List (Str × List Int)} {row : List Int} {n : Nat} : upto gs row (row.length + n) = wiresV gs row n := by
  unfold upto
  have e : row.length + n - row.length = n := by omega
  rw [e, List.take_of_length_le (by rw [wiresV_len]; omega)]
end My
namespace My
open PySem L2
open PySem.W (Dat kqdP kqdPs kqdOk)
theorem WF.mono {m n : Nat} {w : Works} (h : WF m w) (l : m ≤ n) : WF n w := ⟨h.i1, h.i6, Nat.le_trans h.few l, h.legs, h.o1, Nat.le_trans h.o3 (by omega), h.outs⟩
noncomputable def rowD (r : List Int) : Dat := .list (r.map .int)
inductive At (H : Hp) : List Addr → List (List Int) → Prop
  | nil : At H [] []
  | cons {q : Addr} {r : List Int} {qs : List Addr} {rs : List (List Int)} : H q = some (.lst (r.map V.int)) → At H qs rs → At H (q :: qs) (r :: rs)
section
variable {K : PySem.W.Frag} {H H' : Hp} {qs qs' : List Addr} {rs rs' : List (List Int)}
theorem At.mono (s : Same H H') (h : At H qs rs) : At H' qs rs := by
  induction h with
  | nil => exact .nil
  | cons e _ ih => exact .cons (s _ _ e) ih
theorem At.append (h : At H qs rs) (h' : At H qs' rs') : At H (qs ++ qs') (rs ++ rs') := by
  induction h with
  | nil => exact h'
  | cons e _ ih => exact .cons e ih
theorem At.len (h : At H qs rs) : qs.length = rs.length := by
  induction h with
  | nil => rfl
  | cons e _ ih => rw [List.length_cons, List.length_cons, ih]
theorem At.get (h : At H qs rs) : ∀ {i : Nat} {q : Addr}, qs[i]? = some q → ∃ r, rs[i]? = some r ∧ H q = some (.lst (r.map V.int)) := by
  induction h with
  | nil => intro i q e; cases e
  | cons e _ ih =>
    intro i q z
    cases i with
    | zero => cases z; exact ⟨_, rfl, e⟩
    | succ i => exact ih z
theorem At.here (h : At H qs rs) {q : Addr} (m : q ∈ qs) : ∃ r ∈ rs, H q = some (.lst (r.map V.int)) := by
  obtain ⟨i, hi⟩ := List.getElem?_of_mem m
  obtain ⟨r, a, b⟩ := h.get hi
  exact ⟨r, List.mem_of_getElem? a, b⟩
theorem At.reps (h : At H qs rs) : Reps K H (qs.map V.ref) (rs.map rowD) := by
  induction h with
  | nil => exact .nil
  | cons e _ ih => exact .cons (.lst (.of e) (Reps.ints _)) ih
theorem At.write {p : Addr} {o : HO} (n : p ∉ qs) (h : At H qs rs) : At (upd H p o) qs rs := by
  induction h with
  | nil => exact .nil
  | cons e _ ih =>
    refine .cons ?_ (ih fun z => n (.tail _ z))
    rename_i q0 _ _ _ _
    have hne : q0 ≠ p := fun z => n (by rw [z]; exact .head _)
    rw [upd_ne hne]
    exact e
theorem At.set {r : List Int} (h : At H qs rs) : ∀ {i : Nat} {q : Addr}, qs.Nodup → qs[i]? = some q → At (upd H q (.lst (r.map V.int))) qs (rs.set i r) := by
  induction h with
  | nil => intro i q _ e; cases e
  | @cons q' r' qs' rs' e t ih =>
    intro i q nd z
    have nd' := List.nodup_cons.mp nd
    cases i with
    | zero =>
      cases z
      exact .cons upd_same (t.write nd'.1)
    | succ i =>
      refine .cons ?_ (ih nd'.2 z)
      have hne : q' ≠ q := fun y => nd'.1 (by rw [y]; exact List.mem_of_getElem? z)
      rw [upd_ne hne]
      exact e
end
structure Rows (H0 : Hp) (R : Addr) (qs : List Addr) (rs : List (List Int)) (H : Hp) : Prop where
  same : Same H0 H
  out : H0 R = none
  at_ : H R = some (.lst (qs.map V.ref))
  rows : At H qs rs
  nd : qs.Nodup
  new : ∀ q ∈ qs, H0 q = none ∧ q ≠ R
section
variable {K : PySem.W.Frag} {H0 H H1 H2 : Hp} {R D D1 D2 T q : Addr} {qs qs1 qs2 : List Addr} {rs rs1 rs2 : List (List Int)}
theorem Rows.start (s : Same H0 H) (h : H D = none) : Rows H0 D [] [] (upd H D (.lst [])) := ⟨s.upd h _, s.free h, upd_same, .nil, .nil, fun _ z => nomatch z⟩
theorem Rows.sq (b : Rows H0 R qs rs H) : SqL K H R (qs.map V.ref) := .of b.at_
theorem Rows.rep (b : Rows H0 R qs rs H) : Rep K H (.ref R) (.list (rs.map rowD)) := .lst b.sq b.rows.reps
theorem Rows.grow (b : Rows H0 R qs rs H) (s : Same H H1) : Rows H0 R qs rs H1 := ⟨b.same.trans s, b.out, s _ _ b.at_, b.rows.mono s, b.nd, b.new⟩
theorem Rows.push {o : HO} {r : List Int} {vs : List V} (b : Rows H0 D qs rs H) (hT : H T = none) (hq : upd H T o q = none) (e : vs = r.map V.int) :
    Rows H0 D (qs ++ [q]) (rs ++ [r]) (upd (upd (upd H T o) q (.lst vs)) D (.lst (qs.map V.ref ++ [.ref q]))) := by
  subst e
  have s1 : Same H (upd (upd H T o) q (.lst (r.map V.int))) := (same_upd hT _).upd hq _
  have q0 : H q = none := (same_upd hT o).free hq
  have qD : q ≠ D := Ne.symm (ne_of_none b.at_ q0)
  have nq : q ∉ qs := fun z => by
    obtain ⟨r, _, e⟩ := b.rows.here z
    rw [q0] at e
    cases e
  refine ⟨(b.same.trans s1).write b.out _, b.out, by rw [upd_same, List.map_append]; rfl, ?_, ?_, fun z hz => ?_⟩
  · refine At.write (fun z => ?_) (At.append (b.rows.mono s1) (.cons upd_same .nil))
    rcases List.mem_append.mp z with z | z
    · exact (b.new D z).2 rfl
    · exact qD (List.mem_singleton.mp z).symm
  · refine List.nodup_append.mpr ⟨b.nd, List.nodup_cons.mpr ⟨(fun z => nomatch z), List.nodup_nil⟩, fun x hx y hy e => ?_⟩
    rw [List.mem_singleton.mp hy] at e
    exact nq (e ▸ hx)
  · rcases List.mem_append.mp hz with hz | hz
    · exact b.new z hz
    · rw [List.mem_singleton.mp hz]
      exact ⟨b.same.free q0, qD⟩
end
theorem reps_ints {K : PySem.W.Frag} {H : Hp} : ∀ {xs : List V} {ns : List Int}, Reps K H xs (ns.map Dat.int) → xs = ns.map V.int
  | _, [], h => by cases h; rfl
  | _, n :: ns, h => by
    cases h with
    | cons h1 h2 =>
      cases h1
      rw [reps_ints h2]
      rfl
noncomputable def outsV (w : Works) (ws : List Int) : List Int := w.outs.map fun o => ws.getD o.toNat 0
end My
namespace My
open PySem L2
open PySem.W (Dat kqdP kqdPs kqdOk)
end My
namespace My
open PySem L2
open PySem.W (Dat kqdP kqdPs kqdOk)
structure Flt where
  place : List Key
  worth : Int
noncomputable def kD : Key → Dat
  | .inl n => .int n
  | .inr s => .str s
noncomputable def fltD (f : Flt) : Dat := .tuple (f.place.map kD ++ [.int f.worth])
noncomputable def wireK (i : Int) : List Key := [Sum.inr "wire", Sum.inl i]
noncomputable def legK (k i : Int) : List Key := [Sum.inr "leg", Sum.inl k, Sum.inl i]
noncomputable def wiresK : Nat → List (List Key)
  | 0 => []
  | n + 1 => wiresK n ++ [wireK n]
noncomputable def legsK (k : Int) : Nat → List (List Key)
  | 0 => []
  | n + 1 => legsK k n ++ [legK k n]
noncomputable def gatesK (gs : List (Str × List Int)) : Nat → List (List Key)
  | 0 => []
  | n + 1 => gatesK gs n ++ legsK n ((gs[n]?.map fun g => g.2.length).getD 0)
noncomputable def placesK (w : Works) : List (List Key) := wiresK (w.ins.toNat + w.gates.length) ++ gatesK w.gates w.gates.length
theorem legK_inj {k l i j : Int} (h : legK k i = legK l j) : k = l ∧ i = j := by
  unfold legK at h
  injection h with _ h
  injection h with h1 h
  injection h with h
  exact ⟨Sum.inl.inj h1, Sum.inl.inj h⟩
theorem wire_leg {i k j : Int} (h : wireK i = legK k j) : False := by
  have := congrArg List.length h
  exact absurd this (by show ¬ (2 : Nat) = 3; decide)
noncomputable def GoodF (w : Works) (f : Flt) : Prop := f.place ∈ placesK w ∧ (f.worth = 0 ∨ f.worth = 1)
noncomputable def Apart (fs : List Flt) : Prop := (fs.map (·.place)).Nodup
noncomputable def look (fs : List Flt) (p : List Key) : Option Int := (fs.find? fun f => decide (f.place = p)).map (·.worth)
noncomputable def pick (fs : List Flt) (p : List Key) (v : Int) : Int := (look fs p).getD v
noncomputable def legsS (fs : List Flt) (k : Int) (ns : List Int) : List Int := ns.mapIdx fun i v => pick fs (legK k i) v
noncomputable def rowS (fs : List Flt) (ns : List Int) : List Int := ns.mapIdx fun i v => pick fs (wireK i) v
noncomputable def wiresS (fs : List Flt) (gs : List (Str × List Int)) (row : List Int) : Nat → List Int
  | 0 => rowS fs row
  | n + 1 => wiresS fs gs row n ++ [pick fs (wireK ((row.length + n : Nat) : Int)) (match gs[n]? with
      | some g => gateV g.1 (legsS fs n (g.2.map fun l => (wiresS fs gs row n).getD l.toNat 0))
      | none => 0)]
theorem rowS_len (fs : List Flt) (ns : List Int) : (rowS fs ns).length = ns.length := by unfold rowS; rw [List.length_mapIdx]
theorem wiresS_len (fs : List Flt) (gs : List (Str × List Int)) (row : List Int) : ∀ n, (wiresS fs gs row n).length = row.length + n
  | 0 => rowS_len fs row
  | n + 1 => by rw [wiresS, List.length_append, wiresS_len fs gs row n]; simp; omega
theorem pick_nil (p : List Key) (v : Int) : pick [] p v = v := rfl
theorem rowS_nil (ns : List Int) : rowS [] ns = ns := by
  unfold rowS
  refine List.ext_getElem? fun i => ?_
  rw [List.getElem?_mapIdx]
  cases ns[i]? <;> rfl
theorem legsS_nil (k : Int) (ns : List Int) : legsS [] k ns = ns := by
  unfold legsS
  refine List.ext_getElem? fun i => ?_
  rw [List.getElem?_mapIdx]
  cases ns[i]? <;> rfl
theorem wiresS_nil (gs : List (Str × List Int)) (row : List Int) : ∀ n, wiresS [] gs row n = wiresV gs row n
  | 0 => rowS_nil row
  | n + 1 => by
    rw [wiresS, wiresV, wiresS_nil gs row n, pick_nil]
    cases gs[n]? with
    | none => rfl
    | some g => simp only [legsS_nil]
theorem at_last (xs : List V) (v : V) : atI (xs ++ [v]) (-1) = some v := by
  unfold atI ixN
  have e : ((-1 : Int) + ((xs ++ [v]).length : Nat)).toNat = xs.length := by rw [List.length_append, List.length_singleton]; omega
  rw [if_neg (by decide), if_pos (by rw [List.length_append, List.length_singleton]; omega), e]
  simp
end My
namespace My
open PySem L2
open PySem.W (Dat kqdP kqdPs kqdOk)
structure GoodFs (K : PySem.W.Frag) (w : Works) (most : Nat) (G : Hp) (v : V) (fs : List Flt) : Prop where
  rep : Rep K G v (.list (fs.map fltD))
  good : ∀ f ∈ fs, GoodF w f
  apart : Apart fs
  few : fs.length ≤ most
theorem GoodFs.mono {K : PySem.W.Frag} {w : Works} {most : Nat} {G G' : Hp} {v : V} {fs : List Flt} (h : GoodFs K w most G v fs) (s : Same G G') : GoodFs K w most G' v fs := ⟨h.rep.mono s, h.good, h.apart, h.few⟩
end My
namespace L2
end L2
namespace My
open PySem L2
open PySem.W (Dat kqdP kqdPs kqdOk)
theorem wiresS_at (fs : List Flt) (ws : List (Str × List Int)) (row : List Int) {i n : Nat} (h : i < row.length + n) : ∀ m, n ≤ m → (wiresS fs ws row m)[i]? = (wiresS fs ws row n)[i]?
  | 0, hm => by
    have : n = 0 := by omega
    subst this
    rfl
  | m + 1, hm => by
    by_cases e : n = m + 1
    · subst e
      rfl
    · rw [wiresS, List.getElem?_append_left (by rw [wiresS_len]; omega), wiresS_at fs ws row h m (by omega)]
theorem wiresS_legs {A B : List Flt} {ws : List (Str × List Int)} {row : List Int} {g : Nat} {v : Int} (h : ∀ q, (∀ p : Int, q ≠ legK g p) → look A q = look B q) (ha : look A (wireK ((row.length + g : Nat) : Int)) = some v) : ∀ n, wiresS A ws row n = wiresS B ws row n := by
  have hw : ∀ i : Int, look A (wireK i) = look B (wireK i) := fun i => h _ fun p z => wire_leg z
  have hpw : ∀ (i x : Int), pick A (wireK i) x = pick B (wireK i) x := fun i x => by unfold pick; rw [hw]
  intro n
  induction n with
  | zero =>
    show rowS A row = rowS B row
    unfold rowS
    simp only [hpw]
  | succ n ih =>
    rw [wiresS, wiresS, ih]
    by_cases e : n = g
    · subst e
      have hb := (hw ((row.length + n : Nat) : Int)).symm.trans ha
      unfold pick
      rw [ha, hb]
      rfl
    · have hl : ∀ ns, legsS A n ns = legsS B n ns := fun ns => by
        unfold legsS
        have : ∀ (i : Nat) (x : Int), pick A (legK n i) x = pick B (legK n i) x := fun i x => by
          unfold pick
          rw [h _ fun p z => e (by have := (legK_inj z).1; omega)]
        simp only [this]
      rw [hpw]
      cases ws[n]? with
      | none => rfl
      | some g' => simp only [hl]
end My
namespace My
open PySem L2
open PySem.W (Dat kqdP kqdPs kqdOk)
noncomputable def Meet (w : Works) (A B : List Flt) : Prop := A = B ∨ ∃ (g : Nat) (v : Int), (∀ q, (∀ p : Int, q ≠ legK g p) → look A q = look B q) ∧ look A (wireK ((w.ins.toNat + g : Nat) : Int)) = some v
theorem Meet.wires {w : Works} {A B : List Flt} (h : Meet w A B) {row : List Int} (hl : (row.length : Int) = w.ins) (n : Nat) : wiresS A w.gates row n = wiresS B w.gates row n := by
  rcases h with rfl | ⟨g, v, h1, h2⟩
  · rfl
  · have e : w.ins.toNat = row.length := by omega
    rw [e] at h2
    exact wiresS_legs h1 h2 n
end My
namespace My
open PySem L2
open PySem.W (Dat kqdP kqdPs kqdOk)
noncomputable abbrev Gts := List (Str × List Int)
noncomputable def wvAt (gl : Gts) (row : List Int) (i : Int) : Int := (wiresV gl row gl.length).getD i.toNat 0
noncomputable def GoodG (ins : Int) (gl : Gts) : Prop := ∀ (k : Nat) g, gl[k]? = some g → legsOk g.1 g.2.length ∧ ∀ l ∈ g.2, 0 ≤ l ∧ l < ins + k
theorem GoodG.snoc {ins : Int} {gl : Gts} {x : Str} {ls : List Int} (h : GoodG ins gl) (hk : legsOk x ls.length) (hl : ∀ l ∈ ls, 0 ≤ l ∧ l < ins + gl.length) : GoodG ins (gl ++ [(x, ls)]) := fun k g e => by
  by_cases hk' : k < gl.length
  · rw [List.getElem?_append_left hk'] at e
    exact h k g e
  · have : k < (gl ++ [(x, ls)]).length := (List.getElem?_eq_some_iff.mp e).1
    have ek : k = gl.length := by
      rw [List.length_append, List.length_singleton] at this
      omega
    subst ek
    rw [List.getElem?_append_right (Nat.le_refl _), Nat.sub_self] at e
    cases e
    exact ⟨hk, hl⟩
theorem wiresV_pre (gl ext : Gts) (row : List Int) : ∀ n, n ≤ gl.length → wiresV (gl ++ ext) row n = wiresV gl row n
  | 0, _ => rfl
  | n + 1, h => by
    rw [wiresV, wiresV, wiresV_pre gl ext row n (by omega), List.getElem?_append_left (by omega)]
theorem wiresV_at (gl : Gts) (row : List Int) {i n : Nat} (h : i < row.length + n) {m : Nat} (hm : n ≤ m) : (wiresV gl row m)[i]? = (wiresV gl row n)[i]? := by
  rw [← wiresS_nil, ← wiresS_nil]
  exact wiresS_at [] gl row h m hm
noncomputable def AtG (ins : Int) (gl : Gts) (w : Int) (x : Str) (ls : List Int) : Prop := ∃ k : Nat, w = ins + k ∧ gl[k]? = some (x, ls)
theorem AtG.last (ins : Int) (gl : Gts) (x : Str) (ls : List Int) : AtG ins (gl ++ [(x, ls)]) (ins + gl.length) x ls := ⟨gl.length, rfl, by simp⟩
theorem AtG.ext {ins : Int} {gl ext : Gts} {w : Int} {x : Str} {ls : List Int} (h : AtG ins gl w x ls) : AtG ins (gl ++ ext) w x ls := by
  obtain ⟨k, e, g⟩ := h
  exact ⟨k, e, by rw [List.getElem?_append_left (List.getElem?_eq_some_iff.mp g).1]; exact g⟩
section
variable {ins : Int} {gl : Gts} {row : List Int} {w : Int} {x : Str} {ls : List Int}
theorem AtG.val (good : GoodG ins gl) (hl : (row.length : Int) = ins) (h : AtG ins gl w x ls) : wvAt gl row w = gateV x (ls.map (wvAt gl row)) := by
  obtain ⟨k, rfl, g⟩ := h
  have hk := (List.getElem?_eq_some_iff.mp g).1
  have e1 : (ins + (k : Int)).toNat = row.length + k := by omega
  unfold wvAt
  rw [e1, List.getD_eq_getElem?_getD, wiresV_at gl row (n := k + 1) (by omega) (by omega), wiresV, List.getElem?_append_right (by rw [wiresV_len]; omega)]
  have e2 : row.length + k - (wiresV gl row k).length = 0 := by rw [wiresV_len]; omega
  rw [e2, g]
  show gateV x (ls.map fun l => (wiresV gl row k).getD l.toNat 0) = _
  congr 1
  refine List.map_congr_left fun l hm => ?_
  have b := (good k (x, ls) g).2 l hm
  rw [List.getD_eq_getElem?_getD, List.getD_eq_getElem?_getD, wiresV_at gl row (n := k) (m := gl.length) (by omega) (by omega)]
theorem AtG.lt (h : AtG ins gl w x ls) : w < ins + gl.length := by
  obtain ⟨k, rfl, g⟩ := h
  have := (List.getElem?_eq_some_iff.mp g).1
  omega
end
theorem gv_not1 (v : Int) : gateV "not" [v] = 1 - v := by rw [gv_not]; rfl
noncomputable def notsW (n0 : Int) (n : Nat) : List Int := (List.range n).map fun (t : Nat) => n0 + (t : Int)
theorem notsW_len (n0 : Int) (n : Nat) : (notsW n0 n).length = n := by unfold notsW; simp
theorem notsW_get {n0 : Int} {n t : Nat} (h : t < n) : (notsW n0 n)[t]? = some (n0 + (t : Int)) := by
  unfold notsW
  rw [List.getElem?_map, List.getElem?_range h]
  rfl
noncomputable def NotsAt (ins : Int) (gl : Gts) (n0 : Int) (ss : List Int) : Prop := ∀ (t : Nat) (s : Int), ss[t]? = some s → AtG ins gl (n0 + t) "not" [s]
theorem NotsAt.ext {ins n0 : Int} {gl ext : Gts} {ss : List Int} (h : NotsAt ins gl n0 ss) : NotsAt ins (gl ++ ext) n0 ss := fun t s e => (h t s e).ext
theorem NotsAt.vals {ins n0 : Int} {gl : Gts} {ss row : List Int} (h : NotsAt ins gl n0 ss) (good : GoodG ins gl) (hl : (row.length : Int) = ins) : (notsW n0 ss.length).map (wvAt gl row) = (ss.map (wvAt gl row)).map fun v => 1 - v := by
  refine List.ext_getElem? fun t => ?_
  by_cases ht : t < ss.length
  · rw [List.getElem?_map, notsW_get ht, List.getElem?_map, List.getElem?_map, List.getElem?_eq_getElem ht]
    show some (wvAt gl row (n0 + t)) = some (1 - wvAt gl row ss[t])
    rw [(h t _ (List.getElem?_eq_getElem ht)).val good hl]
    show some (gateV "not" [wvAt gl row ss[t]]) = _
    rw [gv_not1]
  · rw [List.getElem?_eq_none (by rw [List.length_map, notsW_len]; omega), List.getElem?_eq_none (by rw [List.length_map, List.length_map]; omega)]
section
variable {ins n0 : Int} {gl : Gts} {ss : List Int} {one other b l r : Int}
noncomputable def OddAt (ins : Int) (gl : Gts) (ss : List Int) (j : Nat) (st : Int) : Prop := 0 ≤ st ∧ st < ins + gl.length ∧ ∀ row : List Int, (row.length : Int) = ins → Bits row → wvAt gl row st = ((ss.take j).map (wvAt gl row)).sum % 2
end
theorem val_ext {ins : Int} {gl ext : Gts} {row : List Int} {w : Int} (hl : (row.length : Int) = ins) (h0 : 0 ≤ w) (h1 : w < ins + gl.length) : wvAt (gl ++ ext) row w = wvAt gl row w := by
  unfold wvAt
  rw [List.getD_eq_getElem?_getD, List.getD_eq_getElem?_getD, wiresV_at (gl ++ ext) row (n := gl.length) (by omega) (by rw [List.length_append]; omega), wiresV_pre gl ext row gl.length (Nat.le_refl _)]
theorem OddAt.step {ins : Int} {gl : Gts} {ss : List Int} {j : Nat} {st s : Int} (good : GoodG ins gl) (i0 : 0 ≤ ins) (hs : ∀ s ∈ ss, 0 ≤ s ∧ s < ins + gl.length) (h : OddAt ins gl ss j st) (e : ss[j]? = some s) : OddAt ins (gl ++ [(("odd" : Str), [st, s])]) ss (j + 1) (ins + gl.length) := by
  have bs := hs s (List.mem_of_getElem? e)
  obtain ⟨h0, h1, h2⟩ := h
  have good' : GoodG ins (gl ++ [(("odd" : Str), [st, s])]) := good.snoc (.inl ⟨.inr (.inr rfl), (by show 2 ≤ 2; decide), (by show 2 ≤ 4; decide)⟩) fun l hl => by
    rcases List.mem_cons.mp hl with rfl | hl
    · exact ⟨h0, h1⟩
    · rw [List.mem_singleton.mp hl]; exact bs
  refine ⟨by omega, by rw [List.length_append, List.length_singleton]; omega, fun row hl br => ?_⟩
  rw [(AtG.last ins gl "odd" [st, s]).val good' hl]
  simp only [List.map_cons, List.map_nil]
  rw [gv_odd, val_ext hl h0 h1, val_ext hl bs.1 bs.2, h2 row hl br, List.take_add_one, e, List.map_append, List.sum_append]
  have e2 : (ss.take j).map (wvAt (gl ++ [(("odd" : Str), [st, s])]) row) = (ss.take j).map (wvAt gl row) := List.map_congr_left fun z hz => by
    have := hs z (List.mem_of_mem_take hz)
    exact val_ext hl this.1 this.2
  rw [e2]
  show ([((ss.take j).map (wvAt gl row)).sum % 2, wvAt gl row s].sum) % 2 = (((ss.take j).map (wvAt gl row)).sum + [wvAt (gl ++ [(("odd" : Str), [st, s])]) row s].sum) % 2
  rw [val_ext hl bs.1 bs.2]
  simp only [List.sum_cons, List.sum_nil]
  omega
structure GL (K : PySem.W.Frag) (M : List Addr) (m : Addr) (ins : Int) (gl : Gts) (G H : Hp) : Prop where
  off : Off (m :: M) G H
  at_ : ∃ gs, H m = some (.lst gs) ∧ Reps K G gs (gl.map gateD)
  good : GoodG ins gl
section
variable {K : PySem.W.Frag} {M : List Addr} {m D T : Addr} {ins : Int} {gl : Gts} {G H : Hp} {o : HO}
theorem GL.new (g : GL K M m ins gl G H) (h : H T = none) (o : HO) : GL K M m ins gl G (upd H T o) := by
  obtain ⟨gs, e, r⟩ := g.at_
  exact ⟨g.off.new h o, ⟨gs, same_upd h o _ _ e, r⟩, g.good⟩
theorem GL.opn (g : GL K M m ins gl G H) (h : H D = none) (o : HO) : GL K (D :: M) m ins gl G (upd H D o) := by
  obtain ⟨gs, e, r⟩ := g.at_
  refine ⟨(g.off.opn h o).less fun k hk => ?_, ⟨gs, same_upd h o _ _ e, r⟩, g.good⟩
  rcases List.mem_cons.mp hk with rfl | hk
  · exact .tail _ (.head _)
  · rcases List.mem_cons.mp hk with rfl | hk
    · exact .head _
    · exact .tail _ (.tail _ hk)
theorem GL.write (g : GL K M m ins gl G H) (h : D ∈ M) (hm : D ≠ m) (o : HO) : GL K M m ins gl G (upd H D o) := by
  obtain ⟨gs, e, r⟩ := g.at_
  exact ⟨g.off.write (.tail _ h) o, ⟨gs, by rw [upd_ne (Ne.symm hm)]; exact e, r⟩, g.good⟩
end
end My
namespace My
open PySem L2
end My
namespace My
open PySem L2
open PySem.W (Dat kqdP kqdPs kqdOk)
noncomputable def sh (W l : Int) : Int := l + (if W ≤ l then 1 else 0)
noncomputable def turned (W : Int) (g p n : Nat) (ls : List Int) : List Int := if n = g then (ls.map (sh W)).set p W else ls.map (sh W)
end My
namespace L2
theorem Reps.take {K : PySem.W.Frag} {H : Hp} : ∀ {vs : List V} {ds : List PySem.W.Dat} (n : Nat), Reps K H vs ds → Reps K H (vs.take n) (ds.take n)
  | _, _, 0, _ => .nil
  | _, _, _ + 1, .nil => .nil
  | _, _, n + 1, .cons h r => .cons h (Reps.take n r)
theorem Reps.drop {K : PySem.W.Frag} {H : Hp} : ∀ {vs : List V} {ds : List PySem.W.Dat} (n : Nat), Reps K H vs ds → Reps K H (vs.drop n) (ds.drop n)
  | _, _, 0, r => r
  | _, _, _ + 1, .nil => .nil
  | _, _, n + 1, .cons _ r => Reps.drop n r
end L2
namespace L2
open PySem PySem.Spec PyProof.Rows
theorem heap_without (h : Heap) : ∀ fs : List Addr, ∃ B : Heap, ∀ b, (b ∈ fs → B.get? b = none) ∧ (b ∉ fs → B.get? b = h.get? b)
  | [] => ⟨h, fun b => ⟨(fun z => (nomatch z)), fun _ => rfl⟩⟩
  | a :: r => by
    obtain ⟨B, hB⟩ := heap_without h r
    refine ⟨B.update a fun o => { o with data := .freed }, fun b => ⟨fun z => ?_, fun z => ?_⟩⟩
    · by_cases e : b = a
      · subst e
        obtain ⟨objs, l⟩ := B
        unfold Heap.update Heap.get?
        rw [Array.getElem?_modify, if_pos rfl]
        cases objs[b]? <;> rfl
      · rw [Heap.get?_update_other _ _ (Ne.symm e)]
        exact (hB b).1 ((List.mem_cons.mp z).resolve_left e)
    · have e : b ≠ a := fun q => z (q ▸ .head _)
      rw [Heap.get?_update_other _ _ (Ne.symm e)]
      exact (hB b).2 fun q => z (.tail _ q)
theorem funFrames_of {h h' base base' : Heap} : ∀ {l : List Env}, h.FunFrames base l → (∀ b ∈ frs l, ∀ o, h.get? b = some o → ∃ sl, h'.get? b = some { o with slots := sl }) → (∀ b ∈ frs l, base'.get? b = none) → h'.FunFrames base' l
  | [], _, _, _ => trivial
  | env :: r, hl, k, kb => by
    obtain ⟨hk, ⟨L, o, hf, hn, ho, hd⟩, hr⟩ := hl
    have hm : ∀ b, b ∈ frs r → b ∈ frs (env :: r) := fun b z => by
      unfold frs at z ⊢
      rw [List.filterMap_cons, hf]
      exact .tail _ z
    have hL : L ∈ frs (env :: r) := by
      unfold frs
      rw [List.filterMap_cons, hf]
      exact .head _
    obtain ⟨sl, hs⟩ := k L hL o ho
    exact ⟨hk, ⟨L, _, hf, kb L hL, hs, hd⟩, funFrames_of hr (fun b z => k b (hm b z)) fun b z => kb b (hm b z)⟩
structure Air (C : Value) (h0 : Heap) (x : Addr) (H' : Hp) (h : Heap) : Prop where
  newx : h0.get? x = none
  hx : H' x = none
  tr : ∃ T a0 oe vs oT ts, h.get? x = some oe ∧ (oe.cls = C ∧ vs[0]? = some a0) ∧ oe.data = .fields vs ∧ vs[1]? = some (.ref T) ∧ h0.get? T = none ∧ H' T = none ∧ T ≠ x ∧ h.get? T = some oT ∧ oT.data = .fields ts ∧ ts[3]? = some .none
noncomputable def CXC (P : Program) (w : World) (C : Value) : CXT := fun outer H s E e s' => ∃ x H', e = .ref x ∧ s'.os = s.os ∧ AllBare s'.gens ∧ Un (frs outer) [] H H' s.heap s'.heap ∧ HOk P w H' s'.heap ∧ Air C s.heap x H' s'.heap ∧ E e (some x) H'
theorem ObjOk.there {P : Program} {w : World} {H : Hp} {h : Heap} {a : Addr} {o : HO} (x : ObjOk P w H h a o) : ∃ ob, h.get? a = some ob := by
  cases o with
  | lst xs => obtain ⟨_, _, _, _, e⟩ := x; exact ⟨_, e⟩
  | tup xs => obtain ⟨_, _, _, ob, e, _⟩ := x; exact ⟨_, e⟩
  | dK kvs => obtain ⟨_, _, _, _, o, _, _, e, _⟩ := x; exact ⟨_, e⟩
  | dT kvs => obtain ⟨_, _, _, _, o, _, _, e, _⟩ := x; exact ⟨_, e⟩
  | set S n => obtain ⟨o, _, _, _, e, _⟩ := x; exact ⟨_, e⟩
  | ins C dx fs => obtain ⟨_, _, _, e, _⟩ := x; exact ⟨_, e⟩
  | own y => obtain ⟨_, e⟩ := x; exact ⟨_, e⟩
  | xd fs => obtain ⟨_, ⟨_, _, _, e, _⟩, _⟩ := x; exact ⟨_, e⟩
  | rng lo hi => obtain ⟨_, _, _, e⟩ := x; exact ⟨_, e⟩
  | frz ob u => obtain ⟨e, _⟩ := x; exact ⟨_, e⟩
  | tbl ps => exact ⟨_, x⟩
  | met f y => exact ⟨_, x⟩
  | ext φ => obtain ⟨_, ⟨_, e⟩, _⟩ := x; exact ⟨_, e⟩
theorem Un.left {fs : List Addr} {H H' : Hp} {h h' h'' : Heap} {x T : Addr} (u : Un fs [] H H' h h') (nx : h.get? x = none) (nT : h.get? T = none) (k : ∀ b o, b ∉ fs → b ≠ x → b ≠ T → h'.get? b = some o → h''.get? b = some o)
    (ks : ∀ b o, b ∈ fs → h'.get? b = some o → ∃ sl, h''.get? b = some { o with slots := sl }) : Un fs [] H H' h h'' := by
  have nn : ∀ {b o}, h.get? b = some o → b ≠ x ∧ b ≠ T := fun {b o} e => ⟨(fun z => by rw [z, nx] at e; cases e), (fun z => by rw [z, nT] at e; cases e)⟩
  refine ⟨fun b o e n hb hx => k b o hb (nn e).1 (nn e).2 (u.keep b o e n hb hx), fun b o e n hb hx => ?_, u.free, fun b o e hx => ?_, u.tups, u.frzs, u.tbls⟩
  · obtain ⟨sl, q⟩ := u.slot b o e n hb hx
    obtain ⟨sl', q'⟩ := ks b _ hb q
    exact ⟨sl', q'⟩
  · obtain ⟨o', q⟩ := u.there b o e hx
    by_cases hb : b ∈ fs
    · obtain ⟨sl, q'⟩ := ks b o' hb q
      exact ⟨_, q'⟩
    · exact ⟨o', k b o' hb (nn e).1 (nn e).2 q⟩
theorem HOk.left {P : Program} {w : World} {fs : List Addr} {H' : Hp} {h' h'' : Heap} {x T : Addr} (ok : HOk P w H' h') (nf : ∀ b ∈ fs, H' b = none) (nx : H' x = none) (nT : H' T = none) (k : ∀ b o, b ∉ fs → b ≠ x → b ≠ T → h'.get? b = some o → h''.get? b = some o) : HOk P w H' h'' := fun a o e => by
  have key : ∀ b u, H' b = some u → ∀ q, h'.get? b = some q → h''.get? b = some q := fun b u e q eq => k b q (fun z => by rw [nf b z] at e; cases e) (fun z => by rw [z, nx] at e; cases e) (fun z => by rw [z, nT] at e; cases e) eq
  refine (ok a o e).stay (fun b u hb q => ?_) (fun _ q => q) fun _ _ q => q
  rcases hb with rfl | hb
  · exact key _ _ e u q
  · exact key _ _ hb u q
section
variable {P : Program} {w : World} {C : Value} {M : Model} {A : Around} {env : Env} {outer : List Env} {L : Addr} {H : Hp} {s s' : Shared} {E : XK} {e : Value} {base : Heap} {E1 : Value → Shared → Prop}
theorem leave_next (hfr : A.frames = some (env :: outer)) (hf : env.frame = some L) (fun0 : s.heap.FunFrames base (env :: outer)) (frf : ∀ b ∈ frs (env :: outer), H b = none) (cx : CXC P w C (env :: outer) H s E e s') :
    wpAny M A (leaving env e) (fun _ s'' => CXC P w C (env :: outer) H s E e s'') E1 s' := by
  obtain ⟨x, H', rfl, hos, hb, un, ok, ⟨newx, hx, T, a0, oe, vs, oT, ts, ex, ec, ed, e1, nT, hT, Tx, eT, edT, e3⟩, q⟩ := cx
  obtain ⟨B, hB⟩ := heap_without s'.heap (x :: T :: frs (env :: outer))
  have fr0 : ∀ b ∈ frs (env :: outer), ∃ o, s.heap.get? b = some o ∧ ∀ vs, o.data ≠ .fields vs := fun b z => (fun0.mem z).2
  have frs' : ∀ b ∈ frs (env :: outer), H' b = none := fun b z => by
    obtain ⟨o, ho, _⟩ := fr0 b z
    exact un.free b o ho (frf b z) (by simp)
  have fl : s'.heap.FunFrames B (env :: outer) := funFrames_of fun0 (fun b z o ho => un.slot b o ho (frf b z) z (by simp)) fun b z => (hB b).1 (.tail _ (.tail _ z))
  have st : B.StaysIn s'.heap := fun b o hb => by
    by_cases z : b ∈ x :: T :: frs (env :: outer)
    · rw [(hB b).1 z] at hb; cases hb
    · rw [(hB b).2 z] at hb; exact hb
  refine wpAny_leaving_nextW (base := B) (cls := C) (a0 := a0) hfr fl hf ⟨oe, vs, T, oT, ts, ex, ec, ed, e1, (hB T).1 (.tail _ (.head _)), Tx, eT, edT, e3⟩ st ((hB x).1 (.head _)) fun h'' hL => ?_
  obtain ⟨k1, k2, ⟨oe', vs', T', oT', ts', ex', ec', ed', e1', nT', Tx', eT', edT', e3'⟩, k4⟩ := hL
  have k : ∀ b o, b ∉ frs (env :: outer) → b ≠ x → b ≠ T → s'.heap.get? b = some o → h''.get? b = some o := fun b o n1 n2 n3 eb => k1 b o (by
    rw [(hB b).2 fun z => by
      rcases List.mem_cons.mp z with z | z
      · exact n2 z
      · rcases List.mem_cons.mp z with z | z
        · exact n3 z
        · exact n1 z]
    exact eb)
  have ks : ∀ b o, b ∈ frs (env :: outer) → s'.heap.get? b = some o → ∃ sl, h''.get? b = some { o with slots := sl } := fun b o z eb => k4 b o eb (by
    obtain ⟨_, o2, h2, h3⟩ := fl.mem z
    rw [eb] at h2
    cases h2
    exact h3)
  have Tf : T' ∉ frs (env :: outer) := fun z => by
    obtain ⟨_, o2, h2, h3⟩ := k2.mem z
    rw [eT'] at h2
    cases h2
    exact h3 _ edT'
  have gT : s'.heap.get? T' = none ∨ T' = T := by
    by_cases z : T' = T
    · exact .inr z
    · refine .inl ?_
      rw [← (hB T').2 fun y => ?_]
      · exact nT'
      · rcases List.mem_cons.mp y with y | y
        · exact Tx' y
        · rcases List.mem_cons.mp y with y | y
          · exact z y
          · exact Tf y
  have n0 : s.heap.get? T' = none := by
    rcases gT with g | rfl
    · cases z : s.heap.get? T' with
      | none => rfl
      | some o =>
        obtain ⟨o', y⟩ := un.there T' o z (by simp)
        rw [g] at y
        cases y
    · exact nT
  have n1 : H' T' = none := by
    rcases gT with g | rfl
    · cases z : H' T' with
      | none => rfl
      | some o =>
        obtain ⟨ob, y⟩ := (ok T' o z).there
        rw [g] at y
        cases y
    · exact hT
  exact ⟨x, H', rfl, hos, hb, un.left newx nT k ks, ok.left frs' hx hT k, ⟨newx, hx, T', a0, oe', vs', oT', ts', ex', ec', ed', e1', n0, n1, Tx', eT', edT', e3'⟩, q⟩
end
theorem CXC.up {X : Cx} {pins : List (Addr × Obj)} {σ : St} {H : Hp} {s s' : Shared} {C : Value} {E : XK} {e : Value} (I : Inv X pins σ H s) (hx : X.ex = []) (cx : CXC X.prog X.w C X.stack H s E e s') : CXC X.prog X.w C X.outer X.H₀ X.s₀ E e s' := by
  obtain ⟨x, H', rfl, hos, hb, un, ok, ⟨newx, hx', T, a0, oe, vs, oT, ts, ex, ec, ed, e1, nT, hT, Tx, eT, edT, e3⟩, q⟩ := cx
  have J := I.call' hos un ok hb (fun b z => absurd z (by simp))
  have nn : ∀ {b : Addr}, s.heap.get? b = none → X.s₀.heap.get? b = none := fun {b} z => by
    cases y : X.s₀.heap.get? b with
    | none => rfl
    | some o =>
      obtain ⟨o', y'⟩ := I.base.there b o y (by rw [hx]; simp)
      rw [z] at y'
      cases y'
  have jb := J.base
  rw [hx] at jb
  exact ⟨x, H', rfl, J.os, J.bare, jb, J.hok, ⟨nn newx, hx', T, a0, oe, vs, oT, ts, ex, ec, ed, e1, nn nT, hT, Tx, eT, edT, e3⟩, q⟩
theorem get_none_free {P : Program} {w : World} {H : Hp} {h : Heap} (ok : HOk P w H h) {a : Addr} (e : h.get? a = none) : H a = none := by
  cases z : H a with
  | none => rfl
  | some o =>
    obtain ⟨ob, y⟩ := (ok a o z).there
    rw [e] at y
    cases y
section
variable {P : Program} {w : World} {M : Model} {A : Around} {env : Env} {outer : List Env} {L C x : Addr} {H : Hp} {s : Shared} {E : XK} {base h' : Heap} {E1 : Value → Shared → Prop} {us : List Value}
theorem leave_first (hfr : A.frames = some (env :: outer)) (hf : env.frame = some L) (fun0 : s.heap.FunFrames base (env :: outer)) (frf : ∀ b ∈ frs (env :: outer), H b = none) (ok : HOk P w H s.heap) (hg : AllBare s.gens) (mx : Heap.MadeExcOf s.heap h' x (.ref C) us) (q : E (.ref x) (some x) H) :
    wpAny M A (leaving env (.ref x)) (fun _ s'' => CXC P w (.ref C) (env :: outer) H s E (.ref x) s'') E1 { s with heap := h' } := by
  obtain ⟨keeps, newx, t, ex, nt, et⟩ := mx
  have hx : H x = none := get_none_free ok newx
  obtain ⟨B, hB⟩ := heap_without h' (x :: frs (env :: outer))
  have fl : h'.FunFrames B (env :: outer) := funFrames_of fun0 (fun b z o ho => ⟨o.slots, keeps b o ho⟩) fun b z => (hB b).1 (.tail _ z)
  have st : B.StaysIn h' := fun b o hb => by
    by_cases z : b ∈ x :: frs (env :: outer)
    · rw [(hB b).1 z] at hb; cases hb
    · rw [(hB b).2 z] at hb; exact hb
  refine wpAny_leaving_firstW (base := B) (s := { s with heap := h' }) (a0 := .ref t) hfr fl hf ex st ((hB x).1 (.head _)) rfl rfl rfl fun h'' hL => ?_
  obtain ⟨k1, k2, ⟨oe', vs', T', oT', ts', ex', ec', ed', e1', nT', Tx', eT', edT', e3'⟩, k4⟩ := hL
  have k : ∀ b o, b ∉ frs (env :: outer) → b ≠ x → b ≠ x → h'.get? b = some o → h''.get? b = some o := fun b o n1 n2 _ eb => k1 b o (by
    rw [(hB b).2 fun z => by
      rcases List.mem_cons.mp z with z | z
      · exact n2 z
      · exact n1 z]
    exact eb)
  have ks : ∀ b o, b ∈ frs (env :: outer) → h'.get? b = some o → ∃ sl, h''.get? b = some { o with slots := sl } := fun b o z eb => k4 b o eb (by
    obtain ⟨_, o2, h2, h3⟩ := fl.mem z
    rw [eb] at h2
    cases h2
    exact h3)
  have Tf : T' ∉ frs (env :: outer) := fun z => by
    obtain ⟨_, o2, h2, h3⟩ := k2.mem z
    rw [eT'] at h2
    cases h2
    exact h3 _ edT'
  have g0 : h'.get? T' = none := by
    rw [← (hB T').2 fun y => ?_]
    · exact nT'
    · rcases List.mem_cons.mp y with y | y
      · exact Tx' y
      · exact Tf y
  have n0 : s.heap.get? T' = none := by
    cases z : s.heap.get? T' with
    | none => rfl
    | some o =>
      have y := keeps _ _ z
      rw [g0] at y
      cases y
  exact ⟨x, H, rfl, rfl, hg, (Un.kept keeps).left newx newx k ks, (ok.kept keeps).left (fun b z => frf b z) hx hx k, ⟨newx, hx, T', .ref t, oe', vs', oT', ts', ex', ec', ed', e1', n0, get_none_free ok n0, Tx', eT', edT', e3'⟩, q⟩
end
theorem class_at {K : PySem.W.Frag} {h : Heap} {C : Addr} {bB : List Value} {nid : String} (X : K.In h) (q : PySem.W.excIn K C bB nid = true) :
    ∃ tl N nm qn bs hd sn sub ab col dd a0 a1 a2 a3 a5 mN, h.get? C = some (excClassObj nm qn C N bs tl hd sn sub ab col dd a0 a1 a2 a3 a5 nid) ∧ h.Ns N mN ∧ mN "__init__" = none ∧ OwnTail h bB tl := by
  unfold PySem.W.excIn at q
  split at q
  case h_2 => cases q
  case h_1 dd cd sl ho =>
    split at q
    case h_2 => cases q
    case h_1 C2 tl a0 a1 a2 a3 nn a5 hm hs =>
      simp only [Bool.and_eq_true, beq_iff_eq, Bool.not_eq_true'] at q
      obtain ⟨⟨⟨⟨⟨w1, w2⟩, w3⟩, w4⟩, w5⟩, w6⟩ := q
      subst w1 w2
      cases cd with
      | mk nm bs mro ns qn hd sn sub ab col del =>
        dsimp only at hm w3 w5 w6
        subst hm w3
        have e : sl = #[a0, a1, a2, a3, some (.builtin nn), a5] := by
          cases sl with
          | mk l => exact congrArg Array.mk hs
        subst e
        exact ⟨tl, ns, nm, qn, bs, hd, sn, sub, ab, col, dd, a0, a1, a2, a3, a5, _, X _ _ ho, Heap.Ns.of_isNs (PySem.W.isNs_of_in X w5), PySem.W.nsMap_none_of_in X w5 w6, PySem.W.tail_of_in X w4⟩
noncomputable def RaisesTo (C : Addr) (X : Cx) (E : XK) : Prop := ∀ (pins : List (Addr × Obj)) (σ : St) (H : Hp) (s : Shared) (h' : Heap) (x : Addr) (us : List Value), Inv X pins σ H s → Heap.MadeExcOf s.heap h' x (.ref C) us → E (.ref x) (some x) H → X.xe (.ref x) { s with heap := h' }
noncomputable def tRaise (E : XK) (t : TA) : TS := fun _ σ H => t σ H fun vs H1 => vs.length ≤ sizeLine ∧ ∀ x, H1 x = none → E (.ref x) (some x) H1
section
variable {X : Cx} {C : Addr} {E : XK} {B nid iid : String} {bB : List Value} {x : Str} {np cpos pos : Pos} {e : Expr} {es : List Expr} {t : TA}
theorem ps_raise (F : ExcBaseFacts B nid iid bB) (hc : PySem.W.excIn X.K C bB nid = true) (hcalm : X.calm = true) (hg : Gl X x) (hm : X.mg x = some (.ref C)) (hx : RaisesTo C X E) (ha : PA X (e :: es) t) (hdb : (x == ("__debug__" : Str)) = false := by decide)
    (he : starEach (e :: es) X.env = (false, eval e X.env) :: starEach es X.env := by rfl) (hpl : (backTo cpos (starEach es X.env)).any (·.1) = false := by rfl) : PS X (.Raise (some (.Call (.Name x np) (e :: es) [] cpos)) none pos) (tRaise E t) := by
  intro pins s σ H D I h
  obtain ⟨tl, N, nm, qn, bs, hd, sn, sub, ab, col, dd, a0, a1, a2, a3, a5, mN, oC, oN, oi, oT⟩ := class_at I.ok.mod.kin hc
  have hplain : (backTo cpos (starEach (e :: es) X.env)).any (·.1) = false := by
    rw [he]
    show (false || (backTo cpos (starEach es X.env)).any (·.1)) = false
    rw [hpl]
    rfl
  refine wpAny_Raise_call_subT (C := C) (nm := nm) (q := qn) (N := N) (bs := bs) (bm := tl) (hdct := hd) (sn := sn) (sub := sub) (ab := ab) (col := col) (dd := dd) (k0 := a0) (k1 := a1) (k2 := a2) (k3 := a3) (k5 := a5) F (mN := mN) (oT.hasType F.hasBase) (I.ok.hd hcalm) hplain oi (ld_glob I hg hm ⟨rfl, ?_⟩ hdb)
  have z := ha cpos pins s σ H _ I h
  rw [he] at z ⊢
  refine Calls.evalArgs_plain (thn z fun us s1 ⟨vs, H1, I1, r, q1, q2⟩ => ⟨rfl, by rw [← r.length]; exact q1, I1.bk _ _ oC, oN.keeps I1.bk, oT.keeps I1.bk, fun h2 x2 mx => ?_⟩)
  exact hx pins σ H1 s1 h2 x2 us I1 mx (q2 x2 (get_none_free I1.hok mx.new))
end
section
variable {P : Program} {w : World} {K : PySem.W.Frag} {mg : Str → Option Value} {base : Heap} {N : List Str} {qual : Str} {scope : Scope} {f C : Addr} {cd : Value} {A : Around} {outer : List Env} {s : Shared} {H : Hp} {E : XK}
theorem passC : Passes (CXC P w (.ref C)) (cxOf (CXC P w (.ref C)) P w K mg base N qual scope f cd A outer s H E) E := fun pins σ H1 s1 e s' I cx => by
  refine wpAny_mono (leave_next I.ok.frames rfl I.env0.funs I.stkFree cx) (fun _ s2 cx2 => ?_) fun _ _ z => z
  exact CXC.up (X := cxOf (CXC P w (.ref C)) P w K mg base N qual scope f cd A outer s H E) I rfl cx2
theorem raiseC : RaisesTo C (cxOf (CXC P w (.ref C)) P w K mg base N qual scope f cd A outer s H E) E := fun pins σ H1 s1 h' x us I mx q => by
  refine wpAny_mono (leave_first I.ok.frames rfl I.env0.funs I.stkFree I.hok I.bare mx q) (fun _ s2 cx2 => ?_) fun _ _ z => z
  exact CXC.up (X := cxOf (CXC P w (.ref C)) P w K mg base N qual scope f cd A outer s H E) I rfl cx2
end
section
variable {X : Cx}
theorem PS.nox {st : Stmt} {t : TS} (h : PS X.nox st t) : PS X st t := fun pins s σ H D I hw =>
  wpAny_mono (h pins s σ H D (I.wish _) hw) (fun _ _ q => q.unwish) fun _ _ z => z.elim
theorem PA.nox {es : List Expr} {t : TA} (h : PA X.nox es t) : PA X es t := fun pos pins s σ H Q I hw =>
  wpAny_mono (h pos pins s σ H Q (I.wish _) hw) (fun _ _ ⟨v, H', I', r, q⟩ => ⟨v, H', I'.unwish, r, q⟩) fun _ _ z => z.elim
theorem bps_raise {C : Addr} {E : XK} {B nid iid : String} {bB : List Value} {x : Str} {np cpos pos : Pos} {e : Expr} {es : List Expr} {t : TA} (F : ExcBaseFacts B nid iid bB) (hc : PySem.W.excIn X.K C bB nid = true) (hcalm : X.calm = true) (hg : Gl X x) (hm : X.mg x = some (.ref C)) (hx : RaisesTo C X E) (ha : Bx (PA X (e :: es) t)) (hdb : (x == ("__debug__" : Str)) = false := by decide)
    (he : starEach (e :: es) X.env = (false, eval e X.env) :: starEach es X.env := by rfl) (hpl : (backTo cpos (starEach es X.env)).any (·.1) = false := by rfl) : Bx (PS X (.Raise (some (.Call (.Name x np) (e :: es) [] cpos)) none pos) (tRaise E t)) := ⟨ps_raise F hc hcalm hg hm hx ha.1 hdb he hpl⟩
end
section
variable {P : Program} {w : World} {K : PySem.W.Frag} {mg : Str → Option Value} {base : Heap}
theorem Fun.okC {x qual : Str} {st : Stmt} {f C : Addr} {fd : FuncData} {N ps : List Str} {k : Nat} {sp : Sp} (F : Fun K x qual st f fd) (S : FnScope N ps (defScope st)) (len : ∀ vs H Q E, sp vs H Q E → vs.length = ps.length)
    (hbody : ∀ (cdv : Value) (A : Around) (outer : List Env) (s : Shared) (H : Hp) (vs : List V) (Q : VK) (E : XK), Room k (A.deeper (envOfC qual (defScope st) s.heap.objs.size f cdv)) → sp vs H Q E →
      ∃ t, Bx (PSs (cxOf (CXC P w (.ref C)) P w K mg base N qual (defScope st) f cdv A outer s H E) (defBody st) t) ∧ t { nx := fun _ H2 => Q .non H2, rt := Q } (start N vs) H) : FnOk P w K mg base (CXC P w (.ref C)) (k + 1) f fd ps sp := by
  obtain ⟨oc, od, kV, doc, pm, an, cdv, ct, osl, rfl, lk, hcd⟩ := F.ex
  refine fn_of lk hcd S len fun A outer s H vs Q E hr hsp => ?_
  obtain ⟨t, h, q⟩ := hbody cdv A outer s H vs Q E hr hsp
  exact ⟨t, h.1, q⟩
variable {N : List Str} {qual : Str} {scope : Scope} {f C : Addr} {cd : Value} {A : Around} {outer : List Env} {s : Shared} {H : Hp} {E : XK}
theorem passesOwnC : PassesOwn (model P w) (A.deeper (envOfC qual scope s.heap.objs.size f cd)) (envOfC qual scope s.heap.objs.size f cd) (cxOf (CXC P w (.ref C)) P w K mg base N qual scope f cd A outer s H E).xe := PassesOwn.leaving
end
end L2
namespace L2
open PySem PySem.Spec PyProof.Rows
noncomputable def mroOf (K : PySem.W.Frag) (C : Addr) : List Value := match K.lookup C with
  | some ⟨_, _, .cls cd, _⟩ => cd.mro
  | _ => []
theorem class_mro {K : PySem.W.Frag} {h : Heap} {C : Addr} {bB : List Value} {nid : String} (X : K.In h) (q : PySem.W.excIn K C bB nid = true) :
    ∃ tl N nm qn bs hd sn sub ab col dd a0 a1 a2 a3 a5, h.get? C = some (excClassObj nm qn C N bs tl hd sn sub ab col dd a0 a1 a2 a3 a5 nid) ∧ mroOf K C = .ref C :: tl ∧ OwnTail h bB tl := by
  unfold PySem.W.excIn at q
  split at q
  case h_2 => cases q
  case h_1 dd cd sl ho =>
    split at q
    case h_2 => cases q
    case h_1 C2 tl a0 a1 a2 a3 nn a5 hm hs =>
      simp only [Bool.and_eq_true, beq_iff_eq, Bool.not_eq_true'] at q
      obtain ⟨⟨⟨⟨⟨w1, w2⟩, w3⟩, w4⟩, w5⟩, w6⟩ := q
      subst w1 w2
      have em : mroOf K C2 = .ref C2 :: tl := by
        unfold mroOf
        rw [ho]
        exact hm
      cases cd with
      | mk nm bs mro ns qn hd sn sub ab col del =>
        dsimp only at hm w3 w5 w6
        subst hm w3
        have e : sl = #[a0, a1, a2, a3, some (.builtin nn), a5] := by
          cases sl with
          | mk l => exact congrArg Array.mk hs
        subst e
        exact ⟨tl, ns, nm, qn, bs, hd, sn, sub, ab, col, dd, a0, a1, a2, a3, a5, X _ _ ho, em, PySem.W.tail_of_in X w4⟩
section
variable {M : Model} {A : Around} {E : Value → Shared → Prop}
variable {nm q nm2 q2 : Str} {C N S N2 : Addr} {bs bm bs2 bm2 : List Value} {hdct hd2 : Bool} {sn sn2 : List Str} {sub sub2 : List Value} {ab ab2 : Bool} {col col2 : Option Bool} {dd dd2 : Option Addr} {k0 k1 k2 k3 k5 l0 l1 l2 l3 l5 : Option Value} {newId newId2 : String}
theorem matches_above {h : Heap} {g : Array GenState} {d : Drawn} {t : Nat} {os : OsState} {e : Addr} {oe : Obj} {Q : Bool → Shared → Prop}
    (hC : h.get? C = some (excClassObj nm q C N bs bm hdct sn sub ab col dd k0 k1 k2 k3 k5 newId)) (hS : h.get? S = some (excClassObj nm2 q2 S N2 bs2 bm2 hd2 sn2 sub2 ab2 col2 dd2 l0 l1 l2 l3 l5 newId2))
    (he : h.get? e = some oe) (hcls : oe.cls = .ref C) (hb2 : bm2.contains (.type "BaseException") = true) (hin : bm.contains (.ref S) = true)
    (hq : Q true ⟨h, g, d, t, os⟩) : wpAny M A (excMatches (.ref e) (.ref S)) Q E ⟨h, g, d, t, os⟩ := by
  have hcB : (Value.ref S :: bm2).contains (.type "BaseException") = true := by rw [List.contains_cons, hb2, Bool.or_true]
  have hcC : (Value.ref C :: bm).contains (.ref S) = true := by rw [List.contains_cons, hin, Bool.or_true]
  have f := tc_notTuple
  unfold excMatches
  repeat (first | (with_reducible refine wpAny_loadPart_at he ?_; rw [hcls]) | with_reducible refine wpAny_loadPart_at hS ?_ | (with_reducible refine wpAny_isSubtype_exc hS ?_; rw [hcB]) | (with_reducible refine wpAny_isSubtype_exc hC ?_; rw [hcC]) | wp_step)
  exact hq
end
end L2
namespace L2
open PySem PySem.Spec PyProof.Rows
noncomputable def excO (x C : Addr) : HO := .ext fun h => ∃ ob, h.get? x = some ob ∧ ob.cls = .ref C
theorem Un.track {P : Program} {w : World} {fs : List Addr} {H H' : Hp} {h h' : Heap} {x : Addr} {o : HO} (u : Un fs [] H H' h h') (nx : h.get? x = none) (ok : HOk P w H h) : Un fs [] H (upd H' x o) h h' := by
  have ne : ∀ {b ob}, h.get? b = some ob → b ≠ x := fun {b ob} e z => by rw [z, nx] at e; cases e
  have ne2 : ∀ {b ob}, H b = some ob → b ≠ x := fun {b ob} e => by
    obtain ⟨q, hq⟩ := (ok b ob e).there
    exact ne hq
  exact ⟨u.keep, u.slot, fun b ob e n hx => by rw [upd_ne (ne e)]; exact u.free b ob e n hx, u.there, fun b xs e => by rw [upd_ne (ne2 e)]; exact u.tups b xs e, fun b ob v e => by rw [upd_ne (ne2 e)]; exact u.frzs b ob v e, fun b ps e => by
    obtain ⟨more, z⟩ := u.tbls b ps e
    exact ⟨more, by rw [upd_ne (ne2 e)]; exact z⟩⟩
theorem HOk.track {P : Program} {w : World} {H' : Hp} {h : Heap} {x : Addr} {o : HO} (ok : HOk P w H' h) (nx : H' x = none) (new : ObjOk P w (upd H' x o) h x o) : HOk P w (upd H' x o) h := fun a ob e => by
  have ne : ∀ {b u}, H' b = some u → b ≠ x := fun {b u} q z => by rw [z, nx] at q; cases q
  by_cases z : a = x
  · subst z
    rw [upd_same] at e
    cases e
    exact new
  · rw [upd_ne z] at e
    exact (ok a ob e).stay (fun _ _ _ q => q) (fun b q => by rw [upd_ne (ne q)]; exact q) fun b xs q => q.keep fun u eu _ => by rw [upd_ne (ne eu)]; exact eu
section
variable {X : Cx} {pins : List (Addr × Obj)} {σ : St} {H : Hp} {s : Shared}
theorem name_goes {M : Model} {A : Around} {E : Value → Shared → Prop} {j : Nat} {n : Str} {pos : Pos} {Q : Unit → Shared → Prop} (I : Inv X pins σ H s) (hN : X.N.Nodup) (hj : X.N[j]? = some n) (hk : X.env.scope.names.lookup n = some .local)
    (h : ∀ s', Inv X pins (σ.set j none) H s' → Q () s') : wpAny M A (do bindName X.env n .none; unbindBehindTheSuite X.env n pos) Q E s := by
  obtain ⟨m, hn, hl⟩ := id I.loc
  have hc : (X.env.scope.kind == .class || (X.env.scope.kind == .module && X.env.locals != X.env.globals)) = false := by rw [I.ok.kind]; rfl
  refine wpAny_nameGoes_keeps hk hn hc fun h' v hn' hs => h _ ?_
  obtain ⟨oL, _, _, hoL, _⟩ := id hn
  have low : ∀ {b o}, X.s₀.heap.get? b = some o → b ≠ X.env.locals := fun {b o} e => Nat.ne_of_lt (Nat.lt_of_lt_of_le (Heap.lt_size e) I.ok.above)
  refine ⟨I.ok, I.os, I.bare, ⟨fun b o e n1 hb hx => (hs.2 b (low e)).trans (I.base.keep b o e n1 hb hx), fun b o e n1 hb hx => ?_, I.base.free, fun b o e hx => ?_, I.base.tups, I.base.frzs, I.base.tbls⟩, ⟨_, hn', fun i y v' e1 e2 e3 => ?_⟩, fun y c e => ?_, I.free, I.freeC, fun p hp => ?_, fun b ob e => ?_, by simpa using I.len⟩
  · obtain ⟨sl, q⟩ := I.base.slot b o e n1 hb hx
    exact ⟨sl, (hs.2 b (low e)).trans q⟩
  · obtain ⟨o', q⟩ := I.base.there b o e hx
    exact ⟨o', (hs.2 b (low e)).trans q⟩
  · by_cases z : i = j
    · subst z
      have li : i < σ.length := by rw [I.len]; exact (List.getElem?_eq_some_iff.mp hj).1
      rw [List.getElem?_set_self li] at e2
      cases e2
    · rw [List.getElem?_set_ne (Ne.symm z)] at e2
      obtain ⟨u, r, q⟩ := hl i y v' e1 e2 e3
      have yn : y ≠ n := fun q => z (nodup_ix hN e1 (q ▸ hj))
      refine ⟨u, r, ?_⟩
      rcases q with ⟨q1, q2⟩ | ⟨q1, c, q2, q3⟩
      · exact .inl ⟨q1, (if_neg yn).trans q2⟩
      · exact .inr ⟨q1, c, q2, q3.sameBut hs (I.cne y c q2)⟩
  · obtain ⟨v2, q⟩ := I.cell y c e
    exact ⟨v2, q.sameBut hs (I.cne y c e)⟩
  · obtain ⟨q1, q2, q3, q4, q5⟩ := I.pin p hp
    exact ⟨(hs.2 p.1 q3).trans q1, q2, q3, q4, q5⟩
  · refine (I.hok b ob e).stay (fun c u hc2 q => (hs.2 c fun z => ?_).trans q) (fun _ q => q) fun _ _ q => q
    have fr := I.free
    rcases hc2 with y | y
    · rw [← y, z, fr] at e; cases e
    · rw [z, fr] at y; cases y
noncomputable def Cx.marked (X : Cx) (x : Addr) : Cx := { X with A := X.A.mark (some (.ref x)), calm := false, xe := fun _ _ => False }
theorem Inv.marked (I : Inv X pins σ H s) (x : Addr) : Inv (X.marked x) pins σ H s :=
  ⟨⟨I.ok.mod, I.ok.kind, I.ok.glob, I.ok.blt, I.ok.above, I.ok.inj, I.ok.has, I.ok.cab, (fun z => nomatch z), I.ok.frames, I.ok.stk, I.ok.exf, I.ok.bs, I.ok.bsz, I.ok.noex, I.ok.exfs, I.ok.funs, I.ok.frf⟩, I.os, I.bare, I.base, I.loc, I.cell, I.free, I.freeC, I.pin, I.hok, I.len⟩
theorem Inv.unmarked {x : Addr} (hd : X.calm = true → X.A.handled = none) (I : Inv (X.marked x) pins σ H s) : Inv X pins σ H s :=
  ⟨⟨I.ok.mod, I.ok.kind, I.ok.glob, I.ok.blt, I.ok.above, I.ok.inj, I.ok.has, I.ok.cab, hd, I.ok.frames, I.ok.stk, I.ok.exf, I.ok.bs, I.ok.bsz, I.ok.noex, I.ok.exfs, I.ok.funs, I.ok.frf⟩, I.os, I.bare, I.base, I.loc, I.cell, I.free, I.freeC, I.pin, I.hok, I.len⟩
end
section
variable {X : Cx} {pins : List (Addr × Obj)} {σ : St} {H1 : Hp} {s1 s' : Shared} {C S : Addr} {nid nid2 : String} {bB bB2 : List Value} {sx n : Str} {np hpos : Pos} {b₀ : Stmt} {suite : List Stmt} {j : Nat} {ts : TS} {D : Ends} {E' : XK} {e : Value}
noncomputable def D1 (D : Ends) (j : Nat) : Ends := { nx := fun σ' H' => D.nx (σ'.set j none) H', rt := fun _ _ => False }
theorem caught_as (I1 : Inv X pins σ H1 s1) (hcalm : X.calm = true) (hst : X.stack = X.env :: X.outer) (hfm : X.env.frame = some X.env.locals) (hgS : Gl X sx) (hmS : X.mg sx = some (.ref S))
    (cC : PySem.W.excIn X.K C bB nid = true) (cS : PySem.W.excIn X.K S bB2 nid2 = true) (b2 : bB2.contains (.type "BaseException") = true) (hin : (mroOf X.K C).tail.contains (.ref S) = true)
    (hN : X.N.Nodup) (hj : X.N[j]? = some n) (hn : X.env.scope.names.lookup n = some .local) (hs : ∀ x, PSs (X.marked x) (b₀ :: suite) ts) (hdb : (sx == ("__debug__" : Str)) = false)
    (cx : CXC X.prog X.w (.ref C) X.stack H1 s1 E' e s') (hE : ∀ x H2, E' (.ref x) (some x) H2 → H2 x = none → ts (D1 D j) (σ.set j (some (.ref x))) (upd H2 x (excO x C))) :
    wpAny (model X.prog X.w) X.A (noteFrame e X.env) (fun _ s₂ => wpAny (model X.prog X.w) X.A (setFlight e none) (fun _ s₃ => wpAny (model X.prog X.w) X.A (handleBy e X.env [.ExceptHandler (some (.Name sx np)) (some n) (b₀ :: suite) hpos]) (SP X pins D) X.xe s₃) X.xe s₂) X.xe s' := by
  obtain ⟨x, H', rfl, hos, hbr, un, ok, ⟨newx, hx, T, a0, oe, vs, oT, tv, ex, ec, ed, e1, nT, hT, Tx, eT, edT, e3⟩, q⟩ := cx
  have fun0 := I1.env0.funs
  have frf := I1.stkFree
  obtain ⟨B, hB⟩ := heap_without s'.heap (x :: T :: frs X.stack)
  have frs' : ∀ b ∈ frs X.stack, H' b = none := fun b z => by
    obtain ⟨_, o, ho, _⟩ := fun0.mem z
    exact un.free b o ho (frf b z) (by simp)
  have fl : s'.heap.FunFrames B X.stack := funFrames_of fun0 (fun b z o ho => un.slot b o ho (frf b z) z (by simp)) fun b z => (hB b).1 (.tail _ (.tail _ z))
  have st : B.StaysIn s'.heap := fun b o hb => by
    by_cases z : b ∈ x :: T :: frs X.stack
    · rw [(hB b).1 z] at hb; cases hb
    · rw [(hB b).2 z] at hb; exact hb
  have fly : Heap.FlyingW B X.stack x (.ref C) a0 s'.heap := ⟨st, (hB x).1 (.head _), fl, oe, vs, T, oT, tv, ex, ec, ed, e1, (hB T).1 (.tail _ (.head _)), Tx, eT, edT, e3⟩
  have mkInv : ∀ h, Heap.FlyingW B X.stack x (.ref C) a0 h → s'.heap.UpToSlots h → Inv X pins σ (upd H' x (excO x C)) { s' with heap := h } := fun h fh sm => by
    have k : ∀ b o, b ∉ frs X.stack → b ≠ x → b ≠ T → s'.heap.get? b = some o → h.get? b = some o := fun b o n1 n2 n3 eb => fh.1 b o (by
      rw [(hB b).2 fun z => by
        rcases List.mem_cons.mp z with z | z
        · exact n2 z
        · rcases List.mem_cons.mp z with z | z
          · exact n3 z
          · exact n1 z]
      exact eb)
    have ks : ∀ b o, b ∈ frs X.stack → s'.heap.get? b = some o → ∃ sl, h.get? b = some { o with slots := sl } := fun b o z eb => sm b o eb (by
      obtain ⟨_, o2, h2, h3⟩ := fl.mem z
      rw [eb] at h2
      cases h2
      exact h3)
    obtain ⟨ob, hob, hcl⟩ := fh.there
    exact I1.call' (s' := { s' with heap := h }) hos ((un.left newx nT k ks).track newx I1.hok) ((ok.left frs' hx hT k).track hx ⟨⟨ob, hob, hcl⟩, ⟨ob, hob⟩, fun h1 h2 ⟨o1, z1, z2⟩ kk => ⟨o1, kk _ z1, z2⟩⟩) hbr (fun b z => absurd z (by simp))
  rw [hst] at fly
  refine wpAny_looks_onW (env := X.env) (outer := X.outer) (by rw [I1.ok.frames, hst]) hfm fly fun h₄ held sm₄ => ?_
  refine wpAny_landsW (s := { s' with heap := h₄ }) held fun h₅ fly₅ sm₅ => ?_
  refine wpAny_handleBy_cons (codeAny_handlers_test ?_) (by intro z; cases z)
  have sm5 := sm₄.trans sm₅
  have J₅ := mkInv h₅ (by rw [hst]; exact fly₅) sm5
  obtain ⟨tl, N, nm, qn, bs, hd, sn, sub, ab, col, dd, a0', a1, a2, a3, a5, oC, mC, oT'⟩ := class_mro I1.ok.mod.kin cC
  obtain ⟨tl2, N2, nm2, qn2, bs2, hd2, sn2, sub2, ab2, col2, dd2, c0, c1, c2, c3, c5, oS, mS, oTS⟩ := class_mro I1.ok.mod.kin cS
  obtain ⟨ob, hob, hcl⟩ := fly₅.there
  refine ld_glob (X := X.marked x) (J₅.marked x) hgS hmS ?_ hdb
  refine matches_above (J₅.bk _ _ oC) (J₅.bk _ _ oS) hob hcl (oTS.hasType b2) (by rw [mC] at hin; exact hin) ?_
  refine codeAny_handlers_suite_as ?_
  refine lands_againW (s := { s' with heap := h₅ }) fly₅ fun h₆ fly₆ sm₆ => ?_
  refine store_ok (v := .ref x) (mkInv h₆ (by rw [hst]; exact fly₆) (sm5.trans sm₆)) hN hj (.inl hn) rfl (fun s7 I7 => ?_) (.inr hn)
  refine wpAny_mono (hs x pins s7 _ _ (D1 D j) (I7.marked x) (hE x H' q hx)) (fun f s8 q8 => ?_) fun _ _ z => z.elim
  cases f with
  | next =>
    obtain ⟨σ', H8, I8, q⟩ := q8
    exact name_goes (I8.unmarked I1.ok.hd) hN hj hn fun s9 I9 => ⟨_, H8, I9, q⟩
  | brk => obtain ⟨_, _, _, z⟩ := q8; exact z.elim
  | cont => obtain ⟨_, _, _, z⟩ := q8; exact z.elim
  | ret u => obtain ⟨_, _, _, _, _, z⟩ := q8; exact z.elim
end
section
variable {X : Cx} {C S f : Addr} {k : Nat} {fd : FuncData} {ps : List Str} {sp : Sp} {dvs : List V} {ds : List Value} {nid nid2 : String} {bB bB2 : List Value} {fx sx n : Str} {p np hpos cpos epos pos : Pos} {b₀ : Stmt} {suite : List Stmt} {j : Nat} {t : TA} {ts : TS} {e : Expr} {es : List Expr}
end
end L2
namespace L2
open PySem PySem.Spec PyProof.Rows
section
variable {prog : Program} {w : World} {A : Around} {E : Value → Shared → Prop} {h : Heap} {g : Array GenState} {d : Drawn} {t : Nat} {os : OsState} {a : Addr} {o : Obj} {K : PySem.W.Frag}
  {nm q : Str} {C N : Addr} {bs bm bmB : List Value} {hdct : Bool} {sn : List Str} {sub : List Value} {ab : Bool} {col : Option Bool} {dd : Option Addr} {k0 k1 k2 k3 k5 : Option Value} {B newId : String}
theorem xc_get {R : Result → Shared → Prop} (hC : h.get? C = some (excClassObj nm q C N bs bm hdct sn sub ab col dd k0 k1 k2 k3 k5 newId)) (ho : bm.contains (.type "object") = true)
    (hx : h.get? a = some o) (hc : o.cls = .ref C) (hq : R (.ok (.ret (.ref C))) ⟨h, g, d, t, os⟩) :
    codeAny (model prog w) A (.call (.builtin "getset_descriptor.__get__") ⟨[.builtin "object.__class__", .ref a, .ref C], []⟩) R ⟨h, g, d, t, os⟩ := by
  have hT5 : (⟨h, g, d, t, os⟩ : Shared).TypeIs (.builtin "object.__class__") "getset_descriptor" := F.typeOf_object_class
  have hcB : (Value.ref C :: bm).contains (.type (".".intercalate ("object.__class__".cutAt '.').dropLast)) = true := by
    rw [F.owner_object_class, List.contains_cons, ho]; rfl
  refine codeAny_call_builtin F.slot_gs_get.plain F.entry_gs_get (F.slot_gs_get.check _ _ _ _ _ _ _ _ hT5 (F.args_gs_get _ _ _) ?_)
  repeat (any_goals (first | assumption | (with_reducible refine wpAny_loadPart_at hx ?_; rw [hc]) | (with_reducible refine wpAny_isSubtype_exc hC ?_; rw [hcB]) | wp_step))
  refine ⟨Code.quiet_builtin _ (by decide +kernel), codeAny_builtin F.entry_object_class ?_⟩
  repeat (any_goals (first | assumption | (with_reducible refine wpAny_loadPart_at hx ?_; rw [hc]) | wp_step))
theorem xc_entry {tk : Tok} {Q : Fin → Shared → Prop} (X : K.In h) (hca : PySem.W.findIn K (.ref C) "__class__" = some (some (.builtin "object.__class__"))) (hC : h.get? C = some (excClassObj nm q C N bs bm hdct sn sub ab col dd k0 k1 k2 k3 k5 newId)) (ho : bm.contains (.type "object") = true)
    (hx : h.get? a = some o) (hc : o.cls = .ref C) (hq : Q (.done (.ret (.ref C))) ⟨h, g, d, t, os⟩) :
    wpAny (model prog w) A (Builtin.«object.__getattribute__» ⟨[.ref a, .str "__class__" tk], []⟩) Q E ⟨h, g, d, t, os⟩ := by
  have hT5 : (⟨h, g, d, t, os⟩ : Shared).TypeIs (.builtin "object.__class__") "getset_descriptor" := F.typeOf_object_class
  have f5 := F.typeOf_object_class
  have f6 := F.slot_gs_get.lookup
  have f7 := F.slot_gs_set.lookup
  have L := PySem.W.looks_findIn (M := model prog w) X hca
  repeat (any_goals (first | assumption | (with_reducible refine wpAny_loadPart_at hx ?_; rw [hc]) | with_reducible refine L.at ?_ | wp_step))
  refine xc_get hC ho hx hc ?_
  repeat (any_goals (first | assumption | wp_step))
theorem xc_check {M : Model} {nameV : Value} {Q : Unit → Shared → Prop} (hC : h.get? C = some (excClassObj nm q C N bs bm hdct sn sub ab col dd k0 k1 k2 k3 k5 newId)) (hb : bm.contains (.type "BaseException") = true)
    (hx : h.get? a = some o) (hc : o.cls = .ref C) (hq : Q () ⟨h, g, d, t, os⟩) : wpAny M A (checkBuiltinCall "BaseException.__getattribute__" ⟨[.ref a, nameV], []⟩) Q E ⟨h, g, d, t, os⟩ := by
  have hk : builtinKind "BaseException.__getattribute__" = some .slot := by decide +kernel
  have hsp : splitId "BaseException.__getattribute__" = some ("BaseException", "__getattribute__") := by decide +kernel
  have hcB : (Value.ref C :: bm).contains (.type "BaseException") = true := by rw [List.contains_cons, hb]; rfl
  have ha := F.args_bexc_ga (.ref a) nameV
  simp only [checkBuiltinCall, hk, hsp]
  refine wpAny_bind ?_
  unfold isInstance
  repeat (first | (with_reducible refine wpAny_loadPart_at hx ?_; rw [hc]) | (with_reducible refine wpAny_isSubtype_exc hC ?_; rw [hcB]) | wp_step)
  exact hq
theorem xc_by {tk : Tok} {Q : Value → Shared → Prop} (FB : ExcAttrFacts B) (X : K.In h) (hga : PySem.W.findIn K (.ref C) "__getattribute__" = some (some (.builtin "BaseException.__getattribute__"))) (hgn : PySem.W.findIn K (.ref C) "__getattr__" = some none)
    (hca : PySem.W.findIn K (.ref C) "__class__" = some (some (.builtin "object.__class__"))) (hC : h.get? C = some (excClassObj nm q C N bs bm hdct sn sub ab col dd k0 k1 k2 k3 k5 newId)) (ho : bm.contains (.type "object") = true) (hb : bm.contains (.type "BaseException") = true)
    (hx : h.get? a = some o) (hc : o.cls = .ref C) (hq : Q (.ref C) ⟨h, g, d, t, os⟩) : wpAny (model prog w) A (getAttrBy (.ref a) (.str "__class__" tk) false) Q E ⟨h, g, d, t, os⟩ := by
  have f3 := FB.ga.bind (.ref a)
  have hx2 : (Value.builtin "BaseException.__getattribute__" == Value.builtin "object.__getattribute__") = false := by decide +kernel
  have hx1 : (onTheHeap (Value.ref C) && Value.builtin "BaseException.__getattribute__" == Value.builtin "object.__getattribute__") = false := by rw [hx2]; rfl
  have L1 := PySem.W.looks_findIn (M := model prog w) X hga
  have L2 := PySem.W.looks_findIn (M := model prog w) X hgn
  repeat (any_goals (first | assumption | (with_reducible refine wpAny_loadPart_at hx ?_; rw [hc]) | with_reducible refine L1.at ?_ | with_reducible refine L2.at ?_ | wp_step))
  refine codeAny_call_builtin FB.ga.plain F.entry_bexc_ga (xc_check hC hb hx hc (xc_entry X hca hC ho hx hc ?_))
  repeat (any_goals (first | assumption | wp_step))
theorem xc_attr {Q : Option Value → Shared → Prop} (FB : ExcAttrFacts B) (X : K.In h) (hga : PySem.W.findIn K (.ref C) "__getattribute__" = some (some (.builtin "BaseException.__getattribute__"))) (hgn : PySem.W.findIn K (.ref C) "__getattr__" = some none)
    (hca : PySem.W.findIn K (.ref C) "__class__" = some (some (.builtin "object.__class__"))) (hC : h.get? C = some (excClassObj nm q C N bs bm hdct sn sub ab col dd k0 k1 k2 k3 k5 newId)) (ho : bm.contains (.type "object") = true) (hb : bm.contains (.type "BaseException") = true)
    (hx : h.get? a = some o) (hc : o.cls = .ref C) (hq : Q (some (.ref C)) ⟨h, g, d, t + 1, os⟩) : wpAny (model prog w) A (getAttr? (.ref a) "__class__") Q E ⟨h, g, d, t, os⟩ := by
  unfold getAttr? getAttrBy?
  repeat (any_goals (first | assumption | with_reducible apply xc_by FB X hga hgn hca hC ho hb hx hc | wp_step))
end
structure XcOk (K : PySem.W.Frag) (C : Addr) (B nid : String) (bB : List Value) : Prop where
  ex : PySem.W.excIn K C bB nid = true
  attr : ExcAttrFacts B
  ga : PySem.W.findIn K (.ref C) "__getattribute__" = some (some (.builtin "BaseException.__getattribute__"))
  gn : PySem.W.findIn K (.ref C) "__getattr__" = some none
  ca : PySem.W.findIn K (.ref C) "__class__" = some (some (.builtin "object.__class__"))
  ho : bB.contains (.type "object") = true
  hb : bB.contains (.type "BaseException") = true
theorem kitx_exc {K : PySem.W.Frag} {C x : Addr} {B nid : String} {bB : List Value} (Z : XcOk K C B nid bB) : PySem.W.KitX K (.ref x) (.ref C) (fun h => ∃ ob, h.get? x = some ob ∧ ob.cls = .ref C) where
  ty := fun M h _ ⟨ob, e, c⟩ => c ▸ (PySem.W.Looks.ld e).andThen .now
  it := fun M h X _ => by
    obtain ⟨tl, N, nm, qn, bs, hd, sn, sub, ab, col, dd, a0, a1, a2, a3, a5, oC, _, _⟩ := class_mro X Z.ex
    intro A2 Q2 E2 s2 k2 q2
    unfold isType loadHead
    exact wpAny_bind (wpAny_loadPart (k2 _ _ oC) (wpAny_pure q2))
  ne := fun h tp dd its n sl X htp => by
    obtain ⟨tl, N, nm, qn, bs, hd, sn, sub, ab, col, dd2, a0, a1, a2, a3, a5, oC, _, _⟩ := class_mro X Z.ex
    refine Bool.eq_false_iff.mpr fun z => ?_
    have e : C = tp := Value.ref.inj (beq_iff_eq.mp z)
    subst e
    have y := congrArg (fun o => o.data) (Option.some.inj (oC.symm.trans htp))
    exact absurd y (fun w => nomatch w)
  ca := fun {prog w A E Q s} X ⟨ob, e, c⟩ k2 => by
    obtain ⟨tl, N, nm, qn, bs, hd, sn, sub, ab, col, dd2, a0, a1, a2, a3, a5, oC, _, oT⟩ := class_mro X Z.ex
    obtain ⟨hh, g, d, t, os⟩ := s
    exact xc_attr Z.attr X Z.ga Z.gn Z.ca oC (oT.hasType Z.ho) (oT.hasType Z.hb) e c k2
noncomputable def rIsX (K : PySem.W.Frag) (C : Addr) : List V → Hp → VK → Prop := fun xs H Q => ∃ x S b, xs = [.ref x, .ref S] ∧ H x = some (excO x C) ∧ PySem.W.kitOne K (.ref C) (.ref S) = some b ∧ Q (.bl b) H
noncomputable def rIsXT (K : PySem.W.Frag) (C : Addr) : List V → Hp → VK → Prop := fun xs H Q => ∃ x T b, xs = [.ref x, .ty T] ∧ H x = some (excO x C) ∧ PySem.W.kitOne K (.ref C) (.type T) = some b ∧ Q (.bl b) H
section
variable {X : Cx} {C : Addr} {B nid : String} {bB : List Value}
theorem call_isX (Z : XcOk X.K C B nid bB) : CallR X (.builtin "isinstance") (rIsX X.K C) := by
  intro pins s σ H xs us Q I r ⟨x, S, b, e, hx, ek, q⟩
  subst e
  obtain ⟨u, w', rfl, rx, rt⟩ := vals2 r
  cases (show w' = Value.ref S from rt)
  cases (show u = Value.ref x from rx)
  obtain ⟨p, _⟩ := I.hok x _ hx
  exact PySem.W.kia_one (kitx_exc Z) I.kIn p ek (fun z => nomatch z) fun tk => ⟨.bl b, H, I.tok tk, rfl, q⟩
theorem call_isXT (Z : XcOk X.K C B nid bB) : CallR X (.builtin "isinstance") (rIsXT X.K C) := by
  intro pins s σ H xs us Q I r ⟨x, T, b, e, hx, ek, q⟩
  subst e
  obtain ⟨u, w', rfl, rx, rt⟩ := vals2 r
  cases (show w' = Value.type T from rt)
  cases (show u = Value.ref x from rx)
  obtain ⟨p, _⟩ := I.hok x _ hx
  exact PySem.W.kia_one (kitx_exc Z) I.kIn p ek (fun z => nomatch z) fun tk => ⟨.bl b, H, I.tok tk, rfl, q⟩
end
end L2
namespace L2
open PySem PySem.Spec PyProof.Rows
section
variable {X : Cx}
end
end L2
namespace My
open PySem L2
open PySem.W (Dat kqdP kqdPs kqdOk)
end My
namespace My
open PySem L2
open PySem.W (Dat kqdP kqdPs kqdOk)
end My
namespace L2
open PySem PySem.Spec PyProof.Rows
section
open PySem.SeqAt
open PySem.AutoSeq1 (wpAny_loadPart')
open PySem.MeetsSeq PySem.MeetsSeq2 PySem.MeetsSeq3
end
section
variable {X : Cx}
end
end L2
namespace My
open PySem L2
open PySem.W (Dat kqdP kqdPs kqdOk)
end My
namespace L2
open PySem PySem.Spec PyProof.Rows
section
open PySem.Sem (wp)
end
section
variable {X : Cx}
end
end L2
namespace L2
open PySem PySem.Spec PyProof.Rows
theorem dflt1 {tk : Tok} : Vals [V.int 1] [Value.int 1 tk] := .cons ⟨tk, rfl⟩ .nil
structure FunD (K : PySem.W.Frag) (x qual : Str) (st : Stmt) (f : Addr) (fd : FuncData) (T : Addr) : Prop where
  ex : ∃ (oc : Value) (od : Option Addr) (kV doc pm : Value) (an : Option Addr) (cdv ct : Value) (osl : Array (Option Value)),
    fd = PySem.W.fnOf x qual (defArgs st) (defBody st) (defScope st) (.ref T) kV doc pm an cdv ct ∧ K.lookup f = some ⟨oc, od, .func fd, osl⟩ ∧ PySem.W.codeIn K cdv qual = true
  kp : PySem.W.keepIn K (.ref f) = true
section
variable {P : Program} {w : World} {K : PySem.W.Frag} {mg : Str → Option Value} {base : Heap}
theorem FunD.okB {x qual : Str} {st : Stmt} {f T : Addr} {fd : FuncData} {N ps : List Str} {k : Nat} {sp : Sp} (F : FunD K x qual st f fd T) (S : FnScope N ps (defScope st)) (len : ∀ vs H Q E, sp vs H Q E → vs.length = ps.length)
    (hbody : ∀ (cdv : Value) (A : Around) (outer : List Env) (s : Shared) (H : Hp) (vs : List V) (Q : VK) (E : XK), Room k (A.deeper (envOfC qual (defScope st) s.heap.objs.size f cdv)) → sp vs H Q E →
      ∃ t, Bx (PSs (cxOf CX0 P w K mg base N qual (defScope st) f cdv A outer s H E).nox (defBody st) t) ∧ t { nx := fun _ H2 => Q .non H2, rt := Q } (start N vs) H) : FnOk P w K mg base CX0 (k + 1) f fd ps sp := by
  obtain ⟨oc, od, kV, doc, pm, an, cdv, ct, osl, rfl, lk, hcd⟩ := F.ex
  refine fn_of lk hcd S len fun A outer s H vs Q E hr hsp => ?_
  obtain ⟨t, h, q⟩ := hbody cdv A outer s H vs Q E hr hsp
  exact ⟨t, h.1.nox, q⟩
theorem FunD.binds {x qual : Str} {st : Stmt} {f T : Addr} {fd : FuncData} {ps : List Str} {ds : List Value} (F : FunD K x qual st f fd T)
    (h : ∀ (kV doc pm : Value) (an : Option Addr) (cdv ct : Value) (s : Shared) (us : List Value), K.In s.heap → (us ++ ds).length = ps.length →
      BindsTo s (PySem.W.fnOf x qual (defArgs st) (defBody st) (defScope st) (.ref T) kV doc pm an cdv ct) ⟨us, []⟩ (ps.zip (us ++ ds))) : Binds K fd ps ds := by
  obtain ⟨oc, od, kV, doc, pm, an, cdv, ct, osl, rfl, lk, hcd⟩ := F.ex
  exact h kV doc pm an cdv ct
theorem funD_mk {x qual : Str} {st : Stmt} {f T : Addr} {oc : Value} {od an : Option Addr} {osl : Array (Option Value)} {kV doc pm cdv ct : Value} (l : K.lookup f = some ⟨oc, od, .func (PySem.W.fnOf x qual (defArgs st) (defBody st) (defScope st) (.ref T) kV doc pm an cdv ct), osl⟩)
    (c : PySem.W.codeIn K cdv qual = true) (k : PySem.W.keepIn K (.ref f) = true) : FunD K x qual st f (PySem.W.fnOf x qual (defArgs st) (defBody st) (defScope st) (.ref T) kV doc pm an cdv ct) T := ⟨⟨oc, od, kV, doc, pm, an, cdv, ct, osl, rfl, l, c⟩, k⟩
end
end L2
namespace My
open PySem L2
noncomputable def gateI (o : Int) (x : Str) (ns : List Int) : Int :=
  if x = "not" then Builtin.bitXor o (ns.getD 0 0)
  else if x = "choose" then Builtin.bitOr (Builtin.bitAnd (ns.getD 0 0) (ns.getD 1 0)) (Builtin.bitAnd (Builtin.bitXor o (ns.getD 0 0)) (ns.getD 2 0))
  else ns.foldl (fun a b => if x = "and" then Builtin.bitAnd a b else if x = "or" then Builtin.bitOr a b else Builtin.bitXor a b) (if x = "and" ∨ x = "one" then o else 0)
theorem and_bits {a b : Int} (ha : a = 0 ∨ a = 1) (hb : b = 0 ∨ b = 1) : Builtin.bitAnd a b = if a = 1 ∧ b = 1 then 1 else 0 := by
  rcases ha with rfl | rfl <;> rcases hb with rfl | rfl <;> decide
theorem or_bits {a b : Int} (ha : a = 0 ∨ a = 1) (hb : b = 0 ∨ b = 1) : Builtin.bitOr a b = if a = 1 ∨ b = 1 then 1 else 0 := by
  rcases ha with rfl | rfl <;> rcases hb with rfl | rfl <;> decide
theorem xor_bits {a b : Int} (ha : a = 0 ∨ a = 1) (hb : b = 0 ∨ b = 1) : Builtin.bitXor a b = (a + b) % 2 := by
  rcases ha with rfl | rfl <;> rcases hb with rfl | rfl <;> decide
theorem fold_and : ∀ (ns : List Int) {a : Int}, (a = 0 ∨ a = 1) → Bits ns → ns.foldl Builtin.bitAnd a = if a = 1 ∧ ns.all (· == 1) = true then 1 else 0
  | [], a, ha, _ => by rcases ha with rfl | rfl <;> decide
  | n :: ns, a, ha, b => by
    have hn := b n (.head _)
    have e := and_bits ha hn
    rw [List.foldl_cons, fold_and ns (by rw [e]; split <;> simp) fun z hz => b z (.tail _ hz), e]
    rcases ha with rfl | rfl <;> rcases hn with rfl | rfl <;> simp
theorem fold_or : ∀ (ns : List Int) {a : Int}, (a = 0 ∨ a = 1) → Bits ns → ns.foldl Builtin.bitOr a = if a = 1 ∨ ns.any (· == 1) = true then 1 else 0
  | [], a, ha, _ => by rcases ha with rfl | rfl <;> decide
  | n :: ns, a, ha, b => by
    have hn := b n (.head _)
    have e := or_bits ha hn
    rw [List.foldl_cons, fold_or ns (by rw [e]; split <;> simp) fun z hz => b z (.tail _ hz), e]
    rcases ha with rfl | rfl <;> rcases hn with rfl | rfl <;> simp
theorem fold_xor : ∀ (ns : List Int) {a : Int}, (a = 0 ∨ a = 1) → Bits ns → ns.foldl Builtin.bitXor a = (a + ns.sum) % 2
  | [], a, ha, _ => by rcases ha with rfl | rfl <;> decide
  | n :: ns, a, ha, b => by
    have hn := b n (.head _)
    have e := xor_bits ha hn
    rw [List.foldl_cons, fold_xor ns (by rw [e]; omega) fun z hz => b z (.tail _ hz), e, List.sum_cons]
    omega
theorem n_an : ("and" : Str) ≠ "not" := by decide +kernel
theorem n_ac : ("and" : Str) ≠ "choose" := by decide +kernel
theorem n_on : ("or" : Str) ≠ "not" := by decide +kernel
theorem n_oc : ("or" : Str) ≠ "choose" := by decide +kernel
theorem n_o1 : ("or" : Str) ≠ "one" := by decide +kernel
theorem n_dn : ("odd" : Str) ≠ "not" := by decide +kernel
theorem n_dc : ("odd" : Str) ≠ "choose" := by decide +kernel
theorem n_d1 : ("odd" : Str) ≠ "one" := by decide +kernel
theorem gateI_one {x : Str} {ns : List Int} (b : Bits ns) (h : legsOk x ns.length) : gateI 1 x ns = gateV x ns := by
  rcases h with ⟨h | h | h, l1, l2⟩ | ⟨h, l1⟩ | ⟨h, l1⟩ | ⟨h | h, l1⟩ <;> subst h <;> unfold gateI
  · rw [gv_and, if_neg n_an, if_neg n_ac, if_pos (.inl rfl)]
    simp only [if_pos]
    rw [fold_and ns (.inr rfl) b]
    simp
  · rw [gv_or, if_neg n_on, if_neg n_oc, if_neg (fun z => z.elim n_oa n_o1)]
    simp only [if_neg n_oa, if_pos]
    rw [fold_or ns (.inl rfl) b]
    simp
  · rw [gv_odd, if_neg n_dn, if_neg n_dc, if_neg (fun z => z.elim n_da n_d1)]
    simp only [if_neg n_da, if_neg n_do]
    rw [fold_xor ns (.inl rfl) b, Int.zero_add]
  · rw [gv_not, if_pos rfl]
    rcases getD_bit b (i := 0) (by omega) with e | e <;> rw [e] <;> decide
  · rw [gv_choose, if_neg n_cn, if_pos rfl]
    rcases getD_bit b (i := 0) (by omega) with e | e <;> rcases getD_bit b (i := 1) (by omega) with f | f <;> rcases getD_bit b (i := 2) (by omega) with g | g <;> rw [e, f, g] <;> decide
  · obtain rfl : ns = [] := List.length_eq_zero_iff.mp l1
    rw [gv_zero, if_neg n_zn, if_neg n_zc, if_neg (fun z => z.elim n_za n_z1)]
    rfl
  · obtain rfl : ns = [] := List.length_eq_zero_iff.mp l1
    rw [gv_one, if_neg n_1n, if_neg n_1c, if_pos (.inr rfl)]
    rfl
theorem gi_not (o : Int) (ns : List Int) : gateI o "not" ns = Builtin.bitXor o (ns.getD 0 0) := by unfold gateI; rw [if_pos rfl]
theorem gi_choose (o : Int) (ns : List Int) : gateI o "choose" ns = Builtin.bitOr (Builtin.bitAnd (ns.getD 0 0) (ns.getD 1 0)) (Builtin.bitAnd (Builtin.bitXor o (ns.getD 0 0)) (ns.getD 2 0)) := by unfold gateI; rw [if_neg n_cn, if_pos rfl]
theorem gi_fold {x : Str} (hn : x ≠ "not") (hc : x ≠ "choose") (o : Int) (ns : List Int) : gateI o x ns = ns.foldl (fun a b => if x = "and" then Builtin.bitAnd a b else if x = "or" then Builtin.bitOr a b else Builtin.bitXor a b) (if x = "and" ∨ x = "one" then o else 0) := by unfold gateI; rw [if_neg hn, if_neg hc]
theorem legs_not {n : Nat} (h : legsOk "not" n) : n = 1 := by
  rcases h with ⟨h | h | h, l1, l2⟩ | ⟨h, l1⟩ | ⟨h, l1⟩ | ⟨h | h, l1⟩ <;> first | exact l1 | exact absurd h (by decide +kernel)
theorem legs_choose {n : Nat} (h : legsOk "choose" n) : n = 3 := by
  rcases h with ⟨h | h | h, l1, l2⟩ | ⟨h, l1⟩ | ⟨h, l1⟩ | ⟨h | h, l1⟩ <;> first | exact l1 | exact absurd h (by decide +kernel)
theorem in_two (x a b : Str) : inV (.str x) [.str a, .str b] = decide (x = a ∨ x = b) := by
  show ((eqV (.str a) (.str x)) || ((eqV (.str b) (.str x)) || false)) = _
  have e : ∀ y z : Str, eqV (.str y) (.str z) = decide (z = y) := fun y z => by
    show (y == z) = _
    rw [Bool.eq_iff_iff, beq_iff_eq, decide_eq_true_eq]
    exact eq_comm
  rw [e, e, Bool.or_false]
  by_cases q : x = a <;> by_cases q2 : x = b <;> simp [q, q2]
end My
namespace L2
open PySem PySem.Spec PyProof.Rows
noncomputable def strsLook : List Str → List Value → Bool
  | [], [] => true
  | x :: xs, .str y _ :: vs => x == y && strsLook xs vs
  | _, _ => false
noncomputable def TupK (K : PySem.W.Frag) (a : Addr) (xs : List Str) : Prop := (match K.lookup a with
  | some o => (o.cls == .type "tuple" && o.dict.isNone) && (match o.data with
    | .seq vs _ => strsLook xs vs.toList
    | _ => false)
  | none => false) = true
theorem strs_vals : ∀ {xs : List Str} {vs : List Value}, strsLook xs vs = true → Vals (xs.map V.str) vs
  | [], [], _ => .nil
  | x :: xs, v :: vs, h => by
    cases v with
    | str y t =>
      have h' : (x == y && strsLook xs vs) = true := h
      rw [Bool.and_eq_true] at h'
      have e : x = y := eq_of_beq h'.1
      subst e
      exact .cons ⟨t, rfl⟩ (strs_vals h'.2)
    | _ => simp [strsLook] at h
  | [], _ :: _, h => by simp [strsLook] at h
  | _ :: _, [], h => by simp [strsLook] at h
theorem TupK.sq {K : PySem.W.Frag} {H : Hp} {a : Addr} {xs : List Str} (h : TupK K a xs) (hz : xs.length ≤ 1000) : SqT K H a (xs.map V.str) := by
  unfold TupK at h
  cases e : K.lookup a with
  | none => rw [e] at h; cases h
  | some o =>
    rw [e] at h
    simp only [Bool.and_eq_true] at h
    obtain ⟨⟨h1, _⟩, h2⟩ := h
    cases ed : o.data with
    | seq vs n =>
      rw [ed] at h2
      have rv := strs_vals h2
      have lv := rv.length
      rw [List.length_map] at lv
      have lz : vs.size = xs.length := by rw [lv, Array.length_toList]
      have line : (1000 : Nat) ≤ sizeLine := by decide
      exact .inr ⟨o, vs, n, e, beq_iff_eq.mp h1, ed, by omega, rv⟩
    | _ => rw [ed] at h2; cases h2
theorem TupK.plain {K : PySem.W.Frag} {a : Addr} {xs : List Str} (h : TupK K a xs) : ∃ o, K.lookup a = some o ∧ o.cls = .type "tuple" ∧ o.dict = none := by
  unfold TupK at h
  cases e : K.lookup a with
  | none => rw [e] at h; cases h
  | some o =>
    rw [e] at h
    simp only [Bool.and_eq_true] at h
    exact ⟨o, rfl, beq_iff_eq.mp h.1.1, Option.isNone_iff_eq_none.mp h.1.2⟩
end L2
namespace L2
open PySem PySem.Spec PyProof.Rows
section
variable {X : Cx} {o e : Expr} {apos cpos : Pos} {td ty : TE}
end
section
variable {X : Cx} {e : Expr} {te : TE} {p p' pos pos' : Pos}
end
end L2
namespace L2
open PySem PySem.Spec PyProof.Rows
open PySem.W (Dat kqdP kqdPs kqdOk)
section
variable {X : Cx}
open Classical in
end
section
variable {X : Cx} {K : PySem.W.Frag}
end
end L2
namespace My
open PySem L2
end My
namespace My
open PySem L2
end My
namespace L2
open PySem PySem.Spec PyProof.Rows
end L2
namespace L2
open PySem PySem.Spec PyProof.Rows
noncomputable def EntD (h : Heap) (d : Addr) (es : Array DictEntry) (ep : Nat) : Prop := ∃ ob, h.get? d = some ob ∧ ob.ExactDict ∧ ob.data = .dict es ep
section
variable {prog : Program} {w : World} {A : Around} {E : Value → Shared → Prop} {s : Shared}
end
section
variable {g : TG} {tt : TT} {te : TE} {n0 : Nat} {cap : List Nat} {σ : St} {Q : VK} {D : Addr} {H1 : Hp}
end
end L2
namespace L2
open PySem PySem.Spec PyProof.Rows
end L2
namespace L2
open PySem PySem.Spec PyProof.Rows
theorem RdT.tup {K : PySem.W.Frag} {H : Hp} {c : Addr} {xs : List V} (q : RdT H c xs) : SqT K H c xs := .inl q
section
variable {prog : Program} {w : World} {A : Around} {E : Value → Shared → Prop} {s : Shared} {Ky : Type} [DecidableEq Ky] {knd : HeapKind prog w Ky}
end
end L2
namespace L2
open PySem PySem.Spec PyProof.Rows
section
variable {prog : Program} {w : World} {A : Around} {E : Value → Shared → Prop} {s : Shared}
theorem EntD.at {h h' : Heap} {d : Addr} {es : Array DictEntry} {ep : Nat} (x : EntD h d es ep) (k : ∀ o, h.get? d = some o → h'.get? d = some o) : EntD h' d es ep := let ⟨o, e, r⟩ := x; ⟨o, k o e, r⟩
end
end L2
namespace L2
open PySem PySem.Spec PyProof.Rows
section
variable {prog : Program} {w : World} {A : Around} {E : Value → Shared → Prop} {s : Shared}
end
section
variable {X : Cx} {o : Expr} {td : TE} {p ap cp pos : Pos}
end
section
variable {g : TG} {tt : TT} {te : TE} {n0 : Nat} {cap : List Nat} {σ : St} {Q : VK} {D : Addr} {H1 : Hp}
end
end L2
namespace L2
open PySem PySem.Spec PyProof.Rows
open PySem.W (Dat kqdP kqdPs kqdOk)
section
variable {X : Cx}
open Classical in
end
end L2
namespace L2
open PySem PySem.Spec PyProof.Rows
section
variable {prog : Program} {w : World} {A : Around} {E : Value → Shared → Prop} {s : Shared}
end
section
variable {X : Cx}
end
end L2
namespace L2
open PySem
end L2
namespace L2
open PySem PySem.Spec PyProof.Rows
section
variable {X : Cx}
end
end L2
namespace L2
open PySem PySem.Spec PyProof.Rows
section
variable {prog : Program} {w : World} {A : Around} {E : Value → Shared → Prop} {s : Shared}
end
end L2
namespace L2
open PySem PySem.Spec PyProof.Rows
section
variable {prog : Program} {w : World} {A : Around} {E : Value → Shared → Prop} {s : Shared}
end
end L2
namespace L2
open PySem PySem.Spec PyProof.Rows
section
variable {prog : Program} {w : World} {A : Around} {E : Value → Shared → Prop} {s : Shared}
noncomputable def TAt (h : Heap) (it t : Addr) (i : Nat) (xs : Array Value) : Prop := IsTupIter h it t i ∧ IsTup h t xs
theorem TAt.keep {h h' : Heap} {it t : Addr} {i : Nat} {xs : Array Value} (x : TAt h it t i xs) (k1 : ∀ o, h.get? it = some o → h'.get? it = some o) (k2 : ∀ o, h.get? t = some o → h'.get? t = some o) : TAt h' it t i xs := by
  obtain ⟨⟨o, a, b⟩, o2, c, d⟩ := x
  exact ⟨⟨o, k1 _ a, b⟩, o2, k2 _ c, d⟩
end
section
variable {prog : Program} {w : World} {A : Around} {E : Value → Shared → Prop} {s : Shared}
end
end L2
namespace L2
open PySem
end L2
namespace L2
open PySem PySem.Spec PyProof.Rows
section
variable {X : Cx}
end
end L2
namespace L2
open PySem PySem.Spec PyProof.Rows
section
variable {X : Cx} {tg : Expr}
end
section
end
section
variable {prog : Program} {w : World} {A : Around} {E : Value → Shared → Prop} {s : Shared}
end
end L2
namespace L2
open PySem PySem.Spec PyProof.Rows
section
variable {X : Cx} {pins : List (Addr × Obj)} {σ : St} {H1 : Hp} {s1 s' : Shared} {C S : Addr} {nid nid2 : String} {bB bB2 : List Value} {sx n : Str} {np hpos : Pos} {b₀ : Stmt} {suite : List Stmt} {j : Nat} {ts : TS} {D : Ends} {E' : XK} {e : Value}
end
section
variable {X : Cx} {C S f : Addr} {k : Nat} {fd : FuncData} {ps : List Str} {sp : Sp} {dvs : List V} {ds : List Value} {nid nid2 : String} {bB bB2 : List Value} {fx sx n : Str} {p np hpos cpos epos pos : Pos} {b₀ : Stmt} {suite : List Stmt} {j : Nat} {t : TA} {ts : TS} {e : Expr} {es : List Expr}
end
theorem unB {p : Prop} (h : Bx p) : p := h.1
end L2
namespace L2
open PySem PySem.Spec PyProof.Rows
section
variable {X : Cx}
end
end L2
namespace L2
open PySem PySem.Spec PyProof.Rows
theorem TupK.at {K : PySem.W.Frag} {c : Addr} {xs : List Str} (h : TupK K c xs) : ∃ o vs n, K.lookup c = some o ∧ o.cls = .type "tuple" ∧ o.data = .seq vs n ∧ Vals (xs.map V.str) vs.toList := by
  unfold TupK at h
  cases e : K.lookup c with
  | none => rw [e] at h; cases h
  | some o =>
    rw [e] at h
    have h' : ((o.cls == .type "tuple" && o.dict.isNone) && (match o.data with | .seq vs _ => strsLook xs vs.toList | _ => false)) = true := h
    rw [Bool.and_eq_true, Bool.and_eq_true] at h'
    obtain ⟨⟨h1, _⟩, h2⟩ := h'
    cases d : o.data with
    | seq vs n =>
      rw [d] at h2
      exact ⟨o, vs, n, rfl, eq_of_beq h1, d, strs_vals h2⟩
    | _ => rw [d] at h2; cases h2
section
variable {K : PySem.W.Frag} {c : Addr} {xs : List Str}
end
end L2
namespace L2
open PySem PySem.Spec PyProof.Rows
noncomputable def Its (x : Str) : It := ⟨fun i _ => i < x.cps.size, fun i H v H' => H' = H ∧ ∃ c, x.cps[i]? = some c ∧ v = .str ⟨#[c]⟩, fun i _ => x.cps.size ≤ i⟩
theorem turn_str {P : Program} {w : World} {K : PySem.W.Frag} {tg : Expr} (it : Addr) (x : Str) (t : Tok) : Turn P w K tg (Its x) [it] it (fun i h => h.IsStrIter it "str_ascii_iterator" x t i) where
  mem := by simp
  obj := fun i h st b hb => by
    have e : b = it := by simpa using hb
    subst e
    obtain ⟨o, e, c, d⟩ := st
    exact ⟨o, e, fun v z => by rw [d] at z; cases z⟩
  keep := fun i h h' st k => by
    obtain ⟨o, e, c, d⟩ := st
    exact ⟨o, k it (by simp) o e, c, d⟩
  item := by
    intro X hP hw hK hc i pins s σ H E I hf st hg
    subst hP hw hK
    have hx : x.cps[i]? = some x.cps[i] := Array.getElem?_eq_getElem hg
    obtain ⟨f0, f1, f2, f3, f4, f5⟩ := hf it (by simp)
    refine wpAny_pyNext_ascii_item st hx fun h' st' sb => ?_
    have I1 : Inv X pins σ H { s with heap := h', toks := s.toks + 1 } := I.turned (t' := s.toks + 1) (fun b o hb e => (sb.2 b hb).trans e) f0 f1 f3 f4 f5
    obtain ⟨o, e, c, d⟩ := id st'
    exact ⟨_, rfl, go_of (s := { s with heap := h', toks := s.toks + 1 }) e c d (by decide) ⟨.str ⟨#[x.cps[i]]⟩, H, I1, ⟨_, rfl⟩, ⟨rfl, _, hx, rfl⟩, st', fun b hb => (hf b hb).1⟩⟩
  done := by
    intro X hP hw hK hc i pins s σ H E I hf st hg
    subst hP hw hK
    obtain ⟨f0, f1, f2, f3, f4, f5⟩ := hf it (by simp)
    exact wpAny_pyNext_ascii_end (I.ok.hd hc) st (Array.getElem?_eq_none hg) fun h' eb => ⟨rfl, I.turned (t' := s.toks) (fun b o hb e => eb b o hb e) f0 f1 f3 f4 f5⟩
  self := fun _ _ _ _ _ st h => wpAny_pyIter_striter_ascii st h
noncomputable def iStr (te : TE) : TI := fun σ H R => te σ H fun v H1 => ∃ x : Str, v = .str x ∧ x.cps.all (· < 128) = true ∧ R (Its x) H1
theorem pi_str {X : Cx} {tg e : Expr} {te : TE} (he : PE X e te) : PI X tg e (iStr te) := by
  intro pins s σ H R I h
  refine thn (he pins s σ H _ I h) fun v s1 ⟨y, H1, I1, r1, x, ex, ha, q⟩ => ?_
  subst ex
  obtain ⟨t, rfl⟩ := r1
  refine wpAny_pyIter_ascii ha ?_
  refine ⟨s1.heap.objs.size, [s1.heap.objs.size], _, _, H1, rfl, I1.kept (t' := s1.toks) fun b o e => Heap.get?_push_of_some _ e, turn_str _ x t, ⟨_, Heap.get?_push_size _ rfl, rfl, rfl⟩, fun b hb => ?_, q⟩
  have e : b = s1.heap.objs.size := by simpa using hb
  subst e
  exact I1.fpOk (Nat.le_refl _) (I1.hok.fresh (Nat.le_refl _))
theorem bpi_str {X : Cx} {tg e : Expr} {te : TE} (he : Bx (PE X e te)) : Bx (PI X tg e (iStr te)) := ⟨pi_str he.1⟩
theorem for_str {x : Str} {g : TG} {tb : TS} {D : Ends} {σ : St} {H : Hp} (Pv : Nat → St → Hp → Prop) (h0 : Pv 0 σ H)
    (hs : ∀ i c σ H, x.cps.toList[i]? = some c → Pv i σ H → g (.str ⟨#[c]⟩) σ H fun σ2 H2 => tb { D with nx := Pv (i + 1), ct := Pv (i + 1), bk := D.nx } σ2 H2) (hd : ∀ σ H, Pv x.cps.toList.length σ H → D.nx σ H) :
    ∃ W : Nat → Nat → St → Hp → Prop, (∃ m, W 0 m σ H) ∧ ∀ i m σ H, W i m σ H →
      ((Its x).stop i H ∧ D.nx σ H) ∨ ((Its x).go i H ∧ ∃ N : St → Hp → Prop, (∀ σ' H', N σ' H' → ∃ m', m' < m ∧ W (i + 1) m' σ' H') ∧ ∀ y H', (Its x).yld i H y H' → g y σ H' fun σ2 H2 => tb { D with nx := N, ct := N, bk := D.nx } σ2 H2) := by
  have es : x.cps.toList.length = x.cps.size := Array.length_toList
  refine ⟨fun i m σ H => m = x.cps.size - i ∧ i ≤ x.cps.size ∧ Pv i σ H, ⟨x.cps.size, by simp, Nat.zero_le _, h0⟩, ?_⟩
  rintro i m σ H ⟨rfl, hi, p⟩
  by_cases hlt : i < x.cps.size
  · refine .inr ⟨hlt, Pv (i + 1), fun σ' H' p' => ⟨x.cps.size - (i + 1), by omega, rfl, hlt, p'⟩, fun y H' z => ?_⟩
    obtain ⟨e, c, hc, rfl⟩ := z
    subst e
    exact hs i c σ _ (by rw [Array.getElem?_toList]; exact hc) p
  · have e : i = x.cps.size := by omega
    subst e
    exact .inl ⟨Nat.le_refl _, hd σ H (by rw [es]; exact p)⟩
theorem vals_strs : ∀ {zs : List Str} {us : List Value}, Vals (zs.map V.str) us → ∃ l : List (Str × Tok), us = strValues l ∧ l.map (·.1) = zs
  | [], us, h => by
    cases h
    exact ⟨[], rfl, rfl⟩
  | z :: zs, us, h => by
    cases h with
    | cons r t =>
      obtain ⟨tk, rfl⟩ := r
      obtain ⟨l, rfl, rfl⟩ := vals_strs t
      exact ⟨(z, tk) :: l, rfl, rfl⟩
theorem strs_from : ∀ (zs : List Str) (k : Nat), Vals (zs.map V.str) (strsFrom k zs)
  | [], _ => .nil
  | _ :: zs, k => .cons ⟨_, rfl⟩ (strs_from zs (k + 1))
noncomputable def rJoin : V → List V → Hp → VK → Prop := fun x vs H Q => ∃ (sep : Str) (l : Addr) (zs : List Str), x = .str sep ∧ vs = [.ref l] ∧ H l = some (.lst (zs.map V.str)) ∧ 1 ≤ zs.length ∧ (zs.map (·.length)).sum + zs.length * sep.length ≤ 100000 ∧ Q (.str (Str.join sep zs)) H
theorem mt_join {X : Cx} : MtR X "str.join" rJoin := by
  intro pins s σ H x vs v us Q I rx rv h
  obtain ⟨sep, l, zs, rfl, rfl, hH, h2, hz, q⟩ := h
  obtain ⟨tk, rfl⟩ := rx
  obtain ⟨u, rfl, ru⟩ := rv.one
  cases ru
  obtain ⟨z, its, n, r, hl, e⟩ := I.lstM hH
  obtain ⟨ps, rfl, ez⟩ := vals_strs r
  have tl : Builtin.Str.tooLong ((ps.map (·.1)).toArray.foldl (· + ·.length + sep.length) 0) = false := by
    rw [StrLaws.joinTotal, ez]
    have : sizeLine = 16777216 := by decide
    unfold Builtin.Str.tooLong
    rw [decide_eq_false (by omega)]
  refine call_meets F.slot_str_join (typeIs_str s sep tk) F.entry_str_join (F.args_str_join_2 _ _) (meets_str_join_list sep tk l ps tl) ⟨⟨_, e, rfl, n, rfl⟩, ?_⟩
  have lp : ps.length = zs.length := by rw [← ez, List.length_map]
  match ps, lp, ez with
  | p1 :: p2 :: ps, _, ez =>
    show (Made.str (Builtin.Str.glued sep ((p1 :: p2 :: ps).map (·.1)))).post _ s
    rw [ez, StrLaws.glued_eq_join]
    refine ⟨?_, ⟨.str _, H, I.tok _, ⟨_, rfl⟩, q⟩⟩
    have := StrLaws.join_length_le sep zs
    have sl : sizeLine = 16777216 := by decide
    omega
  | [], h, _ => exact absurd h2 (by rw [← h]; decide)
  | [p1], _, ez =>
    rw [← ez] at q
    exact ⟨.str p1.1, H, I, ⟨_, rfl⟩, q⟩
theorem parts_none (z : Str) (k : Nat) : Builtin.Str.partsBetween z [] k = [z] := by
  show [Builtin.Str.strSub z 0 z.length] = [z]
  congr 1
  cases z with
  | mk a => simp [Builtin.Str.strSub, Str.length]
noncomputable def rSplit : V → List V → Hp → VK → Prop := fun x vs H Q => ∃ (z y : Str), x = .str z ∧ vs = [.str y] ∧ (decide (z.length < y.length) || decide (Builtin.Str.strKind z < Builtin.Str.strKind y)) = false ∧ (y.length == 0) = false ∧ z.length ≤ 100000 ∧
  ∀ D, H D = none → Q (.ref D) (upd H D (.lst ((Builtin.Str.partsBetween z (Builtin.Str.occurrences z y 0 z.length (z.length + 1)) y.length).map V.str)))
theorem mt_split {X : Cx} : MtR X "str.split" rSplit := by
  intro pins s σ H x vs v us Q I rx rv h
  obtain ⟨z, y, rfl, rfl, h1, hy, hz, q⟩ := h
  obtain ⟨tk, rfl⟩ := rx
  obtain ⟨u, rfl, ru⟩ := rv.one
  obtain ⟨tu, rfl⟩ := ru
  have sl : sizeLine = 16777216 := by decide
  have hn : (Builtin.Str.partsBetween z (Builtin.Str.occurrences z y 0 z.length (z.length + 1)) y.length).length ≤ sizeLine := by
    rw [length_partsBetween]
    have := StrLaws.occ_length_le z y 0 z.length (z.length + 1)
    omega
  cases hf : (Builtin.Str.occurrences z y 0 z.length (z.length + 1)).isEmpty with
  | true =>
    have e0 : Builtin.Str.occurrences z y 0 z.length (z.length + 1) = [] := List.isEmpty_iff.mp hf
    rw [e0, parts_none] at q
    refine call_meets F.slot_str_split (typeIs_str s z tk) F.entry_str_split (F.args_str_split_2 _ _) (meets_str_split_not_found z y tk tu h1 hy hf) ?_
    refine ⟨.ref s.heap.objs.size, _, I.laid (t' := s.toks) (fun b u e => Heap.get?_push_of_some _ e) (Nat.le_refl _) ?_, rfl, q _ (I.hok.fresh (Nat.le_refl _))⟩
    exact ⟨(by show 1 ≤ sizeLine; decide), _, 0, .cons ⟨_, rfl⟩ .nil, Heap.get?_push_size _ rfl⟩
  | false =>
  refine call_meets F.slot_str_split (typeIs_str s z tk) F.entry_str_split (F.args_str_split_2 _ _) (meets_str_split_sep z y tk tu h1 hy hf (by omega) hn) ?_
  refine ⟨.ref s.heap.objs.size, _, I.laid (fun b u e => Heap.get?_push_of_some _ e) (Nat.le_refl _) ?_, rfl, q _ (I.hok.fresh (Nat.le_refl _))⟩
  exact ⟨by rw [List.length_map]; exact hn, _, 0, strs_from _ _, Heap.get?_push_size _ rfl⟩
theorem mt_index {X : Cx} : MtR X "str.index" (fun x vs H Q => ∃ (z y : Str) (i : Nat) (rest : List Nat), x = .str z ∧ vs = [.str y] ∧ Builtin.Str.occurrences z y 0 z.length 1 = i :: rest ∧ Q (.int (i : Int)) H) := by
  intro pins s σ H x vs v us Q I rx rv h
  obtain ⟨z, y, i, rest, rfl, rfl, h1, q⟩ := h
  obtain ⟨tk, rfl⟩ := rx
  obtain ⟨u, rfl, ru⟩ := rv.one
  obtain ⟨tu, rfl⟩ := ru
  refine call_gives F.slot_str_index (typeIs_str s z tk) F.entry_str_index (F.args_str_index_2 _ _) (gives_str_index z y tk tu i rest h1) ⟨.int _, H, I.tok _, ⟨_, rfl⟩, q⟩
end L2
namespace L2
open PySem PySem.Spec PyProof.Rows
end L2
namespace My
open PySem L2
open PySem.Builtin.Str (occurrences partsBetween strSub subAt)
noncomputable def joinL (c : Nat) : List (List Nat) → List Nat
  | [] => []
  | [p] => p
  | p :: q :: r => p ++ c :: joinL c (q :: r)
theorem occ_loop (z : Str) (c lim : Nat) : ∀ (k a : Nat) (st : Array Nat × Nat), st.2 ≤ a → st.1.size + k ≤ lim →
    (forIn (List.range' a k) st (StrLaws.occBody z ⟨#[c]⟩ z.length lim)).run.fst.toList = st.1.toList ++ (List.range' a k).filter fun i => decide (z.cps.toList[i]? = some c)
  | 0, a, st, _, _ => by simp
  | k + 1, a, st, hf, hs => by
    rw [List.range'_succ, List.forIn_cons]
    unfold StrLaws.occBody
    have key := StrLaws.subAt_one z c a
    by_cases h : z.cps.toList[a]? = some c
    · obtain ⟨h1, h2⟩ := key.mpr h
      rw [if_pos ⟨⟨⟨by omega, hf⟩, h1⟩, h2⟩, List.filter_cons_of_pos (by simpa using h)]
      have := occ_loop z c lim k (a + 1) (st.1.push a, a + 1) (Nat.le_refl _) (by simp; omega)
      refine Eq.trans this ?_
      simp
    · rw [if_neg (fun hc => h (key.mp ⟨hc.1.2, hc.2⟩)), List.filter_cons_of_neg (by simpa using h)]
      exact occ_loop z c lim k (a + 1) st (by omega) (by omega)
theorem occ_all (z : Str) (c : Nat) : occurrences z ⟨#[c]⟩ 0 z.length (z.length + 1) = (List.range' 0 (z.length + 1)).filter fun i => decide (z.cps.toList[i]? = some c) := by
  rw [StrLaws.occ_eq]
  have := occ_loop z c (z.length + 1) (z.length + 1) 0 (#[], 0) (Nat.le_refl _) (by simp)
  simpa using this
theorem strSub_at {z : Str} {pre p rest : List Nat} (e : z.cps.toList = pre ++ p ++ rest) : strSub z pre.length (pre.length + p.length) = ⟨p.toArray⟩ := by
  have h := StrLaws.strSub_toList z pre.length (pre.length + p.length)
  rw [e, List.append_assoc, List.drop_left, Nat.add_sub_cancel_left, List.take_left] at h
  cases hs : strSub z pre.length (pre.length + p.length) with
  | mk a =>
    rw [hs] at h
    congr 1
    exact Array.toList_inj.mp (by simpa using h)
theorem filter_none {c : Nat} {L pre p rest : List Nat} (e : L = pre ++ p ++ rest) (hp : c ∉ p) : (List.range' pre.length p.length).filter (fun i => decide (L[i]? = some c)) = [] := by
  refine List.filter_eq_nil_iff.mpr fun i hi => ?_
  have hr := List.mem_range'_1.mp hi
  rw [decide_eq_true_eq, e, List.append_assoc, List.getElem?_append_right (by omega), List.getElem?_append_left (by omega)]
  exact fun z => hp (List.mem_of_getElem? z)
theorem parts_from {z : Str} {c : Nat} : ∀ (parts : List (List Nat)) (pre : List Nat), parts ≠ [] → (∀ p ∈ parts, c ∉ p) → z.cps.toList = pre ++ joinL c parts →
    StrLaws.partsFrom z 1 pre.length ((List.range' pre.length (z.length + 1 - pre.length)).filter fun i => decide (z.cps.toList[i]? = some c)) = parts.map fun p => ⟨p.toArray⟩
  | [], _, h, _, _ => absurd rfl h
  | [p], pre, _, hc, e => by
    have e' : z.cps.toList = pre ++ p ++ [] := by rw [List.append_nil]; exact e
    have hl : z.length = pre.length + p.length := by
      have := congrArg List.length e
      rw [List.length_append] at this
      exact this
    rw [hl, show pre.length + p.length + 1 - pre.length = p.length + 1 by omega, List.range'_1_concat, List.filter_append, filter_none e' (hc p (.head _))]
    rw [List.filter_cons_of_neg (by
      rw [decide_eq_true_eq, List.getElem?_eq_none (by rw [e', List.append_nil, List.length_append]; exact Nat.le_refl _)]
      exact fun z => nomatch z)]
    show [strSub z pre.length z.length] = [_]
    rw [hl, strSub_at e']
  | p :: q :: r, pre, _, hc, e => by
    have e1 : z.cps.toList = pre ++ p ++ (c :: joinL c (q :: r)) := by rw [e, List.append_assoc]; rfl
    have e2 : z.cps.toList = (pre ++ p ++ [c]) ++ joinL c (q :: r) := by rw [e1, List.append_assoc (pre ++ p)]; rfl
    have l2 : (pre ++ p ++ [c]).length = pre.length + p.length + 1 := by rw [List.length_append, List.length_append]; rfl
    have hl : pre.length + p.length + 1 ≤ z.length := by
      have := congrArg List.length e2
      rw [List.length_append, l2] at this
      have h2 : z.cps.toList.length = z.length := rfl
      omega
    have ih := parts_from (q :: r) (pre ++ p ++ [c]) (fun h => nomatch h) (fun s hs => hc s (.tail _ hs)) e2
    rw [l2] at ih
    have split : List.range' pre.length (z.length + 1 - pre.length) = List.range' pre.length p.length ++ (pre.length + p.length) :: List.range' (pre.length + p.length + 1) (z.length + 1 - (pre.length + p.length + 1)) := by
      rw [show z.length + 1 - pre.length = p.length + (z.length + 1 - (pre.length + p.length + 1) + 1) by omega, ← List.range'_append_1, List.range'_succ]
    rw [split, List.filter_append, filter_none e1 (hc p (.head _)), List.filter_cons_of_pos (by
      rw [decide_eq_true_eq, e1, List.getElem?_append_right (by rw [List.length_append]; exact Nat.le_refl _), List.length_append, Nat.sub_self]
      rfl)]
    show strSub z pre.length (pre.length + p.length) :: StrLaws.partsFrom z 1 (pre.length + p.length + 1) _ = _
    rw [ih, strSub_at e1]
    rfl
theorem split_parts {z : Str} {c : Nat} {parts : List (List Nat)} (h : parts ≠ []) (hc : ∀ p ∈ parts, c ∉ p) (e : z.cps.toList = joinL c parts) :
    partsBetween z (occurrences z ⟨#[c]⟩ 0 z.length (z.length + 1)) (⟨#[c]⟩ : Str).length = parts.map fun p => ⟨p.toArray⟩ := by
  rw [occ_all, StrLaws.partsBetween_eq]
  exact parts_from parts [] h hc e
noncomputable def digs (n : Nat) : List Nat := (Nat.toDigits 10 n).map Char.toNat
theorem digit_nat {d : Nat} (h : d < 10) : (Nat.digitChar d).toNat = 48 + d := by
  match d, h with
  | 0, _ | 1, _ | 2, _ | 3, _ | 4, _ | 5, _ | 6, _ | 7, _ | 8, _ | 9, _ => rfl
theorem digs_step (n : Nat) : digs n = if n < 10 then [48 + n] else digs (n / 10) ++ [48 + n % 10] := by
  unfold digs
  by_cases h : n < 10
  · rw [if_pos h, Nat.toDigits_of_lt_base h, List.map_singleton, digit_nat h]
  · rw [if_neg h, Nat.toDigits_of_base_le (by decide) (by omega), List.map_append, List.map_singleton, digit_nat (Nat.mod_lt _ (by decide))]
theorem digs_ne (n : Nat) : digs n ≠ [] := by
  rw [digs_step]
  split <;> simp
theorem digs_in (n : Nat) : ∀ c ∈ digs n, 48 ≤ c ∧ c < 58 := by
  induction n using Nat.strongRecOn with
  | _ n ih =>
    rw [digs_step]
    split
    · intro c hc
      rw [List.mem_singleton.mp hc]
      omega
    · intro c hc
      rcases List.mem_append.mp hc with hc | hc
      · exact ih (n / 10) (by omega) c hc
      · rw [List.mem_singleton.mp hc]
        omega
noncomputable def readN (l : List Nat) : Nat := l.foldl (fun a c => a * 10 + (c - 48)) 0
theorem readN_snoc (l : List Nat) (c : Nat) : readN (l ++ [c]) = readN l * 10 + (c - 48) := by
  unfold readN
  rw [List.foldl_append]
  rfl
theorem read_digs (n : Nat) : readN (digs n) = n := by
  induction n using Nat.strongRecOn with
  | _ n ih =>
    rw [digs_step]
    split
    · show 0 * 10 + (48 + n - 48) = n
      omega
    · rw [readN_snoc, ih (n / 10) (by omega)]
      omega
theorem digs_first (n : Nat) : ∀ r, digs n = 48 :: r → r = [] := by
  induction n using Nat.strongRecOn with
  | _ n ih =>
    intro r e
    rw [digs_step] at e
    split at e
    · injection e with _ e
      exact e.symm
    · cases h : digs (n / 10) with
      | nil => exact absurd h (digs_ne _)
      | cons x l =>
        rw [h] at e
        injection e with e1 e2
        subst e1
        have l0 := ih (n / 10) (by omega) l h
        subst l0
        have := read_digs (n / 10)
        rw [h] at this
        have : n / 10 = 0 := this.symm
        omega
theorem digs_len (n : Nat) (k : Nat) : n < 10 ^ k → 1 ≤ k → (digs n).length ≤ k := by
  induction k generalizing n with
  | zero => intro _ h; exact absurd h (by decide)
  | succ k ih =>
    intro h _
    rw [digs_step]
    split
    · exact Nat.le_add_left _ _
    · rw [List.length_append, List.length_singleton]
      have h1 : n / 10 < 10 ^ k := by
        rw [Nat.pow_succ] at h
        omega
      have hk : 1 ≤ k := by
        rcases Nat.eq_zero_or_pos k with h0 | h0
        · subst h0
          have : n / 10 < 1 := h1
          omega
        · exact h0
      have := ih (n / 10) h1 hk
      omega
theorem str_digs (n : Nat) : (Str.ofString (toString (n : Int))).cps.toList = digs n := by
  have e : toString (n : Int) = String.ofList (Nat.toDigits 10 n) := by
    show (n : Int).repr = _
    rw [← Nat.repr_eq_ofList_toDigits]
    rfl
  rw [e, Str.ofString_eq_toList]
  simp [digs]
end My
namespace L2
open PySem PySem.Spec PyProof.Rows
theorem note_same {e : Value} {a b : Env} (h : a.frame = b.frame) : noteFrame e a = noteFrame e b := by
  unfold noteFrame PySem.frameOf
  rw [h]
noncomputable def afterC (X : Cx) (c : Env) (x : Value) (s1 : Shared) : Prop := ∃ m, s1.heap.Ns c.locals m ∧ ∀ h', Heap.SameBut c.locals s1.heap h' →
  wpAny (model X.prog X.w) X.A (passOn "comprehension.variables-let-go" x c : Sem Value) (fun _ _ => False) X.xe { s1 with heap := h' }
noncomputable def postC (X : Cx) (QQ : Value → Shared → Prop) (acc : Value) (c : Env) : Result → Shared → Prop
  | .ok _, s1 => ∃ m, s1.heap.Ns c.locals m ∧ ∀ h', Heap.SameBut c.locals s1.heap h' → QQ acc { s1 with heap := h' }
  | .error x, s1 => afterC X c x s1
theorem compr_own {X : Cx} {s : Shared} {e : Expr} {scope : Scope} {pos : Pos} {mk first : Sem Value} {g : Comprehension} {gs : List Comprehension} {cl : List (Str × Addr)} {QQ : Value → Shared → Prop}
    (ec : clausesOf e = g :: gs) (es : ∀ x, foldedSetIterable g.iter X.env x = pure x) (el : closureFor scope X.env = pure cl) (ek : scope.kind = .function) (en : ∀ y ∈ scope.names, y.2 = .local → scope.names.lookup y.1 = some .local)
    (h : wpAny (model X.prog X.w) X.A first (fun x s1 => wpAny (model X.prog X.w) X.A (pyIter x) (fun it s2 => wpAny (model X.prog X.w) X.A mk (fun acc s3 =>
      wpAny (model X.prog X.w) X.A (newFunctionEnv scope X.env.globals cl [] X.env.qual none .none (some X.env)) (fun c s4 =>
        codeAny (model X.prog X.w) X.A (.compStart e 0 it acc { c with scope := relabel scope X.env }) (postC X QQ acc { c with scope := relabel scope X.env }) s4) X.xe s3) X.xe s2) X.xe s1) X.xe s) :
    wpAny (model X.prog X.w) X.A (comprehension e scope X.env pos mk false first) QQ X.xe s := by
  unfold comprehension
  rw [el, ec]
  refine wpAny_bind (thn h fun x s1 h1 => wpAny_bind (wpAny_standAt (wpAny_bind (wpAny_of_eq (es x) (wpAny_bind (wpAny_holding (thn h1 fun it s2 h2 => ?_)))))))
  refine wpAny_standIf (wpAny_bind (thn h2 fun acc s3 h3 => wpAny_bind (wpAny_pure (wpAny_bind (thn h3 fun c s4 h4 => ?_)))))
  dsimp only
  have kv : ∀ y ∈ (scope.names.filter fun y => (y.2 == .local || y.2 == .cell) && y.1 != (".0" : Str)).reverse, y.2 = .local →
      Env.kindOf { c with scope := relabel scope X.env } y.1 = some .local := fun y hy hl => lookup_relabel_local (en y (List.mem_filter.mp (List.mem_reverse.mp hy)).1 hl)
  refine wpAny_holding (wpAny_bind (wpAny_attempt (wpAny_holding (wpAny_run (codeAny_mono h4 fun r s5 hr => ?_)))))
  cases r with
  | ok f =>
    obtain ⟨m, hn, hq⟩ := hr
    exact wpAny_bind (wpAny_holding (wpAny_comp_letGo (cenv := { c with scope := relabel scope X.env }) ek _ s5 m kv hn fun h' _ _ sb => wpAny_pure (hq h' sb)))
  | error x =>
    obtain ⟨m, hn, hq⟩ := hr
    exact wpAny_bind (wpAny_holding (wpAny_comp_letGo (cenv := { c with scope := relabel scope X.env }) ek _ s5 m kv hn fun h' _ _ sb => wpAny_mono (hq h' sb) (fun _ _ z => z.elim) fun _ _ z => z))
noncomputable abbrev cxCompX (X : Cx) (N : List Str) (scope : Scope) (cl : List (Str × Addr)) (fp : List Addr) (s : Shared) (H : Hp) : Cx :=
  (cxComp X N scope cl fp s H).wish (notedBy (model X.prog X.w) X.A (compEnvC scope cl s.heap.objs.size X.env) (afterC X (compEnvC scope cl s.heap.objs.size X.env)))
noncomputable def OutC (X : Cx) (fp : List Addr) (s : Shared) (H : Hp) : Prop := ∃ pins σ, Inv X pins σ H s ∧ ∀ b ∈ fp, FpOk X pins H b
theorem comp_loopX {prog : Program} {w : World} {A : Around} {R : Result → Shared → Prop} {s : Shared}
    {elt tg iter : Expr} {ifs : List Expr} {scope : Scope} {pos : Pos} {it acc : Value} {env : Env}
    (I : Nat → Shared → Prop)
    (turn : ∀ n s, I n s → wpAny (model prog w) A (pyNext it)
      (fun r s1 => match r with
        | none => R (.ok .next) s1
        | some v => wpAny (model prog w) A (letOwnedTupleGo tg it v) (fun _ s2 =>
            wpAny (model prog w) A (assign tg env v) (fun _ s3 =>
            wpAny (model prog w) A
              (forIn ifs true fun c r => if r = true then do
                  let ok ← isTrue c env (eval c env)
                  pure (ForInStep.yield ok)
                else pure (ForInStep.yield r))
              (fun ok s4 => if ok = true then
                  wpAny (model prog w) A (eval elt env) (fun x s5 =>
                    wpAny (model prog w) A (call (.builtin "list.append") [acc, x])
                      (fun _ s6 => ∃ m, m < n ∧ I m s6) (notedBy (model prog w) A env fun x s1 => R (.error x) s1) s5) (notedBy (model prog w) A env fun x s1 => R (.error x) s1) s4
                else ∃ m, m < n ∧ I m s4) (notedBy (model prog w) A env fun x s1 => R (.error x) s1) s3) (notedBy (model prog w) A env fun x s1 => R (.error x) s1) s2)
            (notedBy (model prog w) A env fun x s1 => R (.error x) s1) s1)
      (notedBy (model prog w) A env fun x s1 => R (.error x) s1) s)
    (n : Nat) (h : I n s) :
    codeAny (model prog w) A (.compLoop (.ListComp elt [⟨tg, iter, ifs, 0⟩] scope pos) 0 it acc env) R s := by
  refine codeAny_loop rfl I (fun n s hI => ?_) n h
  show wpAny _ A ((compTurn _ 0 it acc env).onRaise (fun x => do noteFrame x env; theTreesLotGoes x)) _ _ s
  refine wpAny_noted (E := fun e s' => R (.error e) s') ?_
  rw [compTurn_list]
  refine wpAny_bind (wpAny_standAt (wpAny_bind (wpAny_mono (turn n s hI) (fun r s1 h1 => ?_) fun _ _ z => z)))
  cases r with
  | none => exact wpAny_pure h1
  | some v =>
    refine wpAny_bind (wpAny_mono h1 (fun _ s2 h2 => wpAny_bind (wpAny_mono h2 (fun _ s3 h3 =>
      wpAny_bind (wpAny_mono h3 (fun ok s4 h4 => ?_) fun _ _ z => z)) fun _ _ z => z)) fun _ _ z => z)
    cases ok with
    | false => exact wpAny_pure ⟨rfl, h4⟩
    | true =>
      exact wpAny_bind (wpAny_bind (wpAny_mono h4 (fun x s5 h5 => wpAny_bind (wpAny_mono h5
        (fun _ s6 h6 => wpAny_pure (wpAny_pure ⟨rfl, h6⟩)) fun _ _ z => z)) fun _ _ z => z))

theorem comp_coreX {X : Cx} {elt tg iter : Expr} {ifs : List Expr} {scope : Scope} {pos : Pos} {N : List Str} {n : Nat} {cap : List Nat} {g : TG} {tt : TT} {te : TE}
    {cl : List (Str × Addr)} {E : Value → Shared → Prop} {QQ : Value → Shared → Prop}
    (hc : X.calm = true) (B : Blk X scope N n cap) (c1 : ∀ x c, cl.lookup x = some c → X.env.cells.lookup x = some c) (c2 : ∀ y ∈ scope.names, y.2 = .free → ∃ c, cl.lookup y.1 = some c)
    (hk : KeepG n g) (hg : ∀ cl fp s H, PG (cxCompX X N scope cl fp s H) tg g) (ht : ∀ cl fp s H, PTs (cxCompX X N scope cl fp s H) ifs tt) (he : ∀ cl fp s H, OutC X fp s H → PE (cxCompX X N scope cl fp s H) elt te)
    {pins : List (Addr × Obj)} {σ : St} {Q : VK} {itv : Value} {s2 : Shared}
    (h : PIE X pins σ tg (fun J H1 => ∀ D, H1 D = none → compRun J D n cap σ g tt te Q H1) itv s2)
    (hRR : ∀ (D C : Addr) (H' : Hp) (s' : Shared) (m : Str → Option Value), Inv X pins σ H' s' → FpOk X pins H' C → s'.heap.Ns C m → Q (.ref D) H' → ∀ h', Heap.SameBut C s'.heap h' → QQ (.ref D) { s' with heap := h' }) :
    wpAny (model X.prog X.w) X.A (newList []) (fun acc s3 =>
      wpAny (model X.prog X.w) X.A (newFunctionEnv scope X.env.globals cl [] X.env.qual none .none (some X.env)) (fun cenv s4 =>
        codeAny (model X.prog X.w) X.A (.compStart (.ListComp elt [⟨tg, iter, ifs, 0⟩] scope pos) 0 itv acc { cenv with scope := relabel scope X.env })
          (postC X QQ acc { cenv with scope := relabel scope X.env }) s4) E s3) E s2 := by
  obtain ⟨it, fp, tn, J, H2, e, I2, T, st2, f2, q2⟩ := h
  subst e
  refine wpAny_newObj_type ?_ (by show 0 ≤ sizeLine; decide)
  have hD : H2 s2.heap.objs.size = none := I2.hok.fresh (Nat.le_refl _)
  obtain ⟨W, ⟨m0, w0⟩, turn⟩ := q2 _ hD
  have I3 : Inv X pins σ (upd H2 s2.heap.objs.size (.lst [])) { s2 with heap := s2.heap.push { cls := .type "list", data := .seq ([] : List Value).toArray }, toks := s2.toks } :=
    I2.lnew .nil (by show 0 ≤ sizeLine; decide)
  have st3 : tn 0 (s2.heap.push { cls := .type "list", data := .seq ([] : List Value).toArray }) := T.keep _ _ _ st2 fun b _ o e => Heap.get?_push_of_some _ e
  have obj2 := T.obj _ _ st2
  have fD : ∀ b ∈ fp, b ≠ s2.heap.objs.size := fun b hb => by
    obtain ⟨o, eo, _⟩ := obj2 b hb
    exact Nat.ne_of_lt (Heap.lt_size eo)
  have f3 : ∀ b ∈ fp, FpOk X pins (upd H2 s2.heap.objs.size (.lst [])) b := fun b hb => ⟨by rw [upd_ne (fD b hb)]; exact (f2 b hb).1, (f2 b hb).2⟩
  have go3 : ∀ (s3 : Shared) (H3 : Hp), Inv X pins σ H3 s3 → tn 0 s3.heap → (∀ b ∈ fp, FpOk X pins H3 b) → W 0 m0 H3 →
      wpAny (model X.prog X.w) X.A (newFunctionEnv scope X.env.globals cl [] X.env.qual none .none (some X.env)) (fun cenv s4 =>
        codeAny (model X.prog X.w) X.A (.compStart (.ListComp elt [⟨tg, iter, ifs, 0⟩] scope pos) 0 (.ref it) (.ref s2.heap.objs.size) { cenv with scope := relabel scope X.env })
          (postC X QQ (.ref s2.heap.objs.size) { cenv with scope := relabel scope X.env }) s4) E s3 := by
    intro s3 H3 I3 st3 f3 w0
    refine wpAny_newFunctionEnv B.cell (fun y hy => nomatch hy) (fun h4 n4 sb4 => ?_) B.kind
    have k4 : ∀ b o, s3.heap.get? b = some o → h4.get? b = some o := fun b o e => sb4.extBut b o (Nat.ne_of_lt (Heap.lt_size e)) (Heap.get?_push_of_some _ e)
    have fl3 : ∀ b ∈ fp, b < s3.heap.objs.size := fun b hb => by
      obtain ⟨o, eo, _⟩ := T.obj _ _ st3 b hb
      exact Heap.lt_size eo
    have I4 : Inv (cxCompX X N scope cl fp s3 H3) [] (blockSt n cap σ) H3 { s3 with heap := h4, toks := s3.toks + ([] : List (Str × Value)).length } :=
      (comp_start I3 B c1 c2 f3 fl3 n4 k4).wish _
    have st4 : tn 0 h4 := T.keep _ _ _ st3 fun b _ o e => k4 b o e
    have stat : ∀ {H' : Hp}, (∀ b ∈ fp, H' b = none) → ∀ b ∈ fp, FpOk (cxCompX X N scope cl fp s3 H3) [] H' b := fun hn b hb => by
      obtain ⟨_, a1, a2, _, a4, _⟩ := f3 b hb
      refine ⟨hn b hb, Nat.ne_of_lt (fl3 b hb), fun z => ?_, .inl hb, fun x c e => a4 x c (c1 x c e), fun p hp => nomatch hp⟩
      rcases List.mem_cons.mp (I3.stkSub b z) with e | e
      · exact a1 e
      · exact a2 e
    have loop : ∀ s5 : Shared, s5 = { s3 with heap := h4, toks := s3.toks + ([] : List (Str × Value)).length } →
        codeAny (model X.prog X.w) X.A (.compLoop (.ListComp elt [⟨tg, iter, ifs, 0⟩] scope pos) 0 (.ref it) (.ref s2.heap.objs.size) (compEnvC scope cl s3.heap.objs.size X.env))
          (postC X QQ (.ref s2.heap.objs.size) (compEnvC scope cl s3.heap.objs.size X.env)) s5 := by
      rintro s5 rfl
      refine comp_loopX (fun k s' => ∃ i H', Inv (cxCompX X N scope cl fp s3 H3) [] (blockSt n cap σ) H' s' ∧ tn i s'.heap ∧ (∀ b ∈ fp, H' b = none) ∧ W i k H') ?_ m0
        ⟨0, H3, I4, st4, fun b hb => (f3 b hb).1, w0⟩
      rintro k s6 ⟨i, H6, I6, st6, fr6, w6⟩
      rcases turn i k H6 w6 with ⟨stop, qn⟩ | ⟨go, N6, hN6, step⟩
      · refine thn (T.done (cxCompX X N scope cl fp s3 H3) rfl rfl rfl hc i [] s6 _ H6 _ I6 (stat fr6) st6 stop) fun r s7 ⟨hr, I7⟩ => ?_
        subst hr
        obtain ⟨J7, C7, m7, n7⟩ := comp_end I3 I7.unwish f3
        exact ⟨m7, n7, hRR _ _ H6 s7 m7 J7 C7 n7 qn⟩
      · refine thn (T.item (cxCompX X N scope cl fp s3 H3) rfl rfl rfl hc i [] s6 _ H6 _ I6 (stat fr6) st6 go) fun r s7 ⟨u, hr, h7⟩ => ?_
        subst hr
        refine thn h7 fun _ s8 ⟨x, H8, I8, r8, y8, st8, fr8⟩ => ?_
        have I8' := I8.pinned (stat fr8) (T.obj _ _ st8)
        refine thn (hg cl fp s3 H3 _ s8 _ H8 x u _ I8' r8 (hk _ _ _ _ (step x H8 y8))) fun _ s9 ⟨σ9, H9, I9, q9, l9, k9⟩ => ?_
        refine thn (ht cl fp s3 H3 _ s9 σ9 H9 _ I9 q9) fun b s10 ⟨H10, I10, q10⟩ => ?_
        have wk : ∀ (z : Nat) v, (blockSt n cap σ)[z]? = some (some v) → σ9[z]? = some (some v) := fun z v e => by
          obtain ⟨kk, j, rfl, _, _⟩ := blk_get e
          rw [k9 _ (Nat.le_add_right _ _)]
          exact e
        have back : ∀ {Ha : Hp} {sa : Shared} {j : Nat}, Inv (cxCompX X N scope cl fp s3 H3) ([] ++ pinsAt fp s8.heap) σ9 Ha sa → W (i + 1) j Ha →
            ∃ i H', Inv (cxCompX X N scope cl fp s3 H3) [] (blockSt n cap σ) H' sa ∧ tn i sa.heap ∧ (∀ b ∈ fp, H' b = none) ∧ W i j H' := fun {Ha sa j} Ia wa => by
          refine ⟨i + 1, Ha, (Ia.unpinned).weak l9.symm wk, T.keep _ _ _ st8 fun b hb o e => (Ia.pin (b, o) (List.mem_append_right _ (List.mem_append_right _ (mem_pinsAt hb e)))).1, fun b hb => ?_, wa⟩
          obtain ⟨o, e, d⟩ := T.obj _ _ st8 b hb
          exact (Ia.pin (b, o) (List.mem_append_right _ (List.mem_append_right _ (mem_pinsAt hb e)))).2.1
        cases b with
        | false =>
          rw [if_neg Bool.false_ne_true] at q10 ⊢
          obtain ⟨m', hm, w'⟩ := hN6 _ q10
          exact ⟨m', hm, back I10 w'⟩
        | true =>
          rw [if_pos rfl] at q10 ⊢
          refine thn (he cl fp s3 H3 ⟨pins, σ, I3, f3⟩ _ s10 σ9 H10 _ I10 q10) fun y s11 ⟨yv, H11, I11, r11, q11⟩ => ?_
          obtain ⟨xs, eD, hl, q11⟩ := q11
          obtain ⟨m', hm, w'⟩ := hN6 _ q11
          refine thn (mt_append _ s11 σ9 H11 (.ref s2.heap.objs.size) [yv] (.ref s2.heap.objs.size) [y] (fun _ Hz => Hz = upd H11 s2.heap.objs.size (.lst (xs ++ [yv]))) I11 rfl (.cons r11 .nil)
            ⟨_, xs, yv, rfl, rfl, eD, hl, rfl⟩) fun _ s12 ⟨_, H12, I12, _, e12⟩ => ?_
          subst e12
          exact ⟨m', hm, back I12 w'⟩
    exact codeAny_compStart_list (loop _ rfl) (T.self _ _ _ _ _ st4 (loop _ rfl))
  exact go3 _ _ I3 st3 f3 w0


section
variable {X : Cx} {elt tg iter : Expr} {ifs : List Expr} {scope : Scope} {pos : Pos} {N : List Str} {n : Nat} {cap : List Nat} {wi : TI} {g : TG} {tt : TT} {te : TE}
theorem pe_compX (hc : X.calm = true) (B : Blk X scope N n cap) (hi : PI X tg iter wi) (hk : KeepG n g)
    (hg : ∀ cl fp s H, PG (cxCompX X N scope cl fp s H) tg g) (ht : ∀ cl fp s H, PTs (cxCompX X N scope cl fp s H) ifs tt) (he : ∀ cl fp s H, OutC X fp s H → PE (cxCompX X N scope cl fp s H) elt te)
    (hs : ∀ x, foldedSetIterable iter X.env x = pure x := by intro _; rfl) : PE X (.ListComp elt [⟨tg, iter, ifs, 0⟩] scope pos) (tComp n cap wi g tt te) := by
  intro pins s σ H Q I h
  obtain ⟨cl, ecl, c1, c2⟩ := closure_ok (scope := scope) (env := X.env) fun y hy k => I.ok.has y.1 (B.free y hy k)
  rw [eval_ListComp]
  refine compr_own rfl hs ecl B.kind B.names ?_
  refine thn (hi pins s σ H _ I h) fun v s1 h1 => thn h1 fun itv s2 h2 => ?_
  refine comp_coreX (QQ := EP X pins σ Q) hc B c1 c2 hk hg ht he h2 fun D C H' s' m J f nn q h' sb => ?_
  exact ⟨.ref D, H', J.turned (t' := s'.toks) (fun b o hb e => sb.extBut b o hb e) f.1 f.2.1 f.2.2.2.1 f.2.2.2.2.1 f.2.2.2.2.2, rfl, q⟩
end
theorem Un.leftX {fs ex : List Addr} {H H' : Hp} {h h' h'' : Heap} (u : Un fs ex H H' h h') (k : ∀ b o ob, b ∉ fs → b ∉ ex → h.get? b = some ob → h'.get? b = some o → h''.get? b = some o)
    (ks : ∀ b o, b ∈ fs → h'.get? b = some o → ∃ sl, h''.get? b = some { o with slots := sl }) : Un fs ex H H' h h'' := by
  refine ⟨fun b o e n hb hx => k b o o hb hx e (u.keep b o e n hb hx), fun b o e n hb hx => ?_, u.free, fun b o e hx => ?_, u.tups, u.frzs, u.tbls⟩
  · obtain ⟨sl, q⟩ := u.slot b o e n hb hx
    obtain ⟨sl', q'⟩ := ks b _ hb q
    exact ⟨sl', q'⟩
  · obtain ⟨o', q⟩ := u.there b o e hx
    by_cases hb : b ∈ fs
    · obtain ⟨sl, q'⟩ := ks b o' hb q
      exact ⟨_, q'⟩
    · exact ⟨o', k b o' o hb hx e q⟩
section
variable {P : Program} {w : World} {K : PySem.W.Frag} {mg : Str → Option Value} {base : Heap} {N : List Str} {qual : Str} {scope : Scope} {f C : Addr} {cd : Value} {A : Around} {outer : List Env} {s : Shared} {H : Hp} {E : XK}
theorem passCompC {N' : List Str} {scope' : Scope} {cl : List (Str × Addr)} {fp : List Addr} {s3 : Shared} {H3 : Hp} (o : OutC (cxOf (CXC P w (.ref C)) P w K mg base N qual scope f cd A outer s H E) fp s3 H3) :
    Passes (CXC P w (.ref C)) (cxCompX (cxOf (CXC P w (.ref C)) P w K mg base N qual scope f cd A outer s H E) N' scope' cl fp s3 H3) E := by
  intro pins σ H1 s1 e s' I cx
  obtain ⟨pins0, σ0, I0, f0⟩ := o
  obtain ⟨x, H', rfl, hos, hb, un, ok, ⟨newx, hx, T, a0, oe, vs, oT, ts, ex, ec, ed, e1, nT, hT, Tx, eT, edT, e3⟩, q⟩ := cx
  have IB := I.call' hos un ok hb (fun b z => absurd z (by simp))
  have u : Un (frs (envOfC qual scope s.heap.objs.size f cd :: outer)) fp H3 H' s3.heap s'.heap := IB.base
  have u1 : Un (frs (envOfC qual scope s.heap.objs.size f cd :: outer)) fp H3 H1 s3.heap s1.heap := I.base
  have fr0 : s1.heap.FunFrames base (envOfC qual scope s.heap.objs.size f cd :: outer) := I.stack
  have frf : ∀ b ∈ frs (envOfC qual scope s.heap.objs.size f cd :: outer), H1 b = none := I.stkFree
  obtain ⟨B, hB⟩ := heap_without s'.heap (x :: T :: s3.heap.objs.size :: frs (envOfC qual scope s.heap.objs.size f cd :: outer))
  have frs' : ∀ b ∈ frs (envOfC qual scope s.heap.objs.size f cd :: outer), H' b = none := IB.stkFree
  have fl : s'.heap.FunFrames B (envOfC qual scope s.heap.objs.size f cd :: outer) :=
    funFrames_of fr0 (fun b z o ho => un.slot b o ho (frf b z) z (by simp)) fun b z => (hB b).1 (.tail _ (.tail _ (.tail _ z)))
  have st : B.StaysIn s'.heap := fun b o hb => by
    by_cases z : b ∈ x :: T :: s3.heap.objs.size :: frs (envOfC qual scope s.heap.objs.size f cd :: outer)
    · rw [(hB b).1 z] at hb; cases hb
    · rw [(hB b).2 z] at hb; exact hb
  show wpAny _ _ (noteFrame (.ref x) (compEnvC scope' cl s3.heap.objs.size (envOfC qual scope s.heap.objs.size f cd))) _ _ s'
  rw [note_same (a := compEnvC scope' cl s3.heap.objs.size (envOfC qual scope s.heap.objs.size f cd)) (b := envOfC qual scope s.heap.objs.size f cd) rfl]
  refine wpAny_noteFrame_onW (base := B) (cls := .ref C) (a0 := a0) I.ok.frames fl rfl ⟨oe, vs, T, oT, ts, ex, ec, ed, e1, (hB T).1 (.tail _ (.head _)), Tx, eT, edT, e3⟩ st ((hB x).1 (.head _)) fun h1 ⟨k1, k2, k3, k4⟩ => ?_
  obtain ⟨m, hn, _⟩ := IB.loc
  have hn1 : h1.Ns s3.heap.objs.size m := Heap.UpToSlots.ns k4 hn
  refine ⟨m, hn1, fun h2 sb => ?_⟩
  have nof : ∀ {b : Addr} {ob : Obj} {ws : Array Value}, h1.get? b = some ob → ob.data = .fields ws → b ≠ s3.heap.objs.size := fun {b ob ws} eb db z => by
    obtain ⟨o2, es, ep, ho, hd, _⟩ := hn1
    rw [← z, eb] at ho
    cases ho
    rw [db] at hd
    cases hd
  have same : ∀ b, b ≠ s3.heap.objs.size → h2.get? b = h1.get? b := fun b hb => sb.2 b hb
  have st2 : B.StaysIn h2 := fun b o eb => by
    rw [same b fun z => by rw [z, (hB _).1 (.tail _ (.tail _ (.head _)))] at eb; cases eb]
    exact k1 b o eb
  have fC : ∀ b ∈ frs (envOfC qual scope s.heap.objs.size f cd :: outer), b ≠ s3.heap.objs.size := fun b z y => by
    obtain ⟨_, o2, h2', _⟩ := I0.stack.mem z
    exact absurd (Heap.lt_size h2') (by rw [y]; exact Nat.lt_irrefl _)
  have fl2 : h2.FunFrames B (envOfC qual scope s.heap.objs.size f cd :: outer) := funFrames_of k2 (fun b z o ho => ⟨o.slots, by rw [same b (fC b z)]; exact ho⟩) fun b z => (hB b).1 (.tail _ (.tail _ (.tail _ z)))
  have tr2 : h2.TracedAtW B x (.ref C) a0 (rawInt s.heap.objs.size) := by
    obtain ⟨oe1, vs1, T1, oT1, ts1, ex1, ec1, ed1, e11, nT1, Tx1, eT1, edT1, e31⟩ := k3
    exact ⟨oe1, vs1, T1, oT1, ts1, by rw [same _ (nof ex1 ed1)]; exact ex1, ec1, ed1, e11, nT1, Tx1, by rw [same _ (nof eT1 edT1)]; exact eT1, edT1, e31⟩
  obtain ⟨oe1, vs1, T1, oT1, ts1, ex1, ec1, ed1, e11, nT1, Tx1, eT1, edT1, e31⟩ := id tr2
  show wpAny _ _ (passOn _ (.ref x) _) _ _ { s' with heap := h2 }
  unfold PySem.passOn
  refine wpAny_bind (wpAny_field ex1 ed1 e11 ?_)
  rw [if_neg (show ¬ ((Value.ref T1 == Value.none) = true) from by simp)]
  have fin : wpAny (model P w) (A.deeper (envOfC qual scope s.heap.objs.size f cd)) (leaving (envOfC qual scope s.heap.objs.size f cd) (.ref x)) (fun _ s'' => CXC P w (.ref C) outer H s E (.ref x) s'') (fun e' s'' => CXC P w (.ref C) outer H s E e' s'') { s' with heap := h2 } := by
    unfold leaving
    refine wpAny_bind (wpAny_noteFrame_againW (L := s.heap.objs.size) rfl tr2 ?_)
    refine wpAny_setFlight_noneW (base := B) (l := envOfC qual scope s.heap.objs.size f cd :: outer) st2 fl2 tr2 fun h3 j1 j2 j3 j4 => ?_
    have k : ∀ b o, b ∉ s3.heap.objs.size :: frs (envOfC qual scope s.heap.objs.size f cd :: outer) → b ≠ x → b ≠ T → s'.heap.get? b = some o → h3.get? b = some o := fun b o n1 n2 n3 eb => j1 b o (by
      rw [(hB b).2 fun z => by
        rcases List.mem_cons.mp z with z | z
        · exact n2 z
        · rcases List.mem_cons.mp z with z | z
          · exact n3 z
          · exact n1 z]
      exact eb)
    have ks : ∀ b o, b ∈ frs (envOfC qual scope s.heap.objs.size f cd :: outer) → s'.heap.get? b = some o → ∃ sl, h3.get? b = some { o with slots := sl } := fun b o z eb => by
      have nf : ∀ ws, o.data ≠ .fields ws := by
        obtain ⟨_, o2, h2', h3'⟩ := fl.mem z
        rw [eb] at h2'
        cases h2'
        exact h3'
      obtain ⟨sl, y⟩ := k4 b o eb nf
      exact ⟨sl, j4 b _ ((same b (fC b z)).trans y) nf⟩
    have un4 : Un (frs (envOfC qual scope s.heap.objs.size f cd :: outer)) fp H3 H' s3.heap h3 := u.leftX (fun b o ob nb nx eb eo => by
      obtain ⟨o1, e1'⟩ := u1.there b ob eb nx
      refine k b o (fun z => ?_) (fun z => ?_) (fun z => ?_) eo
      · rcases List.mem_cons.mp z with z | z
        · exact absurd (Heap.lt_size eb) (by rw [z]; exact Nat.lt_irrefl _)
        · exact nb z
      · rw [z, newx] at e1'; cases e1'
      · rw [z, nT] at e1'; cases e1') ks
    have ok4 : HOk P w H' h3 := ok.left (fun b z => by
      rcases List.mem_cons.mp z with z | z
      · rw [z]; exact IB.free
      · exact frs' b z) hx hT k
    have J := I0.call' (s' := { s' with heap := h3 }) (ch := fp) IB.os un4 ok4 hb fun b z => by
      obtain ⟨_, c1, _, c3, c4, c5⟩ := f0 b z
      exact ⟨c3, c1, c4, c5⟩
    have n0 : ∀ {b : Addr}, s1.heap.get? b = none → s.heap.get? b = none := fun {b} z => by
      cases y : s.heap.get? b with
      | none => rfl
      | some ob =>
        obtain ⟨o', y'⟩ := I0.base.there b ob y (by show b ∉ []; simp)
        obtain ⟨o'', y''⟩ := u1.there b o' y' fun hm => by
          rcases (f0 b hm).2.2.2.1 with z | z
          · exact nomatch z
          · exact absurd (Heap.lt_size y) (Nat.not_lt.mpr z)
        rw [z] at y''
        cases y''
    have nC : s.heap.get? s3.heap.objs.size = none := by
      cases y : s.heap.get? s3.heap.objs.size with
      | none => rfl
      | some ob => exact absurd (Heap.lt_size y) (Nat.not_lt.mpr I0.sz)
    obtain ⟨oe3, vs3, T3, oT3, ts3, ex3, ec3, ed3, e13, nT3, Tx3, eT3, edT3, e33⟩ := j3
    have gT : s.heap.get? T3 = none ∧ H' T3 = none := by
      by_cases z : T3 ∈ x :: T :: s3.heap.objs.size :: frs (envOfC qual scope s.heap.objs.size f cd :: outer)
      · rcases List.mem_cons.mp z with z | z
        · exact absurd z Tx3
        rcases List.mem_cons.mp z with z | z
        · rw [z]; exact ⟨n0 nT, hT⟩
        rcases List.mem_cons.mp z with z | z
        · rw [z]; exact ⟨nC, IB.free⟩
        · obtain ⟨_, o2, h2', h3'⟩ := j2.mem z
          rw [eT3] at h2'
          cases h2'
          exact absurd edT3 (h3' _)
      · have z' : s'.heap.get? T3 = none := by rw [← (hB T3).2 z]; exact nT3
        refine ⟨n0 ?_, get_none_free ok z'⟩
        cases y : s1.heap.get? T3 with
        | none => rfl
        | some ob =>
          obtain ⟨o', y'⟩ := un.there T3 ob y (by simp)
          rw [z'] at y'
          cases y'
    exact ⟨x, H', rfl, J.os, hb, J.base, ok4, ⟨n0 newx, hx, T3, a0, oe3, vs3, oT3, ts3, ex3, ec3, ed3, e13, gT.1, gT.2, Tx3, eT3, edT3, e33⟩, q⟩
  have step : wpAny (model P w) (A.deeper (envOfC qual scope s.heap.objs.size f cd)) (setFlight (.ref x) (some s.heap.objs.size)) (fun _ s'' => wpAny (model P w) (A.deeper (envOfC qual scope s.heap.objs.size f cd)) (throw (.ref x) : Sem Value) (fun _ _ => False) (cxOf (CXC P w (.ref C)) P w K mg base N qual scope f cd A outer s H E).xe s'') (cxOf (CXC P w (.ref C)) P w K mg base N qual scope f cd A outer s H E).xe { s' with heap := h2 } := by
    unfold setFlight
    refine wpAny_bind (wpAny_field ex1 ed1 e11 ?_)
    rw [if_pos (show (Value.ref T1 != Value.none) = true from by simp)]
    show wpAny _ _ (setField (.ref T1) 3 (rawInt s.heap.objs.size)) _ _ _
    refine wpAny_setField eT1 edT1 (Array.getElem?_eq_some_iff.mp e31).1 ?_
    show wpAny _ _ _ _ _ { s' with heap := h2.update T1 (Obj.mapFields (·.setIfInBounds 3 (rawInt s.heap.objs.size))) }
    rw [Heap.update_setField_same h2 T1 oT1 ts1 3 (rawInt s.heap.objs.size) eT1 edT1 e31]
    exact wpAny_throw fin
  first
    | exact wpAny_bind (wpAny_pure (wpAny_bind step))
    | exact wpAny_bind step
end
theorem bpe_compX {X : Cx} {elt tg iter : Expr} {ifs : List Expr} {scope : Scope} {pos : Pos} {N : List Str} {n : Nat} {cap : List Nat} {wi : TI} {g : TG} {tt : TT} {te : TE} (hc : X.calm = true) (B : Blk X scope N n cap) (hi : Bx (PI X tg iter wi)) (hk : KeepG n g)
    (hg : ∀ cl fp s H, Bx (PG (cxCompX X N scope cl fp s H) tg g)) (ht : ∀ cl fp s H, Bx (PTs (cxCompX X N scope cl fp s H) ifs tt)) (he : ∀ cl fp s H, OutC X fp s H → Bx (PE (cxCompX X N scope cl fp s H) elt te))
    (hs : ∀ x, foldedSetIterable iter X.env x = pure x := by intro _; rfl) : Bx (PE X (.ListComp elt [⟨tg, iter, ifs, 0⟩] scope pos) (tComp n cap wi g tt te)) :=
  ⟨pe_compX hc B hi.1 hk (fun a b c d => (hg a b c d).1) (fun a b c d => (ht a b c d).1) (fun a b c d o => (he a b c d o).1) hs⟩
end L2
namespace L2
open PySem PySem.Spec PyProof.Rows
section
variable {X : Cx}
noncomputable def repS (z : Str) (n : Nat) : Str := ⟨(List.replicate n z.cps).foldl (· ++ ·) #[]⟩
theorem op_mul_str : OpR X (binaryOp .Mult) (fun x y H Q => ∃ (z : Str) (n : Int), x = .str z ∧ y = .int n ∧ 1 < n ∧ n ≤ 1000 ∧ z.length = 1 ∧ (repS z n.toNat).length ≤ 1000 ∧ Q (.str (repS z n.toNat)) H) := by
  intro pins s σ H x y v u Q I rx ry h
  obtain ⟨z, n, rfl, rfl, n1, n2, hz, hl, q⟩ := h
  obtain ⟨t, rfl⟩ := rx
  obtain ⟨t', rfl⟩ := ry
  have a1 : ¬ n < 1 := by omega
  have a2 : (n == 1 || z.length == 0) = false := by
    rw [hz]
    have : (n == 1) = false := by simp; omega
    rw [this]
    rfl
  refine PySem.P.mul_str (by rw [decide_eq_false (by omega), decide_eq_false (by omega)]; rfl) (fun _ _ => by
    rw [hz]
    have : (1 : Int) ≤ (2 ^ 63 - 1) / n := Int.le_ediv_of_mul_le (by omega) (by omega)
    omega) (fun _ _ => by
    unfold Builtin.Str.tooLong
    rw [hz, sizeLine_eq, decide_eq_false (by omega)]) ?_
  rw [if_neg a1, if_neg (ne_true_of_eq_false a2)]
  exact ⟨by rw [sizeLine_eq]; show (repS z n.toNat).length ≤ _; omega, ⟨.str _, H, I.tok _, ⟨_, rfl⟩, q⟩⟩
theorem call_intT : CallR X (.type "int") (fun xs H Q => ∃ (z : Str), xs = [.str z] ∧ (∀ c ∈ z.cps.toList, 48 ≤ c ∧ c ≤ 57) ∧ z.cps.toList ≠ [] ∧ z.length ≤ 640 ∧ Q (.int ((z.cps.toList.foldl (fun a c => a * 10 + (c - 48)) 0 : Nat) : Int)) H) := by
  intro pins s σ H xs us Q I r h
  obtain ⟨z, rfl, hd, hn, hl, q⟩ := h
  obtain ⟨u, rfl, ru⟩ := r.one
  obtain ⟨t, rfl⟩ := ru
  exact PySem.W.KIN.call_text (PySem.intText_digits hd hn (by omega)) hl ⟨.int _, H, I.tok _, ⟨_, rfl⟩, q⟩
end
noncomputable def cutL (c : Nat) : List Nat → List (List Nat)
  | [] => [[]]
  | a :: l => if a = c then [] :: cutL c l else match cutL c l with
    | [] => [[a]]
    | p :: ps => (a :: p) :: ps
theorem cutL_ne (c : Nat) : ∀ l, cutL c l ≠ []
  | [] => fun z => nomatch z
  | a :: l => by
    unfold cutL
    split
    · exact fun z => nomatch z
    · split <;> exact fun z => nomatch z
theorem cutL_clean (c : Nat) : ∀ l, ∀ p ∈ cutL c l, c ∉ p
  | [], p, hp => by
    rw [List.mem_singleton.mp hp]
    exact fun z => nomatch z
  | a :: l, p, hp => by
    have ih := cutL_clean c l
    unfold cutL at hp
    split at hp
    · rcases List.mem_cons.mp hp with e | hp
      · rw [e]; exact fun z => nomatch z
      · exact ih p hp
    · rename_i ne
      split at hp
      · rw [List.mem_singleton.mp hp]
        exact fun z => ne (List.mem_singleton.mp z).symm
      · rename_i q qs e
        rcases List.mem_cons.mp hp with e2 | hp
        · rw [e2]
          intro z
          rcases List.mem_cons.mp z with z | z
          · exact ne z.symm
          · exact ih q (by rw [e]; exact .head _) z
        · exact ih p (by rw [e]; exact .tail _ hp)
theorem cutL_join (c : Nat) : ∀ l, My.joinL c (cutL c l) = l
  | [] => rfl
  | a :: l => by
    have ih := cutL_join c l
    have ne := cutL_ne c l
    unfold cutL
    split
    · rename_i e
      subst e
      cases h : cutL a l with
      | nil => exact absurd h ne
      | cons q qs =>
        rw [h] at ih
        show [] ++ a :: My.joinL a (q :: qs) = _
        rw [ih]
        rfl
    · cases h : cutL c l with
      | nil => exact absurd h ne
      | cons q qs =>
        rw [h] at ih
        show My.joinL c ((a :: q) :: qs) = _
        cases qs with
        | nil =>
          show a :: q = _
          rw [show q = l from ih]
        | cons r rs =>
          show (a :: q) ++ c :: My.joinL c (r :: rs) = _
          rw [← ih]
          rfl
section
variable {X : Cx}
theorem mt_splitA : MtR X "str.split" (fun x vs H Q => ∃ (z : Str) (c : Nat) (y : Str), x = .str z ∧ vs = [.str y] ∧ y = ⟨#[c]⟩ ∧ Builtin.Str.strKind y = 1 ∧ z.length ≤ 100000 ∧
    ∀ D, H D = none → Q (.ref D) (upd H D (.lst ((cutL c z.cps.toList).map fun p => V.str ⟨p.toArray⟩)))) := by
  intro pins s σ H x vs v us Q I rx rv h
  obtain ⟨z, c, y, rfl, rfl, ey, hy, hz, q⟩ := h
  by_cases h0 : z.length = 0
  · obtain ⟨tk, rfl⟩ := rx
    obtain ⟨u, rfl, ru⟩ := rv.one
    obtain ⟨tu, rfl⟩ := ru
    have e0 : z.cps.toList = [] := List.length_eq_zero_iff.mp (by rw [Array.length_toList]; exact h0)
    have ez : z = ⟨([] : List Nat).toArray⟩ := by
      cases z with
      | mk a => congr 1; exact Array.toList_inj.mp (by simpa using e0)
    rw [e0] at q
    have y1 : y.length = 1 := by rw [ey]; rfl
    refine call_meets F.slot_str_split (typeIs_str s z tk) F.entry_str_split (F.args_str_split_2 _ _) (meets_str_split_cannot_occur z y tk tu (by rw [h0, y1]; rfl)) ?_
    refine ⟨.ref s.heap.objs.size, _, I.laid (t' := s.toks) (fun b u e => Heap.get?_push_of_some _ e) (Nat.le_refl _) ?_, rfl, q _ (I.hok.fresh (Nat.le_refl _))⟩
    exact ⟨(by show 1 ≤ sizeLine; decide), _, 0, .cons (show RelV (.str ⟨([] : List Nat).toArray⟩) (.str z tk) from ⟨tk, by rw [ez]⟩) .nil, Heap.get?_push_size _ rfl⟩
  · refine mt_split pins s σ H _ _ v us Q I rx rv ⟨z, y, rfl, rfl, ?_, by rw [ey]; rfl, hz, fun D hD => ?_⟩
    · have h2 : 1 ≤ Builtin.Str.strKind z := by
        unfold Builtin.Str.strKind
        split
        · decide
        · split <;> decide
      have h3 : y.length = 1 := by rw [ey]; rfl
      rw [hy, h3, decide_eq_false (by omega), decide_eq_false (by omega)]
      rfl
    · subst ey
      rw [My.split_parts (z := z) (c := c) (parts := cutL c z.cps.toList) (cutL_ne _ _) (cutL_clean _ _) (cutL_join _ _).symm, List.map_map]
      exact q D hD
variable {D : Addr} {n0 : Nat} {cap : List Nat} {σ : St} {g : TG} {tt : TT} {te : TE} {Q : VK} {H1 : Hp}
theorem comp_str {x : Str} (Pv : Nat → Hp → Prop) (h0 : Pv 0 (upd H1 D (.lst [])))
    (hs : ∀ i c H, x.cps.toList[i]? = some c → Pv i H → g (.str ⟨#[c]⟩) (blockSt n0 cap σ) H fun σ2 H2 => tt σ2 H2 fun b H3 => if b = true then te σ2 H3 fun y H4 => ∃ xs, H4 D = some (.lst xs) ∧ xs.length < sizeLine ∧ Pv (i + 1) (upd H4 D (.lst (xs ++ [y]))) else Pv (i + 1) H3)
    (hd : ∀ H, Pv x.cps.toList.length H → Q (.ref D) H) :
    compRun (Its x) D n0 cap σ g tt te Q H1 := by
  have es : x.cps.toList.length = x.cps.size := Array.length_toList
  refine ⟨fun i m H => m = x.cps.size - i ∧ i ≤ x.cps.size ∧ Pv i H, ⟨x.cps.size, by simp, Nat.zero_le _, h0⟩, ?_⟩
  rintro i m H ⟨rfl, hi, p⟩
  by_cases hlt : i < x.cps.size
  · refine .inr ⟨hlt, Pv (i + 1), fun H' p' => ⟨x.cps.size - (i + 1), by omega, rfl, hlt, p'⟩, fun y H' z => ?_⟩
    obtain ⟨e, c, hc, rfl⟩ := z
    subst e
    exact hs i c _ (by rw [Array.getElem?_toList]; exact hc) p
  · have e : i = x.cps.size := by omega
    subst e
    exact .inl ⟨Nat.le_refl _, hd H (by rw [es]; exact p)⟩
end
end L2
namespace L2
open PySem PySem.Spec PyProof.Rows
section
variable {X : Cx} {pins : List (Addr × Obj)} {σ : St} {H : Hp} {s : Shared}
open PySem.Builtin PySem.Builtin.Str in
open PySem.Builtin PySem.Builtin.Str in
end
section
variable {X : Cx}
theorem len_app (x y : Str) : (x ++ y).length = x.length + y.length := by
  show (x.cps ++ y.cps).size = _
  rw [Array.size_append]
  rfl
end
section
variable {X : Cx} {C S f : Addr} {k : Nat} {fd : FuncData} {ps : List Str} {sp : Sp} {dvs : List V} {ds : List Value} {nid nid2 : String} {bB bB2 : List Value} {fx sx n y : Str} {p np hpos cpos epos pos pos' : Pos} {b₀ : Stmt} {suite : List Stmt} {i j : Nat} {t : TA} {ts : TS} {e : Expr} {es : List Expr}
end
end L2
namespace L2
open PySem PySem.Spec PyProof.Rows
end L2
namespace L2
open PySem PySem.Spec PyProof.Rows
noncomputable def rJoinA : V → List V → Hp → VK → Prop := fun x vs H Q => ∃ (sep : Str) (l : Addr) (zs : List Str), x = .str sep ∧ vs = [.ref l] ∧ H l = some (.lst (zs.map V.str)) ∧ (zs.map (·.length)).sum + zs.length * sep.length ≤ 100000 ∧ Q (.str (Str.join sep zs)) H
theorem mt_joinA {X : Cx} : MtR X "str.join" rJoinA := by
  intro pins s σ H x vs v us Q I rx rv h
  obtain ⟨sep, l, zs, ex, ev, hH, hz, q⟩ := h
  cases zs with
  | cons z zs => exact mt_join pins s σ H x vs v us Q I rx rv ⟨sep, l, z :: zs, ex, ev, hH, by rw [List.length_cons]; omega, hz, q⟩
  | nil =>
    subst ex ev
    obtain ⟨tk, rfl⟩ := rx
    obtain ⟨u, rfl, ru⟩ := rv.one
    cases ru
    obtain ⟨z, its, n, r, hl, e⟩ := I.lstM hH
    obtain ⟨ps, rfl, ez⟩ := vals_strs (zs := []) r
    have ep : ps = [] := List.map_eq_nil_iff.mp ez
    subst ep
    refine call_meets F.slot_str_join (typeIs_str s sep tk) F.entry_str_join (F.args_str_join_2 _ _) (meets_str_join_list sep tk l [] rfl) ⟨⟨_, e, rfl, n, rfl⟩, ?_⟩
    show (Made.str (Builtin.Str.glued sep [])).post _ s
    rw [StrLaws.glued_eq_join]
    exact ⟨(by show 0 ≤ sizeLine; decide), ⟨.str _, H, I.tok _, ⟨_, rfl⟩, q⟩⟩
end L2
namespace L2
open PySem PySem.Spec PyProof.Rows
noncomputable def pairK (c : Nat) : List Int := [((c / 2 : Nat) : Int), ((c % 2 : Nat) : Int)]
noncomputable def pairH (c : Nat) : Int := reduceHash (Builtin.Tuple.tupleHashOf [hashInt ((c / 2 : Nat) : Int), hashInt ((c % 2 : Nat) : Int)])
noncomputable def tabAsk (te : SetTable × List Nat) (c : Nat) : Option SetTable.Met := te.1.probe (fun i => ((te.2[i]?).map pairH).getD 0) (pairH c) (te.1.probeStart (pairH c))
noncomputable def tabPut (te : SetTable × List Nat) (c j : Nat) : SetTable × List Nat := ((te.1.put j).1, te.2.take (te.1.put j).2 ++ c :: te.2.drop (te.1.put j).2)
noncomputable def tabStep (te : SetTable × List Nat) (c : Nat) : SetTable × List Nat :=
  match tabAsk te c with
  | some (.empty j none) => tabPut te c j
  | _ => te
noncomputable def tabAll (led : Bool) : List (SetTable × List Nat) :=
  let s0 := [((SetTable.fresh 0 0 led, []) : SetTable × List Nat)]
  let nx := fun (l : List (SetTable × List Nat)) => l.flatMap fun te => ([0, 1, 2, 3].filter fun c => !te.2.contains c).map fun c => tabStep te c
  s0 ++ nx s0 ++ nx (nx s0) ++ nx (nx (nx s0)) ++ nx (nx (nx (nx s0)))
noncomputable def entP (p : Nat × Addr) : Int × Value := (pairH p.1, .ref p.2)
noncomputable def esP (L : List (Nat × Addr)) : Array (Int × Value) := (L.map entP).toArray
noncomputable def PrSet (prog : Program) (w : World) (h : Heap) (S : Addr) (led : Bool) (t : SetTable) (L : List (Nat × Addr)) : Prop :=
  ∃ o ep, h.get? S = some o ∧ o.ExactSet ∧ o.data = .set (esP L) ep t ∧ (t, L.map Prod.fst) ∈ tabAll led ∧ ∀ p ∈ L, p.1 < 4 ∧ IsTupleKey (intKind prog w) h (pairK p.1) p.2
section
variable {prog : Program} {w : World} {A : Around} {E : Value → Shared → Prop} {s : Shared}
end
end L2
namespace L2
open PySem PySem.Spec PyProof.Rows
noncomputable def GotP (L xs : List (Nat × Addr)) : Prop := (∀ p ∈ L, p ∈ xs) ∧ (∀ x ∈ xs, x.1 ∈ L.map Prod.fst) ∧ (L.map Prod.fst).Nodup
theorem GotP.nil : GotP [] [] := ⟨fun _ h => h, fun _ h => (List.not_mem_nil h).elim, List.nodup_nil⟩
theorem GotP.old {L xs : List (Nat × Addr)} {x : Nat × Addr} (h : GotP L xs) (hm : x.1 ∈ L.map Prod.fst) : GotP L (xs ++ [x]) := by
  refine ⟨fun p hp => List.mem_append_left _ (h.1 p hp), fun y hy => ?_, h.2.2⟩
  rcases List.mem_append.mp hy with hy | hy
  · exact h.2.1 y hy
  · rw [List.mem_singleton.mp hy]; exact hm
theorem GotP.new {L L' xs : List (Nat × Addr)} {x : Nat × Addr} (h : GotP L xs) (hm : x.1 ∉ L.map Prod.fst) (p : List.Perm L' (x :: L)) : GotP L' (xs ++ [x]) := by
  refine ⟨fun q hq => ?_, fun y hy => ?_, ?_⟩
  · rcases List.mem_cons.mp (p.mem_iff.mp hq) with rfl | hq
    · exact List.mem_append_right _ (List.mem_singleton.mpr rfl)
    · exact List.mem_append_left _ (h.1 q hq)
  · refine (p.map Prod.fst).mem_iff.mpr ?_
    rcases List.mem_append.mp hy with hy | hy
    · exact List.mem_cons_of_mem _ (h.2.1 y hy)
    · rw [List.mem_singleton.mp hy]; exact List.mem_cons_self
  · exact (p.map Prod.fst).nodup_iff.mpr (List.nodup_cons.mpr ⟨hm, h.2.2⟩)
section
variable {prog : Program} {w : World}
theorem PrSet.keep {h h' : Heap} {I S : Addr} {led : Bool} {t : SetTable} {L : List (Nat × Addr)} (hm : PrSet prog w h S led t L) (hS : S ≠ I) (hI : ∃ oi, h.get? I = some oi ∧ oi.cls ≠ .type "tuple")
    (hk : ∀ b o, b ≠ I → h.get? b = some o → h'.get? b = some o) : PrSet prog w h' S led t L := by
  obtain ⟨o, ep, ho, hex, hd, htab, hall⟩ := hm
  obtain ⟨oi, e1, e2⟩ := hI
  refine ⟨o, ep, hk _ _ hS ho, hex, hd, htab, fun p hp => ⟨(hall p hp).1, ?_⟩⟩
  obtain ⟨o', it, n, e, c, r⟩ := (hall p hp).2
  refine ⟨o', it, n, hk _ _ (fun z => ?_) e, c, r⟩
  rw [z, e1] at e
  cases e
  exact e2 c
end
section
variable {prog : Program} {w : World} {A : Around} {R : Result → Shared → Prop}
end
section
variable {prog : Program} {w : World} {A : Around} {E : Value → Shared → Prop} {s : Shared}
end
end L2
namespace L2
open PySem PySem.Spec PyProof.Rows
noncomputable def SetIt (w : World) (h : Heap) (I S : Addr) (ep : Nat) (t : SetTable) (L : List (Nat × Addr)) (i : Nat) : Prop :=
  ∃ (o oS : Obj) (slot : Nat), h.get? I = some o ∧ o.cls = .type "set_iterator" ∧ o.data = .fields #[.int slot 0, .int i 0, .ref S, .int (L.length : Nat) 0, .int ep 0] ∧ (w.params.followText "set-order" = false → SetTable.below t.place slot = i) ∧
    h.get? S = some oS ∧ oS.data = .set (esP L) ep t
section
variable {prog : Program} {w : World} {A : Around} {E : Value → Shared → Prop} {s : Shared}
theorem SetIt.at {h h' : Heap} {I S : Addr} {ep : Nat} {t : SetTable} {L : List (Nat × Addr)} {i : Nat} (x : SetIt w h I S ep t L i) (hI : ∀ o, h.get? I = some o → h'.get? I = some o) (hS : ∀ o, h.get? S = some o → h'.get? S = some o) : SetIt w h' I S ep t L i := by
  obtain ⟨o, oS, slot, ho, hc, hd, hb, hoS, hdS⟩ := x
  exact ⟨o, oS, slot, hI _ ho, hc, hd, hb, hS _ hoS, hdS⟩
end
end L2
namespace L2
open PySem PySem.Spec PyProof.Rows
section
variable {prog : Program} {w : World} {A : Around} {E : Value → Shared → Prop} {s : Shared}
end
end L2
namespace L2
open PySem PySem.Spec PyProof.Rows
section
variable {prog : Program} {w : World} {A : Around} {E : Value → Shared → Prop} {s : Shared}
end
end L2
namespace L2
open PySem PySem.Spec PyProof.Rows
section
variable {prog : Program} {w : World} {A : Around} {E : Value → Shared → Prop} {s : Shared}
end
end L2
namespace L2
open PySem PySem.Spec PyProof.Rows
section
variable {X : Cx} {e : Expr} {te : TE} {p p' pos pos' : Pos} {xs xt : Str}
end
end L2
namespace L2
open PySem PySem.Spec PyProof.Rows
section
variable {prog : Program} {w : World} {A : Around} {E : Value → Shared → Prop} {s : Shared}
end
section
variable {X : Cx}
end
end L2
namespace My
open PySem L2
noncomputable def hiV (c : Nat) : Int := ((c / 2 : Nat) : Int)
noncomputable def loV (c : Nat) : Int := ((c % 2 : Nat) : Int)
theorem hi_bit {c : Nat} (h : c < 4) : hiV c = 0 ∨ hiV c = 1 := by
  have : c = 0 ∨ c = 1 ∨ c = 2 ∨ c = 3 := by omega
  rcases this with rfl | rfl | rfl | rfl <;> decide
theorem lo_bit {c : Nat} (h : c < 4) : loV c = 0 ∨ loV c = 1 := by
  have : c = 0 ∨ c = 1 ∨ c = 2 ∨ c = 3 := by omega
  rcases this with rfl | rfl | rfl | rfl <;> decide
inductive Chosen {α : Type} : List α → List (List α) → Prop
  | nil : Chosen [] []
  | cons {x : α} {r : List α} {l : List α} {ls : List (List α)} : x ∈ l → Chosen r ls → Chosen (x :: r) (l :: ls)
theorem Chosen.length {α : Type} {r : List α} {ls : List (List α)} (h : Chosen r ls) : r.length = ls.length := by
  induction h with
  | nil => rfl
  | cons _ _ ih => rw [List.length_cons, List.length_cons, ih]
theorem Chosen.snoc {α : Type} : ∀ {r : List α} {ls : List (List α)} {l : List α}, Chosen r (ls ++ [l]) ↔ ∃ a x, r = a ++ [x] ∧ Chosen a ls ∧ x ∈ l
  | r, [], l => by
    constructor
    · intro h
      cases h with
      | cons hx hr => cases hr; exact ⟨[], _, rfl, .nil, hx⟩
    · rintro ⟨a, x, rfl, ha, hx⟩
      cases ha
      exact .cons hx .nil
  | r, m :: ls, l => by
    constructor
    · intro h
      cases h with
      | cons hx hr =>
        obtain ⟨a, y, rfl, ha, hy⟩ := Chosen.snoc.mp hr
        exact ⟨_ :: a, y, rfl, .cons hx ha, hy⟩
    · rintro ⟨a, x, rfl, ha, hx⟩
      cases ha with
      | cons hy ha => exact .cons hy (Chosen.snoc.mpr ⟨_, x, rfl, ha, hx⟩)
noncomputable def Codes (cs : List Nat) : Prop := ∀ c ∈ cs, c < 4
theorem Chosen.codes {r : List Nat} {ls : List (List Nat)} (h : Chosen r ls) (hc : ∀ l ∈ ls, Codes l) : Codes r := by
  induction h with
  | nil => exact fun _ h => (List.not_mem_nil h).elim
  | cons hx _ ih =>
    intro c hm
    rcases List.mem_cons.mp hm with rfl | hm
    · exact hc _ List.mem_cons_self _ hx
    · exact ih (fun l hl => hc l (List.mem_cons_of_mem _ hl)) c hm
theorem Codes.hi {r : List Nat} (h : Codes r) : Bits (r.map hiV) := fun n hn => by
  obtain ⟨c, hc, rfl⟩ := List.mem_map.mp hn
  exact hi_bit (h c hc)
theorem Codes.lo {r : List Nat} (h : Codes r) : Bits (r.map loV) := fun n hn => by
  obtain ⟨c, hc, rfl⟩ := List.mem_map.mp hn
  exact lo_bit (h c hc)
end My
namespace L2
open PySem PySem.Spec PyProof.Rows
section
variable {prog : Program} {w : World} {A : Around} {R : Result → Shared → Prop} {I : Addr} {fp wr : List Addr} {n : Nat} {P : Nat → Value → Prop} {St : Nat → Heap → Prop}
end
section
variable {prog : Program} {w : World} {A : Around} {E : Value → Shared → Prop} {s : Shared} {l : Addr} {xs : Array (Int × Tok)}
end
theorem DPut.r {H : Hp} {a b : Addr} {kvs : List (List Key × V)} {k : List Key} {v : V} (e : H a = some (.dT kvs)) (eb : RdT H b (k.map kV)) (hl : kvs.length < sizeLine) : DPut H a (.ref b) v (upd H a (.dT (putK kvs k v))) := .inr ⟨kvs, k, b, e, rfl, eb, hl, rfl⟩
section
variable {X : Cx}
end
end L2
namespace L2
open PySem PySem.Spec PyProof.Rows
open PySem.W (Dat kqdP kqdPs kqdOk)
noncomputable def innerC : List Int → List Nat
  | [] => []
  | [b] => [48 + b.toNat]
  | b :: c :: r => (48 + b.toNat) :: 44 :: 32 :: innerC (c :: r)
theorem bit_cps {b : Int} (h : b = 0 ∨ b = 1) : (Str.ofString (toString b)).cps.toList = [48 + b.toNat] := by
  rcases h with rfl | rfl <;> decide +kernel
theorem cat_cps (a b : Str) : (a ++ b).cps.toList = a.cps.toList ++ b.cps.toList := by
  show (a.cps ++ b.cps).toList = _
  rw [Array.toList_append]
theorem join_cps : ∀ ns : List Int, (∀ b ∈ ns, b = 0 ∨ b = 1) → (Str.join ", " (ns.map fun n => ((toString n : String) : Str))).cps.toList = innerC ns
  | [], _ => rfl
  | [b], h => bit_cps (h b (.head _))
  | b :: c :: r, h => by
    have e1 := bit_cps (h b (.head _))
    have e2 := join_cps (c :: r) fun x hx => h x (.tail _ hx)
    show (Str.ofString (toString b) ++ ", " ++ Str.join ", " ((c :: r).map fun n => ((toString n : String) : Str))).cps.toList = _
    rw [cat_cps, cat_cps, e1, e2]
    rfl
section
variable {X : Cx}
end
end L2
namespace L2
open PySem PySem.Spec PyProof.Rows
end L2
namespace L2
open PySem PySem.Spec PyProof.Rows
section
variable {prog : Program} {w : World} {A : Around} {E : Value → Shared → Prop} {s : Shared}
end
section
variable {X : Cx}
end
end L2
namespace L2
open PySem PySem.Spec PyProof.Rows
section
open PySem.SeqAt
open PySem.AutoSeq1 (wpAny_loadPart')
open PySem.MeetsSeq PySem.MeetsSeq2 PySem.MeetsSeq3
end
section
variable {prog : Program} {w : World} {A : Around} {E : Value → Shared → Prop} {s : Shared}
end
section
variable {X : Cx}
end
end L2
namespace My
open PySem L2
open PySem.W (Dat kqdP kqdPs kqdOk)
section
variable {m : Nat} {a b : Works} {fs gs : List Flt}
end
end My
namespace My
open PySem L2
open PySem.W (Dat kqdP kqdPs kqdOk)
section
variable {m : Nat} {w : Works} {st F : List Flt} {row : List Int}
end
section
variable {m : Nat} {w : Works} {keep : Nat → Bool} {fs : List Flt} {row : List Int}
end
end My
namespace L2
open PySem PySem.Spec PyProof.Rows
section
variable {M : Model} {A : Around} {E : Value → Shared → Prop}
variable {nm q nm2 q2 : Str} {C N S N2 : Addr} {bs bm bs2 bm2 : List Value} {hdct hd2 : Bool} {sn sn2 : List Str} {sub sub2 : List Value} {ab ab2 : Bool} {col col2 : Option Bool} {dd dd2 : Option Addr} {k0 k1 k2 k3 k5 l0 l1 l2 l3 l5 : Option Value} {newId newId2 : String}
end
section
variable {X : Cx} {pins : List (Addr × Obj)} {σ : St} {H1 : Hp} {s1 s' : Shared} {C S : Addr} {nid nid2 : String} {bB bB2 : List Value} {sx n : Str} {np hpos : Pos} {b₀ : Stmt} {suite : List Stmt} {j : Nat} {ts : TS} {D : Ends} {E' : XK} {e : Value}
end
theorem boot_VE : bootBuiltins "ValueError" = some (.type "ValueError") := by kernel_rfl
theorem call_isXk {X : Cx} {K0 : PySem.W.Frag} {C : Addr} {B nid : String} {bB : List Value} (Z : XcOk K0 C B nid bB) (hK : X.K = K0) : CallR X (.builtin "isinstance") (rIsX K0 C) := by subst hK; exact call_isX Z
theorem call_isXTk {X : Cx} {K0 : PySem.W.Frag} {C : Addr} {B nid : String} {bB : List Value} (Z : XcOk K0 C B nid bB) (hK : X.K = K0) : CallR X (.builtin "isinstance") (rIsXT K0 C) := by subst hK; exact call_isXT Z
section
variable {X : Cx} {C S f : Addr} {k k2 : Nat} {fd : FuncData} {ps : List Str} {spG spX : Sp} {dvs : List V} {ds : List Value} {nid nid2 : String} {bB bB2 : List Value} {fx sx n : Str} {p np hpos cpos epos pos : Pos} {b₀ : Stmt} {suite body a b : List Stmt} {j : Nat} {ta : TA} {tc : TT} {ts : TS} {t u : (Addr → Hp → Prop) → TS} {e c : Expr} {es : List Expr}
end
section
variable {X : Cx} {pins : List (Addr × Obj)} {σ : St} {H : Hp} {s : Shared}
end
section
variable {X : Cx}
end
end L2
namespace L2
open PySem PySem.Spec PyProof.Rows
section
variable {X : Cx} {e l k : Expr} {te tl tk : TE} {pos p2 : Pos}
end
section
variable {D : Addr} {n0 : Nat} {cap : List Nat} {σ : St} {g : TG} {tt : TT} {te : TE} {Q : VK} {H1 : Hp}
end
end L2
namespace L2
open PySem PySem.Spec PyProof.Rows
noncomputable def postU (X : Cx) (OK : Value → Env → Shared → Prop) (acc : Value) (c : Env) : Result → Shared → Prop
  | .ok _, s1 => OK acc c s1
  | .error x, s1 => afterC X c x s1
noncomputable def okU (X : Cx) (u : Value → Sem Unit) (QQ : Value → Shared → Prop) (acc : Value) (c : Env) (s1 : Shared) : Prop :=
  wpAny (model X.prog X.w) X.A (u acc) (fun _ s2 => ∃ m, s2.heap.Ns c.locals m ∧ ∀ h', Heap.SameBut c.locals s2.heap h' → QQ .none { s2 with heap := h' }) X.xe s1
theorem compr_ownU {X : Cx} {s : Shared} {e : Expr} {scope : Scope} {pos : Pos} {mk first : Sem Value} {g : Comprehension} {gs : List Comprehension} {cl : List (Str × Addr)} {u : Value → Sem Unit} {QQ : Value → Shared → Prop}
    (ec : clausesOf e = g :: gs) (es : ∀ x, foldedSetIterable g.iter X.env x = pure x) (el : closureFor scope X.env = pure cl) (ek : scope.kind = .function) (en : ∀ y ∈ scope.names, y.2 = .local → scope.names.lookup y.1 = some .local)
    (h : wpAny (model X.prog X.w) X.A first (fun x s1 => wpAny (model X.prog X.w) X.A (pyIter x) (fun it s2 => wpAny (model X.prog X.w) X.A mk (fun acc s3 =>
      wpAny (model X.prog X.w) X.A (newFunctionEnv scope X.env.globals cl [] X.env.qual none .none (some X.env)) (fun c s4 =>
        codeAny (model X.prog X.w) X.A (.compStart e 0 it acc { c with scope := relabel scope X.env }) (postU X (okU X u QQ) acc { c with scope := relabel scope X.env }) s4) X.xe s3) X.xe s2) X.xe s1) X.xe s) :
    wpAny (model X.prog X.w) X.A (comprehension e scope X.env pos mk false first (some u)) QQ X.xe s := by
  unfold comprehension
  rw [el, ec]
  refine wpAny_bind (thn h fun x s1 h1 => wpAny_bind (wpAny_standAt (wpAny_bind (wpAny_of_eq (es x) (wpAny_bind (wpAny_holding (thn h1 fun it s2 h2 => ?_)))))))
  refine wpAny_standIf (wpAny_bind (thn h2 fun acc s3 h3 => wpAny_bind (wpAny_pure (wpAny_bind (thn h3 fun c s4 h4 => ?_)))))
  dsimp only
  have kv : ∀ y ∈ (scope.names.filter fun y => (y.2 == .local || y.2 == .cell) && y.1 != (".0" : Str)).reverse, y.2 = .local →
      Env.kindOf { c with scope := relabel scope X.env } y.1 = some .local := fun y hy hl => lookup_relabel_local (en y (List.mem_filter.mp (List.mem_reverse.mp hy)).1 hl)
  have kv' : ∀ x ∈ (scope.names.filter fun x => (x.2 == .local || x.2 == .cell) && x.1 != (".0" : Str)).reverse.drop 1 ++ (scope.names.filter fun x => (x.2 == .local || x.2 == .cell) && x.1 != (".0" : Str)).reverse.take 1,
      x.2 = .local → Env.kindOf { c with scope := relabel scope X.env } x.1 = some .local := fun x hx hl => by
    rcases List.mem_append.mp hx with h1 | h1
    · exact kv x (List.mem_of_mem_drop h1) hl
    · exact kv x (List.mem_of_mem_take h1) hl
  refine wpAny_holding (wpAny_bind (wpAny_attempt (wpAny_holding (wpAny_run (codeAny_mono h4 fun r s5 hr => ?_)))))
  cases r with
  | ok f =>
    refine wpAny_bind (wpAny_rule (wpAny_bind (wpAny_holding (wpAny_mono (show okU X u QQ acc _ s5 from hr) (fun _ s6 hr' => ?_) fun _ _ h' => h'))))
    obtain ⟨m, hn, hq⟩ := hr'
    exact wpAny_bind (wpAny_comp_letGo (cenv := { c with scope := relabel scope X.env }) ek _ s6 m kv' hn fun h' m' _ hs' => wpAny_pure (hq h' hs'))
  | error x =>
    obtain ⟨m, hn, hq⟩ := hr
    exact wpAny_bind (wpAny_holding (wpAny_comp_letGo (cenv := { c with scope := relabel scope X.env }) ek _ s5 m kv hn fun h' _ _ sb => wpAny_mono (hq h' sb) (fun _ _ z => z.elim) fun _ _ z => z))
theorem comp_coreU {X : Cx} {elt tg iter : Expr} {ifs : List Expr} {scope : Scope} {pos : Pos} {N : List Str} {n : Nat} {cap : List Nat} {g : TG} {tt : TT} {te : TE}
    {cl : List (Str × Addr)} {E : Value → Shared → Prop} {OK : Value → Env → Shared → Prop}
    (hc : X.calm = true) (B : Blk X scope N n cap) (c1 : ∀ x c, cl.lookup x = some c → X.env.cells.lookup x = some c) (c2 : ∀ y ∈ scope.names, y.2 = .free → ∃ c, cl.lookup y.1 = some c)
    (hk : KeepG n g) (hg : ∀ cl fp s H, PG (cxCompX X N scope cl fp s H) tg g) (ht : ∀ cl fp s H, PTs (cxCompX X N scope cl fp s H) ifs tt) (he : ∀ cl fp s H, OutC X fp s H → PE (cxCompX X N scope cl fp s H) elt te)
    {pins : List (Addr × Obj)} {σ : St} {Q : VK} {itv : Value} {s2 : Shared}
    (h : PIE X pins σ tg (fun J H1 => ∀ D, H1 D = none → compRun J D n cap σ g tt te Q H1) itv s2)
    (hRR : ∀ (D C : Addr) (H' : Hp) (s' : Shared) (m : Str → Option Value) (c : Env), c.locals = C → Inv X pins σ H' s' → FpOk X pins H' C → s'.heap.Ns C m → Q (.ref D) H' → OK (.ref D) c s') :
    wpAny (model X.prog X.w) X.A (newList []) (fun acc s3 =>
      wpAny (model X.prog X.w) X.A (newFunctionEnv scope X.env.globals cl [] X.env.qual none .none (some X.env)) (fun cenv s4 =>
        codeAny (model X.prog X.w) X.A (.compStart (.ListComp elt [⟨tg, iter, ifs, 0⟩] scope pos) 0 itv acc { cenv with scope := relabel scope X.env })
          (postU X OK acc { cenv with scope := relabel scope X.env }) s4) E s3) E s2 := by
  obtain ⟨it, fp, tn, J, H2, e, I2, T, st2, f2, q2⟩ := h
  subst e
  refine wpAny_newObj_type ?_ (by show 0 ≤ sizeLine; decide)
  have hD : H2 s2.heap.objs.size = none := I2.hok.fresh (Nat.le_refl _)
  obtain ⟨W, ⟨m0, w0⟩, turn⟩ := q2 _ hD
  have I3 : Inv X pins σ (upd H2 s2.heap.objs.size (.lst [])) { s2 with heap := s2.heap.push { cls := .type "list", data := .seq ([] : List Value).toArray }, toks := s2.toks } :=
    I2.lnew .nil (by show 0 ≤ sizeLine; decide)
  have st3 : tn 0 (s2.heap.push { cls := .type "list", data := .seq ([] : List Value).toArray }) := T.keep _ _ _ st2 fun b _ o e => Heap.get?_push_of_some _ e
  have obj2 := T.obj _ _ st2
  have fD : ∀ b ∈ fp, b ≠ s2.heap.objs.size := fun b hb => by
    obtain ⟨o, eo, _⟩ := obj2 b hb
    exact Nat.ne_of_lt (Heap.lt_size eo)
  have f3 : ∀ b ∈ fp, FpOk X pins (upd H2 s2.heap.objs.size (.lst [])) b := fun b hb => ⟨by rw [upd_ne (fD b hb)]; exact (f2 b hb).1, (f2 b hb).2⟩
  have go3 : ∀ (s3 : Shared) (H3 : Hp), Inv X pins σ H3 s3 → tn 0 s3.heap → (∀ b ∈ fp, FpOk X pins H3 b) → W 0 m0 H3 →
      wpAny (model X.prog X.w) X.A (newFunctionEnv scope X.env.globals cl [] X.env.qual none .none (some X.env)) (fun cenv s4 =>
        codeAny (model X.prog X.w) X.A (.compStart (.ListComp elt [⟨tg, iter, ifs, 0⟩] scope pos) 0 (.ref it) (.ref s2.heap.objs.size) { cenv with scope := relabel scope X.env })
          (postU X OK (.ref s2.heap.objs.size) { cenv with scope := relabel scope X.env }) s4) E s3 := by
    intro s3 H3 I3 st3 f3 w0
    refine wpAny_newFunctionEnv B.cell (fun y hy => nomatch hy) (fun h4 n4 sb4 => ?_) B.kind
    have k4 : ∀ b o, s3.heap.get? b = some o → h4.get? b = some o := fun b o e => sb4.extBut b o (Nat.ne_of_lt (Heap.lt_size e)) (Heap.get?_push_of_some _ e)
    have fl3 : ∀ b ∈ fp, b < s3.heap.objs.size := fun b hb => by
      obtain ⟨o, eo, _⟩ := T.obj _ _ st3 b hb
      exact Heap.lt_size eo
    have I4 : Inv (cxCompX X N scope cl fp s3 H3) [] (blockSt n cap σ) H3 { s3 with heap := h4, toks := s3.toks + ([] : List (Str × Value)).length } :=
      (comp_start I3 B c1 c2 f3 fl3 n4 k4).wish _
    have st4 : tn 0 h4 := T.keep _ _ _ st3 fun b _ o e => k4 b o e
    have stat : ∀ {H' : Hp}, (∀ b ∈ fp, H' b = none) → ∀ b ∈ fp, FpOk (cxCompX X N scope cl fp s3 H3) [] H' b := fun hn b hb => by
      obtain ⟨_, a1, a2, _, a4, _⟩ := f3 b hb
      refine ⟨hn b hb, Nat.ne_of_lt (fl3 b hb), fun z => ?_, .inl hb, fun x c e => a4 x c (c1 x c e), fun p hp => nomatch hp⟩
      rcases List.mem_cons.mp (I3.stkSub b z) with e | e
      · exact a1 e
      · exact a2 e
    have loop : ∀ s5 : Shared, s5 = { s3 with heap := h4, toks := s3.toks + ([] : List (Str × Value)).length } →
        codeAny (model X.prog X.w) X.A (.compLoop (.ListComp elt [⟨tg, iter, ifs, 0⟩] scope pos) 0 (.ref it) (.ref s2.heap.objs.size) (compEnvC scope cl s3.heap.objs.size X.env))
          (postU X OK (.ref s2.heap.objs.size) (compEnvC scope cl s3.heap.objs.size X.env)) s5 := by
      rintro s5 rfl
      refine comp_loopX (fun k s' => ∃ i H', Inv (cxCompX X N scope cl fp s3 H3) [] (blockSt n cap σ) H' s' ∧ tn i s'.heap ∧ (∀ b ∈ fp, H' b = none) ∧ W i k H') ?_ m0
        ⟨0, H3, I4, st4, fun b hb => (f3 b hb).1, w0⟩
      rintro k s6 ⟨i, H6, I6, st6, fr6, w6⟩
      rcases turn i k H6 w6 with ⟨stop, qn⟩ | ⟨go, N6, hN6, step⟩
      · refine thn (T.done (cxCompX X N scope cl fp s3 H3) rfl rfl rfl hc i [] s6 _ H6 _ I6 (stat fr6) st6 stop) fun r s7 ⟨hr, I7⟩ => ?_
        subst hr
        obtain ⟨J7, C7, m7, n7⟩ := comp_end I3 I7.unwish f3
        exact hRR _ _ H6 s7 m7 _ rfl J7 C7 n7 qn
      · refine thn (T.item (cxCompX X N scope cl fp s3 H3) rfl rfl rfl hc i [] s6 _ H6 _ I6 (stat fr6) st6 go) fun r s7 ⟨u, hr, h7⟩ => ?_
        subst hr
        refine thn h7 fun _ s8 ⟨x, H8, I8, r8, y8, st8, fr8⟩ => ?_
        have I8' := I8.pinned (stat fr8) (T.obj _ _ st8)
        refine thn (hg cl fp s3 H3 _ s8 _ H8 x u _ I8' r8 (hk _ _ _ _ (step x H8 y8))) fun _ s9 ⟨σ9, H9, I9, q9, l9, k9⟩ => ?_
        refine thn (ht cl fp s3 H3 _ s9 σ9 H9 _ I9 q9) fun b s10 ⟨H10, I10, q10⟩ => ?_
        have wk : ∀ (z : Nat) v, (blockSt n cap σ)[z]? = some (some v) → σ9[z]? = some (some v) := fun z v e => by
          obtain ⟨kk, j, rfl, _, _⟩ := blk_get e
          rw [k9 _ (Nat.le_add_right _ _)]
          exact e
        have back : ∀ {Ha : Hp} {sa : Shared} {j : Nat}, Inv (cxCompX X N scope cl fp s3 H3) ([] ++ pinsAt fp s8.heap) σ9 Ha sa → W (i + 1) j Ha →
            ∃ i H', Inv (cxCompX X N scope cl fp s3 H3) [] (blockSt n cap σ) H' sa ∧ tn i sa.heap ∧ (∀ b ∈ fp, H' b = none) ∧ W i j H' := fun {Ha sa j} Ia wa => by
          refine ⟨i + 1, Ha, (Ia.unpinned).weak l9.symm wk, T.keep _ _ _ st8 fun b hb o e => (Ia.pin (b, o) (List.mem_append_right _ (List.mem_append_right _ (mem_pinsAt hb e)))).1, fun b hb => ?_, wa⟩
          obtain ⟨o, e, d⟩ := T.obj _ _ st8 b hb
          exact (Ia.pin (b, o) (List.mem_append_right _ (List.mem_append_right _ (mem_pinsAt hb e)))).2.1
        cases b with
        | false =>
          rw [if_neg Bool.false_ne_true] at q10 ⊢
          obtain ⟨m', hm, w'⟩ := hN6 _ q10
          exact ⟨m', hm, back I10 w'⟩
        | true =>
          rw [if_pos rfl] at q10 ⊢
          refine thn (he cl fp s3 H3 ⟨pins, σ, I3, f3⟩ _ s10 σ9 H10 _ I10 q10) fun y s11 ⟨yv, H11, I11, r11, q11⟩ => ?_
          obtain ⟨xs, eD, hl, q11⟩ := q11
          obtain ⟨m', hm, w'⟩ := hN6 _ q11
          refine thn (mt_append _ s11 σ9 H11 (.ref s2.heap.objs.size) [yv] (.ref s2.heap.objs.size) [y] (fun _ Hz => Hz = upd H11 s2.heap.objs.size (.lst (xs ++ [yv]))) I11 rfl (.cons r11 .nil)
            ⟨_, xs, yv, rfl, rfl, eD, hl, rfl⟩) fun _ s12 ⟨_, H12, I12, _, e12⟩ => ?_
          subst e12
          exact ⟨m', hm, back I12 w'⟩
    exact codeAny_compStart_list (loop _ rfl) (T.self _ _ _ _ _ st4 (loop _ rfl))
  exact go3 _ _ I3 st3 f3 w0


section
variable {X : Cx} {elt tg iter : Expr} {ifs : List Expr} {scope : Scope} {pos : Pos} {N : List Str} {n : Nat} {cap : List Nat} {wi : TI} {g : TG} {tt : TT} {te : TE}
theorem ps_setCX {i : Nat} {x : Str} {pos' spos : Pos} (hc : X.calm = true) (B : Blk X scope N n cap) (hN : X.N.Nodup) (hi : X.N[i]? = some x) (hx : X.env.scope.names.lookup x = some .local) (hit : PI X tg iter wi) (hk : KeepG n g)
    (hg : ∀ cl fp s H, PG (cxCompX X N scope cl fp s H) tg g) (ht : ∀ cl fp s H, PTs (cxCompX X N scope cl fp s H) ifs tt) (he : ∀ cl fp s H, OutC X fp s H → PE (cxCompX X N scope cl fp s H) elt te)
    (hsw : swapsWith (.ListComp elt [⟨tg, iter, ifs, 0⟩] scope pos) (some (.Name x pos')) spos.line X.env = pure true)
    (hs : ∀ x, foldedSetIterable iter X.env x = pure x := by intro _; rfl) :
    PS X (.Assign [.Name x pos'] (.ListComp elt [⟨tg, iter, ifs, 0⟩] scope pos) spos) (tAsg (tComp n cap wi g tt te) (gName i)) := by
  intro pins s σ H D I h
  obtain ⟨cl, ecl, c1, c2⟩ := closure_ok (scope := scope) (env := X.env) fun y hy k => I.ok.has y.1 (B.free y hy k)
  rw [exec_Assign_Name_used _ _ _ _ hsw]
  refine wpAny_bind (wpAny_standAt (wpAny_bind ?_))
  show wpAny _ X.A (do
    let _ ← comprehension (.ListComp elt [⟨tg, iter, ifs, 0⟩] scope pos) scope X.env _ (newList []) false (eval iter X.env)
      (some (assign (.Name x pos') X.env))) _ _ s
  refine wpAny_bind (thn (compr_ownU (u := assign (.Name x pos') X.env) (QQ := fun _ s' => SP X pins D .next s') rfl hs ecl B.kind B.names ?_) fun _ s' hq => wpAny_pure (wpAny_pure hq))
  refine thn (hit pins s σ H _ I h) fun v s1 h1 => thn h1 fun itv s2 h2 => ?_
  refine comp_coreU (Q := fun y H2 => gName i y σ H2 D.nx) (OK := okU X (assign (.Name x pos') X.env) (fun _ s' => SP X pins D .next s')) hc B c1 c2 hk hg ht he h2 fun Dl C H' s' m c ec J f nn q => ?_
  unfold okU
  rw [ec]
  refine wpAny_assign_Name (store_ok2 J hN hi (.inl hx) (show RelV (.ref Dl) (.ref Dl) from rfl) (fun s3 I3 ⟨a, sb, ha⟩ => ?_) (.inr hx))
  have ca : C ≠ a := by
    rcases ha with e | e
    · rw [e]; exact f.2.1
    · exact fun z => f.2.2.2.2.1 x a e z.symm
  refine ⟨m, nn.sameBut sb ca, fun h' sb' => ⟨_, H', I3.turned (t' := s3.toks) (fun b o hb e => sb'.extBut b o hb e) f.1 f.2.1 f.2.2.2.1 f.2.2.2.2.1 f.2.2.2.2.2, q⟩⟩
theorem bps_setCX {k : Nat} {x : Str} {pos' spos : Pos} (hc : X.calm = true) (B : Blk X scope N n cap) (hN : X.N.Nodup) (hi : X.N[k]? = some x) (hx : X.env.scope.names.lookup x = some .local) (hit : Bx (PI X tg iter wi)) (hk : KeepG n g)
    (hg : ∀ cl fp s H, Bx (PG (cxCompX X N scope cl fp s H) tg g)) (ht : ∀ cl fp s H, Bx (PTs (cxCompX X N scope cl fp s H) ifs tt)) (he : ∀ cl fp s H, OutC X fp s H → Bx (PE (cxCompX X N scope cl fp s H) elt te))
    (hsw : swapsWith (.ListComp elt [⟨tg, iter, ifs, 0⟩] scope pos) (some (.Name x pos')) spos.line X.env = pure true)
    (hs : ∀ x, foldedSetIterable iter X.env x = pure x := by intro _; rfl) :
    Bx (PS X (.Assign [.Name x pos'] (.ListComp elt [⟨tg, iter, ifs, 0⟩] scope pos) spos) (tAsg (tComp n cap wi g tt te) (gName k))) :=
  ⟨ps_setCX hc B hN hi hx hit.1 hk (fun a b c d => (hg a b c d).1) (fun a b c d => (ht a b c d).1) (fun a b c d o => (he a b c d o).1) hsw hs⟩
end
end L2
namespace L2
open PySem PySem.Spec PyProof.Rows
section
variable {X : Cx}
end
section
variable {X : Cx} {pins : List (Addr × Obj)} {σ : St} {H : Hp} {s : Shared}
open PySem.Builtin PySem.Builtin.Str in
end
section
variable {X : Cx}
end
end L2
namespace L2
open PySem PySem.Spec PyProof.Rows
section
variable {prog : Program} {w : World} {A : Around} {E : Value → Shared → Prop} {s : Shared}
end
section
variable {X : Cx} {k1 v1 k2 v2 e f : Expr} {tk1 tv1 tk2 tv2 te tf : TE} {dp apos cpos : Pos}
end
end L2
namespace L2
open PySem PySem.Spec PyProof.Rows
section
variable {X : Cx} {CX : CXT} {k : Nat} {f C : Addr} {fd : FuncData} {ps : List Str} {ds : List Value} {dvs : List V} {sp : Sp} {E : XK} {x m : Str} {p pos apos pos' : Pos} {e o value : Expr} {es : List Expr} {ta tv : TE} {t : TA}
theorem bpe_fld (he : Bx (PE X e ta)) (hb : attributeBase e x X.env (eval e X.env) = eval e X.env) : Bx (PE X (.Attribute e x pos) (tFld X.K ta x)) := ⟨pe_fld he.1 hb⟩
theorem bps_fld (ha : Bx (PE X o ta)) (hv : Bx (PE X value tv)) (hs : swapsWith value (some (.Attribute o x pos')) pos.line X.env = pure false) : Bx (PS X (.Assign [.Attribute o x pos'] value pos) (sFld X.K ta tv x)) := ⟨ps_fld ha.1 hv.1 hs⟩
theorem bpe_meth {pl : Sem Bool} (he : Bx (PE X o ta)) (c : Cls X.K C) (hm : Meth X.K C m f) (F : FnOk X.prog X.w X.K X.mg X.base CX k f fd ps sp) (hr : Room k X.A) (hb : Binds X.K fd ps ds) (hd : Vals dvs ds) (hx : Passes CX X E) (ha : Bx (PA X (e :: es) t))
    (hst : starEach (e :: es) X.env = (false, eval e X.env) :: starEach es X.env := by rfl) (hpl : (backTo pos (starEach es X.env)).any (·.1) = false := by rfl)
    (ht : eval (.Call (.Attribute o m apos) (e :: es) [] pos) X.env = (do
      let ov ← eval o X.env
      standAt apos.atName
      let (f, first) ← holding [ov] (getMethod ov m pl)
      callWith pos f first (backTo pos (starEach (e :: es) X.env)) (backToKw pos (keywordEach [] X.env))) := by rfl) :
    Bx (PE X (.Call (.Attribute o m apos) (e :: es) [] pos) (tMeth C m sp dvs E ta t)) := ⟨pe_meth he.1 c hm F hr hb hd hx ha.1 hst hpl ht⟩
theorem bpe_make0 (M : Mk X.K C f) (F : FnOk X.prog X.w X.K X.mg X.base CX k f fd ps sp) (hr : Room (k + 1) X.A) (hg : Gl X x) (hm : X.mg x = some (.ref C)) (hb : Binds X.K fd ps ds) (hd : Vals dvs ds) (hx : Passes CX X E)
    (hdb : (x == ("__debug__" : Str)) = false := by decide) : Bx (PE X (.Call (.Name x p) [] [] pos) (tMake C sp dvs E tNil)) := ⟨pe_make0 M F hr hg hm hb hd hx hdb⟩
end
noncomputable def tTryM (C0 : Addr) (m : Str) (sp : Sp) (dvs : List V) (C : Addr) (i j : Nat) (ta : TE) (t : TA) (ts : TS) : TS := fun D σ H => ta σ H fun x H0 => ∃ a dx fs, x = .ref a ∧ H0 a = some (.ins C0 dx fs) ∧ fs.lookup m = none ∧
  t σ H0 fun vs H1 => sp (x :: (vs ++ dvs)) H1 (fun v H2 => D.nx (σ.set i (some v)) H2) fun _ ox H2 => ∀ x, ox = some x → H2 x = none → ts (D1 D j) (σ.set j (some (.ref x))) (upd H2 x (excO x C))
section
variable {X : Cx} {C0 C S f : Addr} {k : Nat} {fd : FuncData} {ps : List Str} {sp : Sp} {dvs : List V} {ds : List Value} {nid nid2 : String} {bB bB2 : List Value} {m sx n y : Str} {p np hpos cpos apos epos pos pos' : Pos} {b₀ : Stmt} {suite : List Stmt} {i j : Nat} {ta : TE} {t : TA} {ts : TS} {o e : Expr} {es : List Expr}
theorem ps_tryM {pl : Sem Bool} (ho : PE X.nox o ta) (c : Cls X.K C0) (hm : Meth X.K C0 m f) (F : FnOk X.prog X.w X.K X.mg X.base (CXC X.prog X.w (.ref C)) k f fd ps sp) (hr : Room k X.A) (hb : Binds X.K fd ps ds) (hd : Vals dvs ds) (ha : PA X.nox (e :: es) t)
    (hcalm : X.calm = true) (hst : X.stack = X.env :: X.outer) (hfm : X.env.frame = some X.env.locals) (hgS : Gl X sx) (hmS : X.mg sx = some (.ref S))
    (cC : PySem.W.excIn X.K C bB nid = true) (cS : PySem.W.excIn X.K S bB2 nid2 = true) (b2 : bB2.contains (.type "BaseException") = true) (hin : (mroOf X.K C).tail.contains (.ref S) = true)
    (hN : X.N.Nodup) (hi : X.N[i]? = some y) (hy : Loc X.env.scope y) (hf : X.fn y = true ∨ X.env.scope.names.lookup y = some .local) (hj : X.N[j]? = some n) (hn : X.env.scope.names.lookup n = some .local) (hs : ∀ x, PSs (X.marked x) (b₀ :: suite) ts) (hdb : (sx == ("__debug__" : Str)) = false := by decide)
    (he : starEach (e :: es) X.env = (false, eval e X.env) :: starEach es X.env := by rfl) (hpl : (backTo cpos (starEach es X.env)).any (·.1) = false := by rfl)
    (ht : eval (.Call (.Attribute o m apos) (e :: es) [] cpos) X.env = (do
      let ov ← eval o X.env
      standAt apos.atName
      let (f, first) ← holding [ov] (getMethod ov m pl)
      callWith cpos f first (backTo cpos (starEach (e :: es) X.env)) (backToKw cpos (keywordEach [] X.env))) := by rfl)
    (hsw : swapsWith (.Call (.Attribute o m apos) (e :: es) [] cpos) (some (.Name y pos')) epos.line X.env = pure false := by rfl) :
    PS X (.Try [.Assign [.Name y pos'] (.Call (.Attribute o m apos) (e :: es) [] cpos) epos] [.ExceptHandler (some (.Name sx np)) (some n) (b₀ :: suite) hpos] [] [] pos) (tTryM C0 m sp dvs C i j ta t ts) := by
  intro pins s σ H D I h
  refine wpAny_Try_except (wpAny_execs_cons (wpAny_Assign_Name (wpAny_mono (Q := EP X pins σ fun v H2 => D.nx (σ.set i (some v)) H2) ?_ (fun v s1 ⟨x, H1, I1, r1, q1⟩ => store_ok I1 hN hi hy r1 (fun s2 I2 => wpAny_execs_nil (wpAny_execs_nil ⟨_, H1, I2, q1⟩)) hf) fun _ _ z => z) hsw))
  refine PySem.W.methodCall_KW (pl := pl) (wpAny_mono (ho pins s σ H _ (I.wish _) h) (fun u s1 ⟨x, H1, I1, rx, a, dx, fs, ex, ea, l, q⟩ => ?_) fun _ _ z => z.elim) ht
  subst ex
  replace I1 := I1.unwish
  obtain rfl : u = Value.ref a := rx
  refine getmeth_ok I1 ea c hm l ?_
  refine PySem.W.callWith_K (first := [.ref a]) (h₀ := X.base) I.ok.mod.kin hm.kp (wpAny_mono (ha cpos pins s1 σ H1 _ (I1.wish _) q) (fun us s2 ⟨vs, H2, I2, r, q2⟩ => ⟨I2.kIn, ?_⟩) fun _ _ z => z.elim) he hpl
  replace I2 := I2.unwish
  have r2 : Vals (.ref a :: (vs ++ dvs)) (.ref a :: (us ++ ds)) := .cons rfl (r.append hd)
  have hl : ((.ref a :: us) ++ ds).length = ps.length := by
    have e := r2.length
    rw [F.len _ _ _ _ q2] at e
    exact e.symm
  refine wpAny_call (codeAny_mono (F.run X.A X.stack s2 H2 ⟨.ref a :: us, []⟩ (.ref a :: (us ++ ds)) (.ref a :: (vs ++ dvs)) _ _ hr I2.env0 (hb s2 (.ref a :: us) I2.kIn hl) r2 q2) fun r s3 hq => ?_)
  cases r with
  | error e2 =>
    replace hq : CXC X.prog X.w (.ref C) X.stack H2 s2 (fun _ ox H2 => ∀ x, ox = some x → H2 x = none → ts (D1 D j) (σ.set j (some (.ref x))) (upd H2 x (excO x C))) e2 s3 := hq
    exact caught_as I2 hcalm hst hfm hgS hmS cC cS b2 hin hN hj hn hs hdb hq fun x H2 z y => z x rfl y
  | ok fl =>
    cases fl with
    | ret u => exact I2.after hq
    | next => exact hq.elim
    | brk => exact hq.elim
    | cont => exact hq.elim
end
theorem bps_dead {X : Cx} {st : Stmt} : Bx (PS X st tNever) := bps_never
section
variable {X : Cx} {C0 C S f : Addr} {k2 : Nat} {fd : FuncData} {ps : List Str} {sp : Sp} {dvs : List V} {ds : List Value} {nid nid2 : String} {bB bB2 : List Value} {m sx n y : Str} {p np hpos cpos apos epos pos pos' : Pos} {b₀ : Stmt} {suite : List Stmt} {k j : Nat} {ta : TE} {t : TA} {ts : TS} {o e : Expr} {es : List Expr}
theorem bps_tryM {pl : Sem Bool} (ho : Bx (PE X.nox o ta)) (c : Cls X.K C0) (hm : Meth X.K C0 m f) (F : FnOk X.prog X.w X.K X.mg X.base (CXC X.prog X.w (.ref C)) k2 f fd ps sp) (hr : Room k2 X.A) (hb : Binds X.K fd ps ds) (hd : Vals dvs ds) (ha : Bx (PA X.nox (e :: es) t))
    (hcalm : X.calm = true) (hst : X.stack = X.env :: X.outer) (hfm : X.env.frame = some X.env.locals) (hgS : Gl X sx) (hmS : X.mg sx = some (.ref S))
    (cC : PySem.W.excIn X.K C bB nid = true) (cS : PySem.W.excIn X.K S bB2 nid2 = true) (b2 : bB2.contains (.type "BaseException") = true) (hin : (mroOf X.K C).tail.contains (.ref S) = true)
    (hN : X.N.Nodup) (hi : X.N[k]? = some y) (hy : Loc X.env.scope y) (hf : X.fn y = true ∨ X.env.scope.names.lookup y = some .local) (hj : X.N[j]? = some n) (hn : X.env.scope.names.lookup n = some .local) (hs : ∀ x, PSs (X.marked x) (b₀ :: suite) ts) (hdb : (sx == ("__debug__" : Str)) = false := by decide)
    (he : starEach (e :: es) X.env = (false, eval e X.env) :: starEach es X.env := by rfl) (hpl : (backTo cpos (starEach es X.env)).any (·.1) = false := by rfl)
    (ht : eval (.Call (.Attribute o m apos) (e :: es) [] cpos) X.env = (do
      let ov ← eval o X.env
      standAt apos.atName
      let (f, first) ← holding [ov] (getMethod ov m pl)
      callWith cpos f first (backTo cpos (starEach (e :: es) X.env)) (backToKw cpos (keywordEach [] X.env))) := by rfl)
    (hsw : swapsWith (.Call (.Attribute o m apos) (e :: es) [] cpos) (some (.Name y pos')) epos.line X.env = pure false := by rfl) :
    Bx (PS X (.Try [.Assign [.Name y pos'] (.Call (.Attribute o m apos) (e :: es) [] cpos) epos] [.ExceptHandler (some (.Name sx np)) (some n) (b₀ :: suite) hpos] [] [] pos) (tTryM C0 m sp dvs C k j ta t ts)) :=
  ⟨ps_tryM ho.1 c hm F hr hb hd ha.1 hcalm hst hfm hgS hmS cC cS b2 hin hN hi hy hf hj hn hs hdb he hpl ht hsw⟩
end
noncomputable def numT (n : Int) : Str := Str.ofString (toString n)
noncomputable def tFstr (x : Str) (te : TE) : TE := fun σ H Q => te σ H fun v H1 => ∃ n : Int, v = .int n ∧ n.natAbs.log2 < 1920 ∧ (x ++ numT n).length ≤ sizeLine ∧ Q (.str (x ++ numT n)) H1
theorem empty_app (x : Str) : Str.empty ++ x = x := by
  show (⟨#[] ++ x.cps⟩ : Str) = x
  rw [Array.empty_append]
theorem bpe_fstr {X : Cx} {x : Str} {kd} {e : Expr} {p1 p2 pos : Pos} {te : TE} (he : Bx (PE X e te)) (hx : x.length ≤ sizeLine := by decide +kernel) : Bx (PE X (.JoinedStr [.Constant (.str x) kd p1, .FormattedValue e (-1) none p2] pos) (tFstr x te)) := by
  refine ⟨fun pins s σ H Q I h => ?_⟩
  refine JoinedStr_many (joinParts_cons ?_)
  refine Calls.Constant_str ?_
  have I1 : Inv X pins σ H { s with toks := s.toks + 1 } := I.tok _
  refine ⟨by rw [empty_app]; exact hx, ?_⟩
  rw [empty_app]
  refine joinParts_cons (FormattedValue_plain (wpAny_mono (he.1 pins _ σ H _ I1 h) (fun u s1 ⟨v, H1, I2, rv, n, ev, hn, hl, q⟩ => ?_) fun _ _ z => z))
  subst ev
  obtain ⟨t, rfl⟩ := rv
  refine formatField_int_small hn ?_
  refine ⟨hl, joinParts_nil ?_ hl⟩
  exact ⟨.str (x ++ numT n), H1, I2.tok _, ⟨_, rfl⟩, q⟩
theorem mt_part {X : Cx} : MtR X "str.partition" (fun x vs H Q => ∃ (z y : Str), x = .str z ∧ vs = [.str y] ∧ (y.length == 0) = false ∧ z.length ≤ sizeLine ∧
    (∀ i r, Builtin.Str.occurrences z y 0 z.length 1 = i :: r → ∀ D, H D = none → Q (.ref D) (upd H D (.tup [.str (Builtin.Str.strSub z 0 i), .str y, .str (Builtin.Str.strSub z (i + y.length) z.length)]))) ∧
    (Builtin.Str.occurrences z y 0 z.length 1 = [] → ∀ D, H D = none → Q (.ref D) (upd H D (.tup [.str z, .str Str.empty, .str Str.empty])))) := by
  intro pins s σ H x vs v us Q I rx rv h
  obtain ⟨z, y, rfl, rfl, hy, hz, q1, q2⟩ := h
  obtain ⟨tk, rfl⟩ := rx
  obtain ⟨u, rfl, ru⟩ := rv.one
  obtain ⟨tu, rfl⟩ := ru
  refine call_meets F.slot_str_partition (typeIs_str s z tk) F.entry_str_partition (F.args_str_partition_2 _ _) (meets_str_partition z y tk tu hy hz) ?_
  cases e : Builtin.Str.occurrences z y 0 z.length 1 with
  | nil =>
    refine ⟨.ref s.heap.objs.size, _, I.laid (t' := s.toks + 1) (fun b u e => Heap.get?_push_of_some _ e) (Nat.le_refl _) ?_, rfl, q2 e _ (I.hok.fresh (Nat.le_refl _))⟩
    exact ⟨(by show 3 ≤ sizeLine; decide), _, .cons ⟨_, rfl⟩ (.cons ⟨_, rfl⟩ (.cons ⟨_, rfl⟩ .nil)), ⟨_, Heap.get?_push_size _ rfl, rfl, _, rfl⟩⟩
  | cons i r =>
    refine ⟨.ref s.heap.objs.size, _, I.laid (t' := s.toks + 1 + 1) (fun b u e => Heap.get?_push_of_some _ e) (Nat.le_refl _) ?_, rfl, q1 i r e _ (I.hok.fresh (Nat.le_refl _))⟩
    exact ⟨(by show 3 ≤ sizeLine; decide), _, .cons ⟨_, rfl⟩ (.cons ⟨_, rfl⟩ (.cons ⟨_, rfl⟩ .nil)), ⟨_, Heap.get?_push_size _ rfl, rfl, _, rfl⟩⟩
theorem mt_partA {X : Cx} : MtR X "str.partition" (fun x vs H Q => ∃ (z y : Str) (c : Nat), x = .str z ∧ vs = [.str y] ∧ y = ⟨#[c]⟩ ∧ z.length ≤ sizeLine ∧
    (∀ a b, z.cps.toList = a ++ c :: b → c ∉ a → ∀ D, H D = none → Q (.ref D) (upd H D (.tup [.str ⟨a.toArray⟩, .str y, .str ⟨b.toArray⟩]))) ∧
    (c ∉ z.cps.toList → ∀ D, H D = none → Q (.ref D) (upd H D (.tup [.str z, .str Str.empty, .str Str.empty])))) := by
  intro pins s σ H x vs v us Q I rx rv h
  obtain ⟨z, y, c, rfl, rfl, ey, hz, q1, q2⟩ := h
  subst ey
  refine mt_part pins s σ H _ _ v us Q I rx rv ⟨z, _, rfl, rfl, rfl, hz, fun i r e D hD => ?_, fun e D hD => q2 (fun hm => ?_) D hD⟩
  · rcases StrLaws.occ_head z ⟨#[c]⟩ 1 (Nat.le_refl 1) with ⟨h0, _⟩ | ⟨i', r', h0, hi, hn⟩
    · rw [h0] at e; cases e
    · rw [h0] at e
      cases e
      have hm := (StrLaws.subAt_one z c i).mp hi
      obtain ⟨hlt, hv⟩ := List.getElem?_eq_some_iff.mp hm
      have e1 : z.cps.toList = z.cps.toList.take i ++ c :: z.cps.toList.drop (i + 1) := by
        rw [← hv, List.getElem_cons_drop, List.take_append_drop]
      have e2 : (Builtin.Str.strSub z 0 i) = ⟨(z.cps.toList.take i).toArray⟩ := by
        show (⟨_⟩ : Str) = ⟨_⟩
        congr 1
        apply Array.toList_inj.mp
        have := StrLaws.strSub_toList z 0 i
        rw [List.drop_zero, Nat.sub_zero] at this
        exact this
      have e3 : (Builtin.Str.strSub z (i + (⟨#[c]⟩ : Str).length) z.length) = ⟨(z.cps.toList.drop (i + 1)).toArray⟩ := by
        show (⟨_⟩ : Str) = ⟨_⟩
        congr 1
        apply Array.toList_inj.mp
        have := StrLaws.strSub_toList z (i + 1) z.length
        rw [List.take_of_length_le (by simp [Str.length])] at this
        exact this
      rw [e2, e3]
      refine q1 _ _ e1 (fun hc => ?_) D hD
      obtain ⟨j, hj⟩ := List.getElem?_of_mem hc
      have hj2 : j < i := by
        have := (List.getElem?_eq_some_iff.mp hj).1
        rw [List.length_take] at this
        omega
      rw [List.getElem?_take, if_pos hj2] at hj
      exact hn j hj2 ((StrLaws.subAt_one z c j).mpr hj)
  · have := StrLaws.found_one z c
    rw [e, decide_eq_true hm] at this
    cases this
theorem vals_bools {bs : List Bool} : ∀ {us : List Value}, Vals (bs.map V.bl) us → us = bs.map Value.bool := by
  induction bs with
  | nil => intro us h; cases h; rfl
  | cons b bs ih => intro us h; cases h with | cons r h => rw [ih h]; cases (show _ = _ from r); rfl
open PySem.SeqAt in
theorem eq_bools {A : Around} {s : Shared} {bs : List Bool} (k : Bool) : ∀ y, y ∈ bs.map Value.bool → EqAt A s y (.bool k) (isBoolOf k y) := fun y hy => by
  obtain ⟨b, _, rfl⟩ := List.mem_map.mp hy
  exact EqAt.bool_bool b k
open PySem.SeqAt in
theorem mt_countB {X : Cx} : MtR X "list.count" (fun x vs H Q => ∃ (l : Addr) (bs : List Bool) (k : Bool), x = .ref l ∧ vs = [.bl k] ∧ H l = some (.lst (bs.map V.bl)) ∧ Q (.int (bs.countP (· == k) : Nat)) H) := by
  intro pins s σ H x vs v us Q I rx rv h
  obtain ⟨l, bs, k, rfl, rfl, hH, q⟩ := h
  cases (show _ = _ from rx)
  obtain ⟨u, rfl, ru⟩ := rv.one
  cases (show _ = _ from ru)
  obtain ⟨z, its, n, r, hl, e⟩ := I.lstM hH
  obtain rfl := vals_bools r
  refine call_meets F.slot_list_count ⟨_, e, rfl⟩ F.entry_list_count (F.args_list_count_2 _ _) (list_countAt l _ n none #[] (.bool k) (isBoolOf k)) ⟨e, fun y hy => eq_bools k y (by simpa using hy), ?_⟩
  refine ⟨.int _, H, I.tok _, ⟨_, rfl⟩, ?_⟩
  have e2 : ((bs.map Value.bool).toArray.toList.countP (isBoolOf k)) = bs.countP (· == k) := by
    rw [List.countP_map]
    rfl
  rw [e2]
  exact q
open PySem.SeqAt in
theorem mt_indexB {X : Cx} : MtR X "list.index" (fun x vs H Q => ∃ (l : Addr) (bs : List Bool) (k : Bool) (j : Nat), x = .ref l ∧ vs = [.bl k] ∧ H l = some (.lst (bs.map V.bl)) ∧ bs.length ≤ 1000 ∧ bs[j]? = some k ∧ (∀ i, i < j → bs[i]? ≠ some k) ∧ Q (.int (j : Int)) H) := by
  intro pins s σ H x vs v us Q I rx rv h
  obtain ⟨l, bs, k, j, rfl, rfl, hH, hb, hj, hno, q⟩ := h
  cases (show _ = _ from rx)
  obtain ⟨u, rfl, ru⟩ := rv.one
  cases (show _ = _ from ru)
  obtain ⟨z, its, n, r, hl, e⟩ := I.lstM hH
  obtain rfl := vals_bools r
  obtain ⟨hlt, hv⟩ := List.getElem?_eq_some_iff.mp hj
  refine call_meets F.slot_list_index ⟨_, e, rfl⟩ F.entry_list_index (F.args_list_index_2 _ _) (list_indexAt l _ n none #[] (.bool k) (isBoolOf k) j (by simpa using hlt) (by omega) ?_ fun m hm lt => ?_) ⟨e, fun y hy => eq_bools k y (by simpa using hy), ?_⟩
  · simp [isBoolOf, hv]
  · have hm' : m < bs.length := by simpa using hm
    have := hno m lt
    rw [List.getElem?_eq_getElem hm'] at this
    simp only [List.getElem_toArray, List.getElem_map, isBoolOf]
    exact beq_eq_false_iff_ne.mpr fun z => this (by rw [z])
  · exact ⟨.int _, H, I.tok _, ⟨_, rfl⟩, q⟩
theorem rep_one (c : Nat) : ∀ (n : Nat) (a : Array Nat), ((List.replicate n #[c]).foldl (· ++ ·) a).toList = a.toList ++ List.replicate n c
  | 0, a => by simp
  | n + 1, a => by
    rw [List.replicate_succ, List.foldl_cons, rep_one c n, Array.toList_append, List.append_assoc]
    rfl
theorem op_mulC {X : Cx} : OpR X (binaryOp .Mult) (fun x y H Q => ∃ (z : Str) (c : Nat) (n : Int), x = .str z ∧ z = ⟨#[c]⟩ ∧ y = .int n ∧ 1 ≤ n ∧ n ≤ 100 ∧ Q (.str ⟨(List.replicate n.toNat c).toArray⟩) H) := by
  intro pins s σ H x y v u Q I rx ry h
  obtain ⟨z, c, n, rfl, rfl, rfl, n1, n2, q⟩ := h
  by_cases e : n = 1
  · subst e
    obtain ⟨t, rfl⟩ := rx
    obtain ⟨t', rfl⟩ := ry
    refine PySem.P.mul_str rfl (fun _ z => by cases z) (fun _ z => by cases z) ?_
    exact ⟨.str _, H, I, ⟨_, rfl⟩, q⟩
  · have er : repS ⟨#[c]⟩ n.toNat = ⟨(List.replicate n.toNat c).toArray⟩ := by
      show (⟨_⟩ : Str) = ⟨_⟩
      congr 1
      apply Array.toList_inj.mp
      have := rep_one c n.toNat #[]
      simpa using this
    refine op_mul_str pins s σ H _ _ v u Q I rx ry ⟨_, n, rfl, rfl, by omega, by omega, rfl, ?_, by rw [er]; exact q⟩
    rw [er]
    show (List.replicate n.toNat c).toArray.size ≤ 1000
    rw [List.size_toArray, List.length_replicate]
    omega
end L2
set_option exponentiation.threshold 3000
namespace My
open PySem L2
open PySem.W (Dat kqdP kqdPs kqdOk)
noncomputable def tab_LEG_BOUNDS : List (Str × PyProof.Rows.KTD.Dat) := [("and", .tup ([2, 4].map PyData.int)), ("or", .tup ([2, 4].map PyData.int)), ("odd", .tup ([2, 4].map PyData.int)), ("not", .tup ([1, 1].map PyData.int)), ("choose", .tup ([3, 3].map PyData.int)), ("zero", .tup ([0, 0].map PyData.int)), ("one", .tup ([0, 0].map PyData.int))]
theorem lenV1 {us : List Value} (h : us.length = 1) : ∃ x0, us = [x0] := match us, h with | [x0], _ => ⟨x0, rfl⟩
theorem lenV2 {us : List Value} (h : us.length = 2) : ∃ x0 x1, us = [x0, x1] := match us, h with | [x0, x1], _ => ⟨x0, x1, rfl⟩
theorem lenV3 {us : List Value} (h : us.length = 3) : ∃ x0 x1 x2, us = [x0, x1, x2] := match us, h with | [x0, x1, x2], _ => ⟨x0, x1, x2, rfl⟩
set_option genInjectivity false
structure Def (K : PySem.W.Frag) (mg : Str → Option Value) (x : Str) (st : Stmt) (ps : List Str) (f : Addr) (fd : FuncData) : Prop where
  F : Fun K x x st f fd
  b : Binds K fd ps []
  m : mg x = some (.ref f)
structure DefM (K : PySem.W.Frag) (C : Addr) (x q : Str) (st : Stmt) (ps : List Str) (f : Addr) (fd : FuncData) : Prop where
  F : Fun K x q st f fd
  b : Binds K fd ps []
  m : Meth K C x f
structure DefD (K : PySem.W.Frag) (mg : Str → Option Value) (x : Str) (st : Stmt) (ps : List Str) (f : Addr) (fd : FuncData) (T : Addr) (tk : Tok) : Prop where
  F : FunD K x x st f fd T
  b : Binds K fd ps []
  b1 : Binds K fd ps [.int 1 tk]
  m : mg x = some (.ref f)
structure Adr where
  f_works_of : Addr
  fd_works_of : FuncData
  f_check_gate : Addr
  fd_check_gate : FuncData
  f_is_kind : Addr
  fd_is_kind : FuncData
  f_are_wires_below : Addr
  fd_are_wires_below : FuncData
  f_wire_worths : Addr
  fd_wire_worths : FuncData
  f_outputs_at : Addr
  fd_outputs_at : FuncData
  f_check_row : Addr
  fd_check_row : FuncData
  f_gate_worth : Addr
  fd_gate_worth : FuncData
  dt_gate_worth : Addr
  tk_gate_worth : Tok
  f_read_works : Addr
  fd_read_works : FuncData
  f_read_row : Addr
  fd_read_row : FuncData
  f_read_number : Addr
  fd_read_number : FuncData
  f_read_order : Addr
  fd_read_order : FuncData
  f_read_things : Addr
  fd_read_things : FuncData
  f_read_worths : Addr
  fd_read_worths : FuncData
  f_told_of : Addr
  fd_told_of : FuncData
  f_shown : Addr
  fd_shown : FuncData
  f_law_stir : Addr
  fd_law_stir : FuncData
  f_law_deck : Addr
  fd_law_deck : FuncData
  f_law_take : Addr
  fd_law_take : FuncData
  f_law_legs : Addr
  fd_law_legs : FuncData
  f_law_works : Addr
  fd_law_works : FuncData
  f_law_gate : Addr
  fd_law_gate : FuncData
  f_law_worths : Addr
  fd_law_worths : FuncData
  f_law_row : Addr
  fd_law_row : FuncData
  f_law_text : Addr
  fd_law_text : FuncData
  f_law_told : Addr
  fd_law_told : FuncData
  f_law_put : Addr
  fd_law_put : FuncData
  f_law_figures : Addr
  fd_law_figures : FuncData
  f_law_runs : Addr
  fd_law_runs : FuncData
  f_law : Addr
  fd_law : FuncData
  f_Desk___init__ : Addr
  fd_Desk___init__ : FuncData
  f_Desk_say : Addr
  fd_Desk_say : FuncData
  f_Desk_keep_rows : Addr
  fd_Desk_keep_rows : FuncData
  c_LEG_BOUNDS : Addr
  c_WORDS_ALONE : Addr
  k_FIGURES : Tok
  x_StuckError : Addr
  x_NoWorks : Addr
  x_NoRow : Addr
  x_NoFault : Addr
  x_NoText : Addr
  x_NoOrder : Addr
  x_TooMany : Addr
  x_Desk : Addr
structure Txt (K : PySem.W.Frag) (mg : Str → Option Value) (t : Adr) : Prop where
  d_works_of : Def K mg "works_of" s_works_of ["inputs", "gates", "outputs"] t.f_works_of t.fd_works_of
  d_check_gate : Def K mg "check_gate" s_check_gate ["kind", "legs", "own_wire"] t.f_check_gate t.fd_check_gate
  d_is_kind : Def K mg "is_kind" s_is_kind ["word"] t.f_is_kind t.fd_is_kind
  d_are_wires_below : Def K mg "are_wires_below" s_are_wires_below ["numbers", "bound"] t.f_are_wires_below t.fd_are_wires_below
  d_wire_worths : Def K mg "wire_worths" s_wire_worths ["works", "row"] t.f_wire_worths t.fd_wire_worths
  d_outputs_at : Def K mg "outputs_at" s_outputs_at ["works", "row"] t.f_outputs_at t.fd_outputs_at
  d_check_row : Def K mg "check_row" s_check_row ["works", "row"] t.f_check_row t.fd_check_row
  d_gate_worth : DefD K mg "gate_worth" s_gate_worth ["kind", "worths", "ones"] t.f_gate_worth t.fd_gate_worth t.dt_gate_worth t.tk_gate_worth
  d_read_works : Def K mg "read_works" s_read_works ["text"] t.f_read_works t.fd_read_works
  d_read_row : Def K mg "read_row" s_read_row ["row"] t.f_read_row t.fd_read_row
  d_read_number : Def K mg "read_number" s_read_number ["text"] t.f_read_number t.fd_read_number
  d_read_order : Def K mg "read_order" s_read_order ["row"] t.f_read_order t.fd_read_order
  d_read_things : Def K mg "read_things" s_read_things ["word", "text"] t.f_read_things t.fd_read_things
  d_read_worths : Def K mg "read_worths" s_read_worths ["text"] t.f_read_worths t.fd_read_worths
  d_told_of : Def K mg "told_of" s_told_of ["works", "order"] t.f_told_of t.fd_told_of
  d_shown : Def K mg "shown" s_shown ["worths"] t.f_shown t.fd_shown
  d_law_stir : Def K mg "_law_stir" s_law_stir ["cell", "k"] t.f_law_stir t.fd_law_stir
  d_law_deck : Def K mg "_law_deck" s_law_deck ["cell"] t.f_law_deck t.fd_law_deck
  d_law_take : Def K mg "_law_take" s_law_take ["deck", "many"] t.f_law_take t.fd_law_take
  d_law_legs : Def K mg "_law_legs" s_law_legs ["deck", "kind"] t.f_law_legs t.fd_law_legs
  d_law_works : Def K mg "_law_works" s_law_works ["deck", "most"] t.f_law_works t.fd_law_works
  d_law_gate : Def K mg "_law_gate" s_law_gate ["kind", "some"] t.f_law_gate t.fd_law_gate
  d_law_worths : Def K mg "_law_worths" s_law_worths ["works", "stuck", "row"] t.f_law_worths t.fd_law_worths
  d_law_row : Def K mg "_law_row" s_law_row ["deck", "works"] t.f_law_row t.fd_law_row
  d_law_text : Def K mg "_law_text" s_law_text ["works"] t.f_law_text t.fd_law_text
  d_law_told : Def K mg "_law_told" s_law_told ["desk", "row"] t.f_law_told t.fd_law_told
  d_law_put : Def K mg "_law_put" s_law_put ["desk", "text"] t.f_law_put t.fd_law_put
  d_law_figures : Def K mg "_law_figures" s_law_figures ["worths"] t.f_law_figures t.fd_law_figures
  d_law_runs : Def K mg "_law_runs" s_law_runs ["deck", "desk", "works"] t.f_law_runs t.fd_law_runs
  d_law : Def K mg "law" s_law ["script"] t.f_law t.fd_law
  d_Desk___init__ : DefM K t.x_Desk "__init__" "Desk.__init__" s_Desk___init__ ["self"] t.f_Desk___init__ t.fd_Desk___init__
  d_Desk_say : DefM K t.x_Desk "say" "Desk.say" s_Desk_say ["self", "row"] t.f_Desk_say t.fd_Desk_say
  d_Desk_keep_rows : DefM K t.x_Desk "keep_rows" "Desk.keep_rows" s_Desk_keep_rows ["self", "rows"] t.f_Desk_keep_rows t.fd_Desk_keep_rows
  z_ValueError : mg "ValueError" = none
  z_all : mg "all" = none
  z_enumerate : mg "enumerate" = none
  z_int : mg "int" = none
  z_isinstance : mg "isinstance" = none
  z_len : mg "len" = none
  z_list : mg "list" = none
  z_min : mg "min" = none
  z_range : mg "range" = none
  z_str : mg "str" = none
  z_tuple : mg "tuple" = none
  g_LEG_BOUNDS : mg "LEG_BOUNDS" = some (.ref t.c_LEG_BOUNDS)
  k_LEG_BOUNDS : TabK K t.c_LEG_BOUNDS tab_LEG_BOUNDS
  g_WORDS_ALONE : mg "WORDS_ALONE" = some (.ref t.c_WORDS_ALONE)
  k_WORDS_ALONE : TupK K t.c_WORDS_ALONE ["clear", "fewest", "bare", "less", "next"]
  g_FIGURES : mg "FIGURES" = some (.str "0123456789" t.k_FIGURES)
  g_StuckError : mg "StuckError" = some (.ref t.x_StuckError)
  k_StuckError : XcOk K t.x_StuckError "ValueError" "ValueError.__new__" [.type "ValueError", .type "Exception", .type "BaseException", .type "object"]
  g_NoWorks : mg "NoWorks" = some (.ref t.x_NoWorks)
  k_NoWorks : XcOk K t.x_NoWorks "ValueError" "ValueError.__new__" [.type "ValueError", .type "Exception", .type "BaseException", .type "object"]
  g_NoRow : mg "NoRow" = some (.ref t.x_NoRow)
  k_NoRow : XcOk K t.x_NoRow "ValueError" "ValueError.__new__" [.type "ValueError", .type "Exception", .type "BaseException", .type "object"]
  g_NoFault : mg "NoFault" = some (.ref t.x_NoFault)
  k_NoFault : XcOk K t.x_NoFault "ValueError" "ValueError.__new__" [.type "ValueError", .type "Exception", .type "BaseException", .type "object"]
  g_NoText : mg "NoText" = some (.ref t.x_NoText)
  k_NoText : XcOk K t.x_NoText "ValueError" "ValueError.__new__" [.type "ValueError", .type "Exception", .type "BaseException", .type "object"]
  g_NoOrder : mg "NoOrder" = some (.ref t.x_NoOrder)
  k_NoOrder : XcOk K t.x_NoOrder "ValueError" "ValueError.__new__" [.type "ValueError", .type "Exception", .type "BaseException", .type "object"]
  g_TooMany : mg "TooMany" = some (.ref t.x_TooMany)
  k_TooMany : XcOk K t.x_TooMany "ValueError" "ValueError.__new__" [.type "ValueError", .type "Exception", .type "BaseException", .type "object"]
  g_Desk : mg "Desk" = some (.ref t.x_Desk)
  cl_Desk : Cls K t.x_Desk
  mk_Desk : Mk K t.x_Desk t.f_Desk___init__
  na_rows : NoAttr K t.x_Desk "rows"
  na_answers : NoAttr K t.x_Desk "answers"
  i_TOrder : PySem.W.kitOne K (.ref t.x_NoText) (.ref t.x_NoOrder) = some false
  i_TText : PySem.W.kitOne K (.ref t.x_NoText) (.ref t.x_NoText) = some true
  i_TWorks : PySem.W.kitOne K (.ref t.x_NoText) (.ref t.x_NoWorks) = some false
  i_TRow : PySem.W.kitOne K (.ref t.x_NoText) (.ref t.x_NoRow) = some false
  i_TFault : PySem.W.kitOne K (.ref t.x_NoText) (.ref t.x_NoFault) = some false
  i_ToMany : PySem.W.kitOne K (.ref t.x_NoText) (.ref t.x_TooMany) = some false
  i_valueT : PySem.W.kitOne K (.ref t.x_NoText) (.type "ValueError") = some true
  i_aboveNoText : (mroOf K t.x_NoText).tail.contains (.ref t.x_StuckError) = true

noncomputable def sp_stir : Sp := fun vs H Q _ => ∃ (c k : Int), vs = [.int c, .int k] ∧ (k = 1 ∨ k = 2 ∨ k = 3) ∧ ∀ r : Int, 0 ≤ r → r < 10 ^ 62 → Q (.int r) H
noncomputable def sp_deck : Sp := fun vs H Q _ => ∃ c : Int, vs = [.int c] ∧ ∀ (p : Addr) (n : Int), H p = none → Q (.ref p) (upd H p (.lst [.int n]))
noncomputable def sp_take : Sp := fun vs H Q _ => ∃ (p : Addr) (n m : Int), vs = [.ref p, .int m] ∧ H p = some (.lst [.int n]) ∧ 0 < m ∧ m < 1073741824 ∧ ∀ r n' : Int, 0 ≤ r → r < m → Q (.int r) (upd H p (.lst [.int n']))
noncomputable def isKind (x : Str) : Prop := x = "and" ∨ x = "or" ∨ x = "odd" ∨ x = "not" ∨ x = "choose" ∨ x = "zero" ∨ x = "one"
noncomputable def sp_legs : Sp := fun vs H Q _ => ∃ (p : Addr) (n : Int) (x : Str), vs = [.ref p, .str x] ∧ H p = some (.lst [.int n]) ∧ isKind x ∧
  ∀ (r : Nat) (n' : Int) (H' : Hp), legsOk x r → SameB p H H' → H' p = some (.lst [.int n']) → Q (.int r) H'
noncomputable def sp_works (K : PySem.W.Frag) : Sp := fun vs H Q _ => ∃ (p : Addr) (n : Int) (most : Nat), vs = [.ref p, .int most] ∧ H p = some (.lst [.int n]) ∧ most ≤ 20 ∧
  ∀ (w : Works) (r : Addr) (n' : Int) (G H' : Hp), WF most w → w.outs.length ≤ 3 → SameB p H H' → H' p = some (.lst [.int n']) → Same G H' → G p = none → (∀ b o, G b = some o → H b = none) → Rep K G (.ref r) (worksD w) → Q (.ref r) H'
noncomputable def sp_law (K : PySem.W.Frag) : Sp := fun vs H Q _ => ∃ (a : Addr) (ns : List Int), vs = [.ref a] ∧ SqL K H a (ns.map V.int) ∧ ns.length ≤ 63 ∧ ∀ H', Q (.bl true) H'

noncomputable def sp_awb (K : PySem.W.Frag) : Sp := fun vs H Q _ => ∃ (p : Addr) (bnd : Int) (ns : List Int), vs = [.ref p, .int bnd] ∧ (SqL K H p (ns.map V.int) ∨ SqT K H p (ns.map V.int)) ∧ ns.length ≤ 1000 ∧ ∀ H', Same H H' → Q (.bl (ns.all fun n => decide (0 ≤ n ∧ n < bnd))) H'
noncomputable def sp_ik (K : PySem.W.Frag) : Sp := fun vs H Q _ => ∃ x : Str, vs = [.str x] ∧ Q (.bl (PyProof.Rows.KTD.inKeys x tab_LEG_BOUNDS)) H
noncomputable def TX (z : Str) : Prop := z.length ≤ 600 ∧ ∀ c ∈ z.cps.toList, c < 128
noncomputable def numL (l : List Nat) : Option Nat := if l = [] ∨ (l.head? = some 48 ∧ l ≠ [48]) ∨ ¬ (∀ c ∈ l, 48 ≤ c ∧ c < 58) then none else some (readN l)
noncomputable def numsL : List (List Nat) → Option (List Int)
  | [] => some []
  | p :: ps => match numL p, numsL ps with
    | some n, some ns => some ((n : Int) :: ns)
    | _, _ => none
theorem numsL_len : ∀ {ps : List (List Nat)} {ns : List Int}, numsL ps = some ns → ns.length = ps.length
  | [], _, e => by cases e; rfl
  | q :: ps, ns, e => by
    unfold numsL at e
    split at e
    · rename_i n ms e1 e2
      cases e
      rw [List.length_cons, List.length_cons, numsL_len e2]
    · cases e
theorem numsL_snoc {p : List Nat} {n : Nat} (e : numL p = some n) : ∀ {ps : List (List Nat)} {ms : List Int}, numsL ps = some ms → numsL (ps ++ [p]) = some (ms ++ [(n : Int)])
  | [], ms, h => by
    cases h
    show numsL [p] = _
    unfold numsL
    rw [e]
    rfl
  | q :: ps, ms, h => by
    unfold numsL at h
    split at h
    · rename_i k ns e1 e2
      cases h
      have ih := numsL_snoc e e2
      show numsL (q :: (ps ++ [p])) = _
      unfold numsL
      rw [e1, ih]
      rfl
    · cases h
theorem numsL_bad {p : List Nat} (e : numL p = none) : ∀ {ps : List (List Nat)}, p ∈ ps → numsL ps = none
  | q :: ps, h => by
    unfold numsL
    rcases List.mem_cons.mp h with rfl | h
    · rw [e]
    · rw [numsL_bad e h]
      cases numL q <;> rfl
theorem readN_lt : ∀ (l : List Nat), (∀ c ∈ l, 48 ≤ c ∧ c < 58) → readN l < 10 ^ l.length := by
  intro l
  have key : ∀ (l : List Nat) (a k : Nat), (∀ c ∈ l, 48 ≤ c ∧ c < 58) → a < 10 ^ k → l.foldl (fun a c => a * 10 + (c - 48)) a < 10 ^ (k + l.length) := by
    intro l
    induction l with
    | nil => intro a k _ h; exact h
    | cons c l ih =>
      intro a k hd h
      have hc := hd c (.head _)
      have := ih (a * 10 + (c - 48)) (k + 1) (fun d h => hd d (.tail _ h)) (by rw [Nat.pow_succ]; omega)
      rw [List.length_cons, show k + (l.length + 1) = k + 1 + l.length by omega]
      exact this
  intro hd
  have := key l 0 0 hd (by decide)
  rw [Nat.zero_add] at this
  exact this
theorem strT {z : Str} {l : List Nat} (h : z.cps.toList = l) : z = ⟨l.toArray⟩ := by
  cases z with
  | mk a =>
    congr 1
    exact Array.toList_inj.mp (by simpa using h)
theorem tlA (l : List Nat) : (⟨l.toArray⟩ : Str).cps.toList = l := by simp
theorem blankA : Str.ofString " " = ⟨#[32]⟩ := by decide +kernel
theorem fig_yes : ∀ c, c < 128 → 48 ≤ c → c < 58 → PySem.Builtin.Str.occurrences (Str.ofString "0123456789") ⟨#[c]⟩ 0 (Str.ofString "0123456789").length 1 = [c - 48] := by decide +kernel
theorem fig_no : ∀ c, c < 128 → ¬ (48 ≤ c ∧ c < 58) → PySem.Builtin.Str.occurrences (Str.ofString "0123456789") ⟨#[c]⟩ 0 (Str.ofString "0123456789").length 1 = [] := by decide +kernel
theorem cutA_one (v : V) (xs : List V) : cutV (v :: xs) (some 1) none = xs := by
  have e1 : HT.sIx (v :: xs).length 0 (some 1) = 1 := by
    simp only [HT.sIx]
    rw [if_neg (by decide), List.length_cons]
    exact Nat.min_eq_left (Nat.le_add_left _ _)
  have e2 : HT.sIx (v :: xs).length (v :: xs).length none = (v :: xs).length := rfl
  unfold cutV
  rw [e1, e2, List.drop_one, List.tail_cons]
  exact List.take_of_length_le (by simp)
theorem join_parts (c : Nat) : ∀ (ps : List (List Nat)), (∀ p ∈ ps, p.length ≤ (joinL c ps).length ∧ ∀ d ∈ p, d ∈ joinL c ps) ∧ ps.length ≤ (joinL c ps).length + 1
  | [] => ⟨fun p hp => (nomatch hp), Nat.zero_le _⟩
  | [p] => ⟨fun q hq => by rw [List.mem_singleton.mp hq]; exact ⟨Nat.le_refl _, fun d hd => hd⟩, Nat.le_add_left _ _⟩
  | p :: q :: r => by
    obtain ⟨h1, h2⟩ := join_parts c (q :: r)
    have e : (joinL c (p :: q :: r)) = p ++ c :: joinL c (q :: r) := rfl
    have el : (joinL c (p :: q :: r)).length = p.length + ((joinL c (q :: r)).length + 1) := by rw [e, List.length_append, List.length_cons]
    refine ⟨fun s hs => ?_, by rw [List.length_cons, el]; omega⟩
    rw [el]
    rcases List.mem_cons.mp hs with rfl | hs
    · exact ⟨by omega, fun d hd => by rw [e]; exact List.mem_append_left _ hd⟩
    · have := h1 s hs
      exact ⟨by omega, fun d hd => by rw [e]; exact List.mem_append_right _ (.tail _ (this.2 d hd))⟩
theorem cut_parts (c : Nat) (l : List Nat) : (∀ p ∈ cutL c l, p.length ≤ l.length ∧ ∀ d ∈ p, d ∈ l) ∧ (cutL c l).length ≤ l.length + 1 := by
  have := join_parts c (cutL c l)
  rw [cutL_join] at this
  exact this
theorem TX.part {z : Str} (h : TX z) {c : Nat} {p : List Nat} (hp : p ∈ cutL c z.cps.toList) : TX ⟨p.toArray⟩ := by
  obtain ⟨h1, h2⟩ := (cut_parts c z.cps.toList).1 p hp
  refine ⟨?_, fun d hd => h.2 d (h2 d (by simpa using hd))⟩
  show p.toArray.size ≤ 600
  rw [List.size_toArray]
  have := h.1
  have e : z.cps.toList.length = z.length := Array.length_toList
  omega
theorem joinXA {α : Type} {A : Prop} {C : α → Hp → Prop} {st : α → St} {P : St → Hp → Prop} (h : (∀ v H4, C v H4 → P (st v) H4) → A) (r : ∀ v H4, C v H4 → P (st v) H4) : A := h r
noncomputable def Rz (H : Hp) (E : XK) : Prop := ∀ (H' : Hp) (x : Addr), Same H H' → H' x = none → E (.ref x) (some x) H'
theorem Rz.on {H H' : Hp} {E : XK} (r : Rz H E) (s : Same H H') : Rz H' E := fun H2 x s2 hx => r H2 x (s.trans s2) hx
noncomputable def sp_rdn : Sp := fun vs H Q E => ∃ z : Str, vs = [.str z] ∧ TX z ∧ (∀ n : Nat, numL z.cps.toList = some n → Q (.int n) H) ∧ (numL z.cps.toList = none → Rz H E)
noncomputable def sp_rdr : Sp := fun vs H Q E => ∃ (z : Str) (w : List Nat) (ps : List (List Nat)), vs = [.str z] ∧ TX z ∧ cutL 32 z.cps.toList = w :: ps ∧
  (∀ ns, numsL ps = some ns → ∀ (r q : Addr) (H' : Hp), Same H H' → H r = none → H q = none → H' r = some (.tup [.str ⟨w.toArray⟩, .ref q]) → H' q = some (.tup (ns.map V.int)) → Q (.ref r) H') ∧ (numsL ps = none → Rz H E)
theorem Rz.mono {H H1 : Hp} {E : XK} (h : Rz H E) (s : Same H H1) : Rz H1 E := fun H' x k n => h H' x (s.trans k) n
noncomputable def GoodGt (own : Int) (g : Str × List Int) : Prop := legsOk g.1 g.2.length ∧ ∀ l ∈ g.2, 0 ≤ l ∧ l < own
noncomputable def GoodW (b : Works) : Prop := 1 ≤ b.ins ∧ (∀ (k : Nat) g, b.gates[k]? = some g → GoodGt (b.ins + k) g) ∧ 1 ≤ b.outs.length ∧ ∀ o ∈ b.outs, 0 ≤ o ∧ o < b.ins + b.gates.length
noncomputable def sp_cgX (K : PySem.W.Frag) : Sp := fun vs H Q E => ∃ (x : Str) (la : Addr) (own : Int) (ls : List Int), vs = [.str x, .ref la, .int own] ∧ SqT K H la (ls.map V.int) ∧ ls.length ≤ 1000 ∧ (GoodGt own (x, ls) → ∀ H', Same H H' → Q .non H') ∧ (¬ GoodGt own (x, ls) → Rz H E)
theorem no_kind {x : Str} (h : ¬ isKind x) (n : Nat) : ¬ legsOk x n := fun l => by
  unfold isKind at h
  rcases l with ⟨e | e | e, _⟩ | ⟨e, _⟩ | ⟨e, _⟩ | ⟨e | e, _⟩
  · exact h (.inl e)
  · exact h (.inr (.inl e))
  · exact h (.inr (.inr (.inl e)))
  · exact h (.inr (.inr (.inr (.inl e))))
  · exact h (.inr (.inr (.inr (.inr (.inl e)))))
  · exact h (.inr (.inr (.inr (.inr (.inr (.inl e))))))
  · exact h (.inr (.inr (.inr (.inr (.inr (.inr e))))))
theorem calmF {P : Program} {w : World} {K : PySem.W.Frag} {mg : Str → Option Value} {base : Heap} {C : Value} {k : Nat} {f : Addr} {fd : FuncData} {ps : List Str} {sp : Sp} (F : FnOk P w K mg base (CXC P w C) k f fd ps sp) :
    FnOk P w K mg base CX0 k f fd ps (fun vs H Q _ => sp vs H Q fun _ _ _ => False) :=
  ⟨fun vs H Q _ h => F.len vs H Q _ h, fun A outer s H args us vs Q E hr he hb hv hs => codeAny_mono (F.run A outer s H args us vs Q _ hr he hb hv hs) fun r s' h => by
    cases r with
    | ok v =>
      cases v with
      | ret u => exact h
      | _ => exact h.elim
    | error e =>
      obtain ⟨x, H', _, _, _, _, _, _, z⟩ := h
      exact z⟩
noncomputable def allO {α β : Type} (f : α → Option β) : List α → Option (List β)
  | [] => some []
  | a :: l => match f a, allO f l with
    | some b, some bs => some (b :: bs)
    | _, _ => none
theorem allO_snoc {α β : Type} {f : α → Option β} {a : α} {b : β} (e : f a = some b) : ∀ {l : List α} {bs : List β}, allO f l = some bs → allO f (l ++ [a]) = some (bs ++ [b])
  | [], bs, h => by
    cases h
    show allO f [a] = _
    unfold allO
    rw [e]
    rfl
  | q :: l, bs, h => by
    unfold allO at h
    split at h
    · rename_i c ns e1 e2
      cases h
      have ih := allO_snoc e e2
      show allO f (q :: (l ++ [a])) = _
      unfold allO
      rw [e1, ih]
      rfl
    · cases h
theorem allO_bad {α β : Type} {f : α → Option β} {a : α} (e : f a = none) : ∀ {l : List α}, a ∈ l → allO f l = none
  | q :: l, h => by
    unfold allO
    rcases List.mem_cons.mp h with rfl | h
    · rw [e]
    · rw [allO_bad e h]
      cases f q <;> rfl
theorem allO_len {α β : Type} {f : α → Option β} : ∀ {l : List α} {bs : List β}, allO f l = some bs → bs.length = l.length
  | [], _, e => by cases e; rfl
  | q :: l, bs, e => by
    unfold allO at e
    split at e
    · rename_i n ms e1 e2
      cases e
      rw [List.length_cons, List.length_cons, allO_len e2]
    · cases e
theorem allO_get {α β : Type} {f : α → Option β} : ∀ {l : List α} {bs : List β}, allO f l = some bs → ∀ (j : Nat) (a : α), l[j]? = some a → ∃ b, f a = some b ∧ bs[j]? = some b
  | [], _, _, j, p, h => by cases j <;> cases h
  | q :: l, bs, e, j, p, h => by
    unfold allO at e
    split at e
    · rename_i n ms e1 e2
      cases e
      cases j with
      | zero => cases h; exact ⟨n, e1, rfl⟩
      | succ j => exact allO_get e2 j p h
    · cases e
noncomputable abbrev TRow := List Nat × List Int
noncomputable def rowN (l : List Nat) : Option TRow := match cutL 32 l with
  | [] => none
  | w :: ps => (numsL ps).map fun ns => (w, ns)
noncomputable def rowsN (l : List Nat) : Option (List TRow) := allO rowN (cutL 10 l)
noncomputable def inW : List Nat := [105, 110]
noncomputable def outW : List Nat := [111, 117, 116]
theorem in_eq : Str.ofString "in" = ⟨inW.toArray⟩ := by decide +kernel
theorem out_eq : Str.ofString "out" = ⟨outW.toArray⟩ := by decide +kernel
theorem feedA : Str.ofString "\n" = ⟨#[10]⟩ := by decide +kernel
noncomputable def gateN (r : TRow) : Str × List Int := (⟨r.1.toArray⟩, r.2)
theorem allO_mem {α β : Type} {f : α → Option β} : ∀ {l : List α} {bs : List β}, allO f l = some bs → ∀ b ∈ bs, ∃ a ∈ l, f a = some b
  | [], _, e, b, h => by cases e; cases h
  | q :: l, bs, e, b, h => by
    unfold allO at e
    split at e
    · rename_i n ms e1 e2
      cases e
      rcases List.mem_cons.mp h with rfl | h
      · exact ⟨q, .head _, e1⟩
      · obtain ⟨a, ha, z⟩ := allO_mem e2 b h
        exact ⟨a, .tail _ ha, z⟩
    · cases e
theorem rows_small {z : Str} (tx : TX z) {rs : List TRow} (e : allO rowN (cutL 10 z.cps.toList) = some rs) : ∀ r ∈ rs, r.2.length ≤ 601 := fun r hr => by
  obtain ⟨p, hp, z1⟩ := allO_mem e r hr
  have t1 := (tx.part hp).1
  have l1 : p.length ≤ 600 := by
    have : (⟨p.toArray⟩ : Str).length = p.length := by show p.toArray.size = _; simp
    omega
  unfold rowN at z1
  split at z1
  · cases z1
  · rename_i w ps ec
    cases en : numsL ps with
    | none => rw [en] at z1; cases z1
    | some ns =>
      rw [en] at z1
      cases z1
      have h1 := numsL_len en
      have h2 := (cut_parts 32 p).2
      rw [ec, List.length_cons] at h2
      show ns.length ≤ 601
      omega
noncomputable def Told (rs : List TRow) (b : Works) : Prop := ∃ (i : Int) (gs : List TRow) (os : List Int), rs = (inW, [i]) :: (gs ++ [(outW, os)]) ∧ (∀ g ∈ gs, isKind (gateN g).1) ∧ b = ⟨i, gs.map gateN, os⟩
noncomputable def ToldT (z : Str) (b : Works) : Prop := ∃ rs, rowsN z.cps.toList = some rs ∧ Told rs b
theorem strWA {w u : List Nat} : (V.str ⟨w.toArray⟩ = V.str ⟨u.toArray⟩) ↔ w = u := by
  constructor
  · intro h
    have := congrArg (fun x : Str => x.cps.toList) (V.str.inj h)
    simpa using this
  · rintro rfl
    rfl
noncomputable def sp_woG (K : PySem.W.Frag) : Sp := fun vs H Q E => ∃ (b : Works) (ga oa : Addr) (gs os : List V), vs = [.int b.ins, .ref ga, .ref oa] ∧ SqL K H ga gs ∧ SqL K H oa os ∧ Reps K H gs (b.gates.map gateD) ∧ Reps K H os (b.outs.map .int) ∧ b.gates.length ≤ 1000 ∧ b.outs.length ≤ 1000 ∧ (∀ g ∈ b.gates, g.2.length ≤ 1000) ∧
  (GoodW b → ∀ (r : Addr) (H' : Hp), Same H H' → Rep K H' (.ref r) (worksD b) → Q (.ref r) H') ∧ (¬ GoodW b → Rz H E)
noncomputable def sp_rdwX (K : PySem.W.Frag) : Sp := fun vs H Q E => ∃ z : Str, vs = [.str z] ∧ TX z ∧ (∀ b, ToldT z b → GoodW b ∧ ∀ (r : Addr) (H' : Hp), Same H H' → Rep K H' (.ref r) (worksD b) → Q (.ref r) H') ∧ ((¬ ∃ b, ToldT z b) → Rz H E)
theorem ndec {p : Prop} [Decidable p] (c : ¬ (!decide p) = true) : p := Decidable.byContradiction fun z => c (by rw [decide_eq_false z]; rfl)
theorem cut_innerA (a b : V) (xs : List V) : cutV (a :: (xs ++ [b])) (some 1) (some (-1)) = xs := by
  have e1 : HT.sIx (a :: (xs ++ [b])).length 0 (some 1) = 1 := by
    simp only [HT.sIx]
    rw [if_neg (by decide), List.length_cons]
    exact Nat.min_eq_left (Nat.le_add_left _ _)
  have e2 : HT.sIx (a :: (xs ++ [b])).length (a :: (xs ++ [b])).length (some (-1)) = xs.length + 1 := by
    simp only [HT.sIx]
    rw [if_pos (by decide), List.length_cons, List.length_append, List.length_singleton]
    omega
  unfold cutV
  rw [e1, e2, List.drop_one, List.tail_cons, Nat.add_sub_cancel, List.take_left]
theorem reps_splitA {K : PySem.W.Frag} {H : Hp} : ∀ {as bs : List Dat} {vs : List V}, Reps K H vs (as ++ bs) → ∃ xs ys, vs = xs ++ ys ∧ Reps K H xs as ∧ Reps K H ys bs
  | [], _, vs, h => ⟨[], vs, rfl, .nil, h⟩
  | _ :: _, _, _, .cons r h => by
    obtain ⟨xs, ys, rfl, h1, h2⟩ := reps_splitA h
    exact ⟨_ :: xs, ys, rfl, .cons r h1, h2⟩
theorem atI_lastD {l : List V} {v : V} (h : l.getLast? = some v) : atI l (-1) = some v := by
  have hne : l ≠ [] := fun z => by rw [z] at h; cases h
  have e1 : l = l.dropLast ++ [v] := by
    have := List.dropLast_concat_getLast hne
    rw [List.getLast?_eq_some_getLast hne] at h
    rw [← Option.some.inj h]
    exact this.symm
  rw [e1]
  exact at_last _ _
structure Rwt where
  word : Str
  ns : List Int
structure Rwt.Ok (f : Rwt) : Prop where
  clean : ∀ c ∈ f.word.cps.toList, c ≠ 32 ∧ c ≠ 10 ∧ c < 128
  short : f.word.length ≤ 10
  some_ : 1 ≤ f.word.length
  num : ∀ n ∈ f.ns, 0 ≤ n ∧ n < 10 ^ 41
  few : f.ns.length ≤ 60
noncomputable def partsW (f : Rwt) : List (List Nat) := f.word.cps.toList :: f.ns.map fun n => digs n.toNat
noncomputable def rowL (f : Rwt) : List Nat := joinL 32 (partsW f)
noncomputable def txtW (f : Rwt) : Str := ⟨(rowL f).toArray⟩
theorem parts_clean {f : Rwt} (h : f.Ok) : ∀ p ∈ partsW f, 32 ∉ p := fun p hp => by
  rcases List.mem_cons.mp hp with rfl | hp
  · exact fun z => (h.clean _ z).1 rfl
  · obtain ⟨n, _, rfl⟩ := List.mem_map.mp hp
    intro z
    have := digs_in _ _ z
    omega
theorem joinL_mem {c x : Nat} : ∀ {ps : List (List Nat)}, x ∈ joinL c ps → x = c ∨ ∃ p ∈ ps, x ∈ p
  | [], h => nomatch h
  | [p], h => .inr ⟨p, .head _, h⟩
  | p :: q :: r, h => by
    rcases List.mem_append.mp (show x ∈ p ++ c :: joinL c (q :: r) from h) with h | h
    · exact .inr ⟨p, .head _, h⟩
    · rcases List.mem_cons.mp h with h | h
      · exact .inl h
      · rcases joinL_mem h with h | ⟨s, hs, hx⟩
        · exact .inl h
        · exact .inr ⟨s, .tail _ hs, hx⟩
theorem row_clean {f : Rwt} (h : f.Ok) : ∀ c ∈ rowL f, c ≠ 10 ∧ c < 128 := fun c hc => by
  rcases joinL_mem hc with rfl | ⟨p, hp, hx⟩
  · decide
  · rcases List.mem_cons.mp hp with rfl | hp
    · exact (h.clean _ hx).2
    · obtain ⟨n, _, rfl⟩ := List.mem_map.mp hp
      have := digs_in _ _ hx
      omega
theorem digs_short {n : Int} (h : 0 ≤ n ∧ n < 10 ^ 41) : (digs n.toNat).length ≤ 41 := digs_len _ 41 (by
  have h2 := h.2
  have e : (10 : Int) ^ 41 = ((10 ^ 41 : Nat) : Int) := by decide +kernel
  rw [e] at h2
  omega) (by decide)
theorem joinL_len (c : Nat) : ∀ ps : List (List Nat), (joinL c ps).length ≤ (ps.map List.length).sum + ps.length
  | [] => Nat.le_refl _
  | [p] => by
    show p.length ≤ _
    simp
  | p :: q :: r => by
    have ih := joinL_len c (q :: r)
    show (p ++ c :: joinL c (q :: r)).length ≤ _
    rw [List.length_append, List.length_cons]
    rw [List.map_cons, List.sum_cons, List.length_cons]
    omega
theorem str_of {z : Str} {l : List Nat} (h : z.cps.toList = l) : z = ⟨l.toArray⟩ := by
  cases z with
  | mk a =>
    congr 1
    exact Array.toList_inj.mp (by simpa using h)
theorem tl (l : List Nat) : (⟨l.toArray⟩ : Str).cps.toList = l := by simp
noncomputable def numS (n : Int) : Str := Str.ofString (toString n)
theorem numS_cps {n : Int} (h : 0 ≤ n) : (numS n).cps.toList = digs n.toNat := by
  have := str_digs n.toNat
  rw [Int.toNat_of_nonneg h] at this
  exact this
theorem log_ok {n : Int} (h : 0 ≤ n ∧ n < 10 ^ 41) : n.natAbs.log2 < 1920 := by
  by_cases z : n.natAbs = 0
  · rw [z]
    decide
  · refine (Nat.log2_lt z).mpr ?_
    have e : (10 : Int) ^ 41 < ((2 ^ 140 : Nat) : Int) := by decide +kernel
    have h2 : n.natAbs < 2 ^ 140 := by omega
    exact Nat.lt_of_lt_of_le h2 (Nat.pow_le_pow_right (by decide) (by decide))
theorem join_cps (sep : Nat) : ∀ zs : List Str, (Str.join ⟨#[sep]⟩ zs).cps.toList = joinL sep (zs.map fun z => z.cps.toList)
  | [] => rfl
  | [z] => rfl
  | z :: y :: r => by
    have ih := join_cps sep (y :: r)
    show ((z ++ ⟨#[sep]⟩ ++ Str.join ⟨#[sep]⟩ (y :: r)) : Str).cps.toList = z.cps.toList ++ sep :: joinL sep ((y :: r).map fun z => z.cps.toList)
    rw [← ih]
    show ((z.cps ++ #[sep]) ++ (Str.join ⟨#[sep]⟩ (y :: r)).cps).toList = _
    rw [Array.toList_append, Array.toList_append, List.append_assoc]
    rfl
theorem blank : Str.ofString " " = ⟨#[32]⟩ := by decide +kernel
theorem partsS {f : Rwt} (ok : f.Ok) : (f.word :: f.ns.map numS).map (fun z => z.cps.toList) = partsW f := by
  unfold partsW
  rw [List.map_cons, List.map_map]
  congr 1
  exact List.map_congr_left fun n hn => numS_cps (ok.num n hn).1
theorem join_txt {f : Rwt} (ok : f.Ok) : Str.join (Str.ofString " ") (f.word :: f.ns.map numS) = txtW f := by
  unfold txtW
  refine str_of ?_
  rw [blank, join_cps, partsS ok]
  rfl
theorem numS_len {n : Int} (h : 0 ≤ n ∧ n < 10 ^ 41) : (numS n).length ≤ 41 := by
  show (numS n).cps.size ≤ 41
  rw [← Array.length_toList, numS_cps h.1]
  exact digs_short h
theorem sum_le {α : Type} {g : α → Nat} {k : Nat} : ∀ {l : List α}, (∀ a ∈ l, g a ≤ k) → (l.map g).sum ≤ l.length * k
  | [], _ => Nat.zero_le _
  | a :: l, h => by
    have h1 := h a (.head _)
    have h2 := sum_le (l := l) fun b hb => h b (.tail _ hb)
    rw [List.map_cons, List.sum_cons, List.length_cons, Nat.succ_mul]
    omega
theorem row_len {f : Rwt} (ok : f.Ok) : (rowL f).length ≤ 3000 := by
  have l3 := ok.few
  have hw := ok.short
  have hs := sum_le (g := fun n : Int => (digs n.toNat).length) (k := 41) (l := f.ns) fun n hn => digs_short (ok.num n hn)
  have hj := joinL_len 32 (partsW f)
  unfold rowL
  unfold partsW at hj ⊢
  rw [List.map_cons, List.sum_cons, List.length_cons, List.length_map, List.map_map] at hj
  have hw' : f.word.cps.toList.length ≤ 10 := by rw [Array.length_toList]; exact hw
  have hs' : (f.ns.map (List.length ∘ fun n : Int => digs n.toNat)).sum ≤ f.ns.length * 41 := hs
  omega
theorem in_ok {i : Int} (h : 1 ≤ i ∧ i ≤ 6) : (⟨"in", [i]⟩ : Rwt).Ok := ⟨by
    intro c hc
    rw [show (Str.ofString "in").cps.toList = [105, 110] by decide +kernel] at hc
    rcases List.mem_cons.mp hc with rfl | hc
    · decide
    · rw [List.mem_singleton.mp hc]
      decide, (by show (Str.ofString "in").length ≤ 10; decide +kernel), (by show 1 ≤ (Str.ofString "in").length; decide +kernel), fun n hn => by
    rw [List.mem_singleton.mp hn]
    have : (6 : Int) < 10 ^ 41 := by decide
    omega, by show 1 ≤ 60; decide⟩
theorem clean_word {x : Str} {l : List Nat} (e : x.cps.toList = l) (h : (l.all fun c => decide (c ≠ 32 ∧ c ≠ 10 ∧ c < 128)) = true) : ∀ c ∈ x.cps.toList, c ≠ 32 ∧ c ≠ 10 ∧ c < 128 := fun c hc => by
  rw [e] at hc
  exact of_decide_eq_true (List.all_eq_true.mp h c hc)
theorem kind_of {x : Str} {n : Nat} (h : legsOk x n) : isKind x := by
  unfold legsOk at h
  unfold isKind
  rcases h with ⟨h | h | h, _⟩ | ⟨h, _⟩ | ⟨h, _⟩ | ⟨h | h, _⟩ <;> simp [h]
theorem kind_clean {x : Str} (h : isKind x) : (∀ c ∈ x.cps.toList, c ≠ 32 ∧ c ≠ 10 ∧ c < 128) ∧ x.length ≤ 10 ∧ 1 ≤ x.length := by
  unfold isKind at h
  rcases h with rfl | rfl | rfl | rfl | rfl | rfl | rfl
  · exact ⟨clean_word (l := [97, 110, 100]) (by decide +kernel) (by decide), by decide +kernel, by decide +kernel⟩
  · exact ⟨clean_word (l := [111, 114]) (by decide +kernel) (by decide), by decide +kernel, by decide +kernel⟩
  · exact ⟨clean_word (l := [111, 100, 100]) (by decide +kernel) (by decide), by decide +kernel, by decide +kernel⟩
  · exact ⟨clean_word (l := [110, 111, 116]) (by decide +kernel) (by decide), by decide +kernel, by decide +kernel⟩
  · exact ⟨clean_word (l := [99, 104, 111, 111, 115, 101]) (by decide +kernel) (by decide), by decide +kernel, by decide +kernel⟩
  · exact ⟨clean_word (l := [122, 101, 114, 111]) (by decide +kernel) (by decide), by decide +kernel, by decide +kernel⟩
  · exact ⟨clean_word (l := [111, 110, 101]) (by decide +kernel) (by decide), by decide +kernel, by decide +kernel⟩
theorem wire_small {m : Nat} {w : Works} (wf : WF m w) (hm : m ≤ 20) {n : Int} (h : 0 ≤ n ∧ n < w.ins + w.gates.length) : 0 ≤ n ∧ n < 10 ^ 41 := by
  have : (30 : Int) < 10 ^ 41 := by decide
  have := wf.i6
  have := wf.few
  omega
theorem gate_ok {w : Works} (wf : WF 20 w) {k : Nat} {g : Str × List Int} (h : w.gates[k]? = some g) : (⟨g.1, g.2⟩ : Rwt).Ok := by
  obtain ⟨lk, ll⟩ := wf.legs k g h
  obtain ⟨a, b, c⟩ := kind_clean (kind_of lk)
  have hk := (List.getElem?_eq_some_iff.mp h).1
  refine ⟨a, b, c, fun n hn => wire_small wf (Nat.le_refl _) ?_, ?_⟩
  · have := ll n hn
    omega
  · have := lk.le
    show g.2.length ≤ 60
    omega
theorem out_ok {w : Works} (wf : WF 20 w) : (⟨"out", w.outs⟩ : Rwt).Ok := ⟨clean_word (l := [111, 117, 116]) (by show (Str.ofString "out").cps.toList = _; decide +kernel) (by decide), (by show (Str.ofString "out").length ≤ 10; decide +kernel), (by show 1 ≤ (Str.ofString "out").length; decide +kernel), fun n hn => wire_small wf (Nat.le_refl _) (wf.outs n hn), by
    have := wf.o3
    show w.outs.length ≤ 60
    omega⟩
noncomputable def gatesR (gs : List (Str × List Int)) : List Rwt := gs.map fun g => ⟨g.1, g.2⟩
noncomputable def rowsW (w : Works) : List Rwt := ⟨"in", [w.ins]⟩ :: (gatesR w.gates ++ [⟨"out", w.outs⟩])
theorem rows_ok {w : Works} (wf : WF 20 w) : ∀ f ∈ rowsW w, f.Ok := fun f hf => by
  rcases List.mem_cons.mp hf with rfl | hf
  · exact in_ok ⟨wf.i1, wf.i6⟩
  · rcases List.mem_append.mp hf with hf | hf
    · obtain ⟨g, hg, rfl⟩ := List.mem_map.mp hf
      obtain ⟨k, hk⟩ := List.getElem?_of_mem hg
      exact gate_ok wf hk
    · rw [List.mem_singleton.mp hf]
      exact out_ok wf
theorem rows_many {w : Works} (wf : WF 20 w) : (rowsW w).length ≤ 22 := by
  have := wf.few
  unfold rowsW gatesR
  rw [List.length_cons, List.length_append, List.length_map, List.length_singleton]
  omega
noncomputable def textW (w : Works) : Str := ⟨(joinL 10 ((rowsW w).map rowL)).toArray⟩
theorem feed : Str.ofString "\n" = ⟨#[10]⟩ := by decide +kernel
theorem join_text (w : Works) : Str.join (Str.ofString "\n") ((rowsW w).map txtW) = textW w := by
  unfold textW
  refine str_of ?_
  rw [feed, join_cps, List.map_map]
  exact congrArg (joinL 10) (List.map_congr_left fun f _ => tl _)
theorem txt_len {f : Rwt} (ok : f.Ok) : (txtW f).length ≤ 3000 := by show (rowL f).toArray.size ≤ 3000; rw [List.size_toArray]; exact row_len ok
theorem text_sum {w : Works} (wf : WF 20 w) : (((rowsW w).map txtW).map (·.length)).sum + ((rowsW w).map txtW).length * (Str.ofString "\n").length ≤ 100000 := by
  have hs := sum_le (g := fun z : Str => z.length) (k := 3000) (l := (rowsW w).map txtW) fun z hz => by
    obtain ⟨f, hf, rfl⟩ := List.mem_map.mp hz
    exact txt_len (rows_ok wf f hf)
  rw [List.length_map] at hs ⊢
  have := rows_many wf
  rw [feed]
  show _ + (rowsW w).length * 1 ≤ _
  omega
noncomputable def newsOf (G H H' : Hp) : Hp := fun b => match H b with
  | none => H' b
  | some _ => G b
theorem newsOf_new {G H H' : Hp} {b : Addr} (h : H b = none) : newsOf G H H' b = H' b := by unfold newsOf; rw [h]
theorem newsOf_same {G H H' : Hp} (f : Same G H) : Same G (newsOf G H H') := fun b o e => by unfold newsOf; rw [f _ _ e]; exact e
theorem newsOf_off {M : List Addr} {G H H' : Hp} (f : Off M G H) (s : Same H H') : Off M (newsOf G H H') H' := by
  refine ⟨fun b o e => ?_, fun m hm => ?_, fun m hm => ?_⟩
  · unfold newsOf at e
    cases hb : H b with
    | none => rw [hb] at e; exact e
    | some u => rw [hb] at e; exact s _ _ (f.same _ _ e)
  · obtain ⟨o, e⟩ := f.there m hm
    unfold newsOf
    rw [e]
    exact f.out m hm
  · obtain ⟨o, e⟩ := f.there m hm
    exact ⟨o, s _ _ e⟩
noncomputable def sp_shw (K : PySem.W.Frag) : Sp := fun vs H Q _ => ∃ (x : V) (w : Works), vs = [x] ∧ Rep K H x (worksD w) ∧ WF 20 w ∧ ∀ H', Same H H' → Q (.str (textW w)) H'
theorem join_snoc (sep z : Str) : ∀ (y : Str) (zs : List Str), Str.join sep ((y :: zs) ++ [z]) = Str.join sep (y :: zs) ++ sep ++ z
  | y, [] => rfl
  | y, x :: zs => by
    have ih := join_snoc sep z x zs
    show y ++ sep ++ Str.join sep ((x :: zs) ++ [z]) = (y ++ sep ++ Str.join sep (x :: zs)) ++ sep ++ z
    rw [ih]
    show (⟨(y.cps ++ sep.cps) ++ (((Str.join sep (x :: zs)).cps ++ sep.cps) ++ z.cps)⟩ : Str) = ⟨(((y.cps ++ sep.cps) ++ (Str.join sep (x :: zs)).cps) ++ sep.cps) ++ z.cps⟩
    congr 1
    simp only [Array.append_assoc]
noncomputable def someT (f : Rwt) (i : Nat) : Str := Str.join (Str.ofString " ") (f.word :: (f.ns.take i).map numS)
theorem someT_len {f : Rwt} (ok : f.Ok) {i : Nat} : (someT f i).length ≤ 3000 := by
  have jl := StrLaws.join_length_le (Str.ofString " ") (f.word :: (f.ns.take i).map numS)
  have hs := sum_le (g := fun z : Str => z.length) (k := 41) (l := (f.ns.take i).map numS) fun z hz => by
    obtain ⟨m, hm, rfl⟩ := List.mem_map.mp hz
    exact numS_len (ok.num m (List.mem_of_mem_take hm))
  rw [List.map_cons, List.sum_cons, List.length_cons, List.length_map, List.length_take] at jl
  rw [List.length_map, List.length_take] at hs
  have b1 : (Str.ofString " ").length = 1 := by rw [blank]; rfl
  rw [b1] at jl
  have := ok.few
  have := ok.short
  unfold someT
  omega
theorem someT_next {f : Rwt} {i : Nat} {n : Int} (h : f.ns[i]? = some n) : someT f (i + 1) = (someT f i ++ Str.ofString " ") ++ numS n := by
  unfold someT
  rw [List.take_add_one, h, List.map_append]
  have := join_snoc (Str.ofString " ") (numS n) f.word ((f.ns.take i).map numS)
  rw [List.cons_append] at this
  exact this
theorem app_len (a b : Str) : (a ++ b).length = a.length + b.length := by
  show (a.cps ++ b.cps).size = _
  rw [Array.size_append]
  rfl
noncomputable def TXk (k : Nat) (z : Str) : Prop := z.length ≤ k ∧ ∀ c ∈ z.cps.toList, c < 128
theorem TXk.tx {k : Nat} {z : Str} (h : TXk k z) (hk : k ≤ 600) : TX z := ⟨Nat.le_trans h.1 hk, h.2⟩
theorem TXk.mono {k m : Nat} {z : Str} (h : TXk k z) (hk : k ≤ m) : TXk m z := ⟨Nat.le_trans h.1 hk, h.2⟩
theorem cps_app (x y : Str) : (x ++ y).cps.toList = x.cps.toList ++ y.cps.toList := by
  show (x.cps ++ y.cps).toList = _
  rw [Array.toList_append]
theorem cutI (ns : List Int) (lo hi : Option Int) : ∃ ms : List Int, cutV (ns.map V.int) lo hi = ms.map V.int ∧ ms.length ≤ ns.length := by
  refine ⟨(ns.drop (HT.sIx (ns.map V.int).length 0 lo)).take (HT.sIx (ns.map V.int).length (ns.map V.int).length hi - HT.sIx (ns.map V.int).length 0 lo), ?_, ?_⟩
  · unfold cutV
    rw [List.map_take, List.map_drop]
  · rw [List.length_take, List.length_drop]
    omega
noncomputable def LL (H : Hp) (us : List V) (ls : List (List V)) : Prop := us.length = ls.length ∧ ∀ (j : Nat) (l : List V), ls[j]? = some l → ∃ r, us[j]? = some (.ref r) ∧ H r = some (.lst l)
theorem LL.nil {H : Hp} : LL H [] [] := ⟨rfl, fun j l h => by cases j <;> cases h⟩
theorem LL.mono {H H' : Hp} {us : List V} {ls : List (List V)} (h : LL H us ls) (s : Same H H') : LL H' us ls := ⟨h.1, fun j l e => by
  obtain ⟨r, e1, e2⟩ := h.2 j l e
  exact ⟨r, e1, s _ _ e2⟩⟩
theorem LL.snoc {H : Hp} {us : List V} {ls : List (List V)} {r : Addr} {l : List V} (h : LL H us ls) (e : H r = some (.lst l)) : LL H (us ++ [.ref r]) (ls ++ [l]) := by
  refine ⟨by rw [List.length_append, List.length_append, h.1]; rfl, fun j m hm => ?_⟩
  by_cases hj : j < ls.length
  · rw [List.getElem?_append_left hj] at hm
    obtain ⟨r', e1, e2⟩ := h.2 j m hm
    exact ⟨r', by rw [List.getElem?_append_left (by rw [h.1]; exact hj)]; exact e1, e2⟩
  · rw [List.getElem?_append_right (by omega)] at hm
    have hl := (List.getElem?_eq_some_iff.mp hm).1
    rw [List.length_singleton] at hl
    have ej : j = ls.length := by omega
    subst ej
    rw [Nat.sub_self] at hm
    cases hm
    exact ⟨r, by rw [← h.1, List.getElem?_append_right (Nat.le_refl _), Nat.sub_self]; rfl, e⟩
theorem at_new {H : Hp} {a : Addr} {o : HO} (_ : H a = none) : (upd H a o) a = some o := upd_same
theorem cutL_app {c : Nat} (l : List Nat) : ∀ {p : List Nat}, c ∉ p → cutL c (p ++ c :: l) = p :: cutL c l
  | [], _ => by
    show cutL c (c :: l) = _
    rw [cutL, if_pos rfl]
  | a :: p, h => by
    have ih := cutL_app l (p := p) fun z => h (.tail _ z)
    show cutL c (a :: (p ++ c :: l)) = _
    rw [cutL, if_neg fun z => h (by rw [z]; exact .head _), ih]
theorem cutL_clean {c : Nat} : ∀ {p : List Nat}, c ∉ p → cutL c p = [p]
  | [], _ => rfl
  | a :: p, h => by
    have ih := cutL_clean (p := p) fun z => h (.tail _ z)
    rw [cutL, if_neg fun z => h (by rw [z]; exact .head _), ih]
theorem cutL_joinL {c : Nat} : ∀ {ps : List (List Nat)}, ps ≠ [] → (∀ p ∈ ps, c ∉ p) → cutL c (joinL c ps) = ps
  | [], h, _ => absurd rfl h
  | [p], _, h => cutL_clean (h p (.head _))
  | p :: q :: r, _, h => by
    show cutL c (p ++ c :: joinL c (q :: r)) = _
    rw [cutL_app _ (h p (.head _)), cutL_joinL (List.cons_ne_nil _ _) fun x hx => h x (.tail _ hx)]
theorem join2_le : ∀ (qs : List (List Nat)) (p : List Nat), (∀ q ∈ qs, q.length ≤ 2) → (joinL 32 (p :: qs)).length ≤ p.length + qs.length * 3
  | [], p, _ => Nat.le_refl _
  | q :: r, p, h => by
    have ih := join2_le r q fun x hx => h x (.tail _ hx)
    have h1 := h q (.head _)
    show (p ++ 32 :: joinL 32 (q :: r)).length ≤ _
    rw [List.length_append, List.length_cons, List.length_cons]
    omega
theorem joinN_le {k : Nat} : ∀ {ps : List (List Nat)}, (∀ p ∈ ps, p.length ≤ k) → (joinL 10 ps).length ≤ ps.length * (k + 1)
  | [], _ => Nat.zero_le _
  | [p], h => by
    have := h p (.head _)
    show p.length ≤ 1 * (k + 1)
    omega
  | p :: q :: r, h => by
    have ih := joinN_le (ps := q :: r) fun x hx => h x (.tail _ hx)
    have h1 := h p (.head _)
    show (p ++ 10 :: joinL 10 (q :: r)).length ≤ _
    rw [List.length_append, List.length_cons, List.length_cons (a := p), Nat.succ_mul]
    omega
theorem told_uniq {z : Str} {b c : Works} (h : ToldT z b) (h2 : ToldT z c) : b = c := by
  obtain ⟨rs, e, i, gs, os, e1, _, rfl⟩ := h
  obtain ⟨rs2, e2, i2, gs2, os2, e3, _, rfl⟩ := h2
  rw [e] at e2
  have e4 := (Option.some.inj e2).symm.trans (e1)
  rw [e3] at e4
  obtain ⟨e5, e6⟩ := List.cons.inj e4
  have e7 : i2 = i := (List.cons.inj (Prod.mk.inj e5).2).1
  have e8 := List.append_inj' e6 rfl
  have e9 : os2 = os := (Prod.mk.inj (List.cons.inj e8.2).1).2
  rw [e7, e8.1, e9]
noncomputable def sp_gw (K : PySem.W.Frag) : Sp := fun vs H Q _ => ∃ (x : Str) (p : Addr) (ns : List Int), vs = [.str x, .ref p, .int 1] ∧ SqL K H p (ns.map V.int) ∧ Bits ns ∧ legsOk x ns.length ∧ ∀ H', Same H H' → Q (.int (gateV x ns)) H'
noncomputable def sp_gwI (K : PySem.W.Frag) : Sp := fun vs H Q _ => ∃ (x : Str) (p : Addr) (ns : List Int) (o : Int), vs = [.str x, .ref p, .int o] ∧ SqL K H p (ns.map V.int) ∧ legsOk x ns.length ∧ ∀ H', Same H H' → Q (.int (gateI o x ns)) H'
noncomputable def sp_cr (K : PySem.W.Frag) : Sp := fun vs H Q _ => ∃ (a ga oa p : Addr) (i : Int) (row : List Int), vs = [.ref a, .ref p] ∧ SqT K H a [.int i, .ref ga, .ref oa] ∧ SqL K H p (row.map V.int) ∧ (row.length : Int) = i ∧ Bits row ∧ row.length ≤ 100 ∧ ∀ H', Same H H' → Q .non H'
noncomputable def sp_ww (K : PySem.W.Frag) : Sp := fun vs H Q _ => ∃ (x : V) (p : Addr) (w : Works) (row : List Int), vs = [x, .ref p] ∧ Rep K H x (worksD w) ∧ WF 20 w ∧ SqL K H p (row.map V.int) ∧ (row.length : Int) = w.ins ∧ Bits row ∧
  ∀ (r : Addr) (H' : Hp), Same H H' → H r = none → H' r = some (.lst ((wiresV w.gates row w.gates.length).map V.int)) → Q (.ref r) H'
noncomputable def sp_lg (K : PySem.W.Frag) : Sp := fun vs H Q _ => ∃ (x : Str) (p : Addr) (ns : List Int), vs = [.str x, .ref p] ∧ SqL K H p (ns.map V.int) ∧ Bits ns ∧ legsOk x ns.length ∧ ∀ H', Same H H' → Q (.int (gateV x ns)) H'
noncomputable def sp_lw (K : PySem.W.Frag) : Sp := fun vs H Q _ => ∃ (x : V) (d p : Addr) (w : Works) (row : List Int), vs = [x, .ref d, .ref p] ∧ Rep K H x (worksD w) ∧ WF 20 w ∧ H d = some (.dT []) ∧ SqL K H p (row.map V.int) ∧ (row.length : Int) = w.ins ∧ Bits row ∧
  ∀ (r : Addr) (H' : Hp), Same H H' → H r = none → H' r = some (.lst ((wiresV w.gates row w.gates.length).map V.int)) → Q (.ref r) H'
noncomputable def sp_oa (K : PySem.W.Frag) : Sp := fun vs H Q _ => ∃ (x : V) (p : Addr) (w : Works) (row : List Int), vs = [x, .ref p] ∧ Rep K H x (worksD w) ∧ WF 20 w ∧ SqL K H p (row.map V.int) ∧ (row.length : Int) = w.ins ∧ Bits row ∧
  ∀ (r : Addr) (H' : Hp), Same H H' → H r = none → H' r = some (.lst ((outsV w (wiresV w.gates row w.gates.length)).map V.int)) → Q (.ref r) H'
noncomputable def sp_row (K : PySem.W.Frag) : Sp := fun vs H Q _ => ∃ (pd a ga oa : Addr) (n i : Int), vs = [.ref pd, .ref a] ∧ H pd = some (.lst [.int n]) ∧ SqT K H a [.int i, .ref ga, .ref oa] ∧ 0 ≤ i ∧ i ≤ 6 ∧
  ∀ (r : Addr) (row : List Int) (n' : Int) (H' : Hp), SameB pd H H' → H r = none → H' r = some (.lst (row.map V.int)) → H' pd = some (.lst [.int n']) → (row.length : Int) = i → Bits row → Q (.ref r) H'
noncomputable def figL (ns : List Int) : List Nat := ns.map fun n => (48 + n).toNat
noncomputable def figS (ns : List Int) : Str := ⟨(figL ns).toArray⟩
theorem figL_in {ns : List Int} (hb : Bits ns) : ∀ c ∈ figL ns, c = 48 ∨ c = 49 := fun c hc => by
  obtain ⟨n, hn, rfl⟩ := List.mem_map.mp hc
  rcases hb n hn with rfl | rfl
  · exact .inl rfl
  · exact .inr rfl
theorem numS_bit {n : Int} (h : n = 0 ∨ n = 1) : numS n = ⟨#[(48 + n).toNat]⟩ := by
  rcases h with rfl | rfl
  · decide +kernel
  · decide +kernel
theorem emptyA : Str.ofString "" = ⟨#[]⟩ := by decide +kernel
theorem join0 : ∀ zs : List Str, (Str.join ⟨#[]⟩ zs).cps.toList = (zs.map fun z => z.cps.toList).flatten
  | [] => rfl
  | [z] => by rw [List.map_singleton, List.flatten_singleton]; rfl
  | z :: y :: r => by
    have ih := join0 (y :: r)
    show ((z ++ ⟨#[]⟩ ++ Str.join ⟨#[]⟩ (y :: r)) : Str).cps.toList = _
    rw [List.map_cons, List.flatten_cons, ← ih]
    show ((z.cps ++ #[]) ++ (Str.join ⟨#[]⟩ (y :: r)).cps).toList = _
    rw [Array.toList_append, Array.append_empty]
theorem join_figL : ∀ {ns : List Int}, Bits ns → ((ns.map numS).map fun z => z.cps.toList).flatten = figL ns
  | [], _ => rfl
  | n :: ns, hb => by
    rw [List.map_cons, List.map_cons, List.flatten_cons, join_figL fun x hx => hb x (.tail _ hx), numS_bit (hb n (.head _))]
    rfl
theorem join_fig {ns : List Int} (hb : Bits ns) : Str.join (Str.ofString "") (ns.map numS) = figS ns := str_of (by rw [emptyA, join0, join_figL hb])
inductive Ord where
  | clear
  | put (u : Str)
  | run (ns : List Int)
noncomputable def Ord.text : Ord → Str
  | .clear => "clear"
  | .put u => Str.ofString "put " ++ u
  | .run ns => Str.ofString "run " ++ figS ns
noncomputable def Ord.Ok : Ord → Prop
  | .clear => True
  | .put u => (∀ c ∈ u.cps.toList, c ≠ 10) ∧ u.length ≤ 600
  | .run ns => Bits ns ∧ ns ≠ [] ∧ ns.length ≤ 100
noncomputable def OrdAt (H : Hp) (D : Addr) : Ord → Prop
  | .clear => H D = some (.tup [.str "clear"])
  | .put u => H D = some (.tup [.str "put", .str u])
  | .run ns => ∃ p, H D = some (.tup [.str "run", .ref p]) ∧ H p = some (.lst (ns.map V.int))
noncomputable def DkAt (C : Addr) (H : Hp) (d : Addr) (zs : List Str) : Prop := ∃ (dx r a : Addr), H d = some (.ins C dx [("rows", .ref r), ("answers", .ref a)]) ∧ H r = some (.lst (zs.map V.str))
noncomputable def sp_init (C : Addr) : Sp := fun vs H Q _ => ∃ (x dx : Addr), vs = [.ref x] ∧ H x = some (.ins C dx []) ∧ ∀ H', SameB x H H' → DkAt C H' x [] → Q .non H'
noncomputable def sp_keep (C : Addr) : Sp := fun vs H Q _ => ∃ (d dx r : Addr) (v1 v2 : V) (zs : List Str), vs = [.ref d, .ref r] ∧ H d = some (.ins C dx [("rows", v1), ("answers", v2)]) ∧ H r = some (.lst (zs.map V.str)) ∧ zs.length ≤ 1000 ∧
  ∀ H', SameB d H H' → DkAt C H' d zs → Q (.str (Str.ofString "rows " ++ numS zs.length)) H'
noncomputable def sp_shn (K : PySem.W.Frag) : Sp := fun vs H Q _ => ∃ (p : Addr) (ns : List Int), vs = [.ref p] ∧ SqL K H p (ns.map V.int) ∧ Bits ns ∧ ns.length ≤ 100 ∧ ∀ H', Same H H' → Q (.str (figS ns)) H'
noncomputable def sp_rws : Sp := fun vs H Q _ => ∃ ns : List Int, vs = [.str (figS ns)] ∧ Bits ns ∧ ns ≠ [] ∧ ns.length ≤ 100 ∧ ∀ (p : Addr) (H' : Hp), Same H H' → H' p = some (.lst (ns.map V.int)) → Q (.ref p) H'
noncomputable def sp_rth : Sp := fun vs H Q _ => (∃ u : Str, vs = [.str "put", .str u] ∧ ∀ (D : Addr) (H' : Hp), Same H H' → H' D = some (.tup [.str u]) → Q (.ref D) H') ∨
  ∃ ns : List Int, vs = [.str "run", .str (figS ns)] ∧ Bits ns ∧ ns ≠ [] ∧ ns.length ≤ 100 ∧ ∀ (D p : Addr) (H' : Hp), Same H H' → H' D = some (.tup [.ref p]) → H' p = some (.lst (ns.map V.int)) → Q (.ref D) H'
noncomputable def sp_rdo : Sp := fun vs H Q _ => ∃ o : Ord, vs = [.str o.text] ∧ o.Ok ∧ ∀ (D : Addr) (H' : Hp), Same H H' → OrdAt H' D o → Q (.ref D) H'
theorem numS_small {n : Nat} (h : n ≤ 1000) : (Str.ofString "rows " ++ numS (n : Int)).length ≤ 100 := by
  have e : (Str.ofString "rows ").length = 5 := by decide +kernel
  have := numS_len (n := (n : Int)) ⟨by omega, by have : (1001 : Int) < 10 ^ 41 := (by decide); omega⟩
  rw [len_app, e]
  omega
theorem num_fits {n : Nat} (h : n ≤ 1000) : ((n : Int)).natAbs.log2 < 1920 := log_ok ⟨by omega, by have : (1001 : Int) < 10 ^ 41 := (by decide); omega⟩
noncomputable def alone : List Str := ["clear", "fewest", "bare", "less", "next"]
theorem alone_no {z : Str} (h : 32 ∈ z.cps.toList) : inV (V.str z) (alone.map V.str) = false := by
  refine Bool.eq_false_iff.mpr fun y => ?_
  obtain ⟨x, hx, e⟩ := List.any_eq_true.mp y
  obtain ⟨u, hu, rfl⟩ := List.mem_map.mp hx
  have e2 : u = z := eq_of_beq (show (u == z) = true from e)
  subst e2
  have key : ∀ u ∈ alone, 32 ∉ u.cps.toList := by decide +kernel
  exact key u hu h
theorem putA : (Str.ofString "put ").cps.toList = [112, 117, 116] ++ 32 :: [] := by decide +kernel
theorem runA : (Str.ofString "run ").cps.toList = [114, 117, 110] ++ 32 :: [] := by decide +kernel
theorem put_eq : Str.ofString "put" = ⟨[112, 117, 116].toArray⟩ := by decide +kernel
theorem run_eq : Str.ofString "run" = ⟨[114, 117, 110].toArray⟩ := by decide +kernel
theorem putT (u : Str) : (Ord.put u).text.cps.toList = [112, 117, 116] ++ 32 :: u.cps.toList := by
  show (Str.ofString "put " ++ u).cps.toList = _
  rw [cps_app, putA]
  rfl
theorem runT (ns : List Int) : (Ord.run ns).text.cps.toList = [114, 117, 110] ++ 32 :: figL ns := by
  show (Str.ofString "run " ++ figS ns).cps.toList = _
  rw [cps_app, runA, show (figS ns).cps.toList = figL ns from tl _]
  rfl
theorem no_feed {z : Str} (h : 10 ∉ z.cps.toList) : (!(Builtin.Str.occurrences z (Str.ofString "\n") 0 z.length 1).isEmpty) = false := by
  rw [feedA, StrLaws.found_one]
  exact decide_eq_false h
theorem blank_uniq {w a b l : List Nat} {c : Nat} (e : w ++ c :: l = a ++ c :: b) (hw : c ∉ w) (ha : c ∉ a) : a = w ∧ b = l := by
  induction w generalizing a with
  | nil =>
    cases a with
    | nil => exact ⟨rfl, (List.cons.inj e).2.symm⟩
    | cons x a => exact absurd (List.cons.inj e).1 (fun z => ha (by rw [z]; exact .head _))
  | cons y w ih =>
    cases a with
    | nil => exact absurd (List.cons.inj e).1.symm (fun z => hw (by rw [z]; exact .head _))
    | cons x a =>
      obtain ⟨e1, e2⟩ := List.cons.inj e
      obtain ⟨h1, h2⟩ := ih (a := a) e2 (fun z => hw (.tail _ z)) (fun z => ha (.tail _ z))
      exact ⟨by rw [e1, h1], h2⟩
noncomputable def feedJ (zs : List Str) : Str := Str.join (Str.ofString "\n") zs
theorem feedJ_cps (zs : List Str) : (feedJ zs).cps.toList = joinL 10 (zs.map fun z => z.cps.toList) := by
  unfold feedJ
  rw [feedA, join_cps]
theorem feedJ_rows {zs : List Str} (ne : zs ≠ []) (cl : ∀ z ∈ zs, 10 ∉ z.cps.toList) : rowsN (feedJ zs).cps.toList = allO rowN (zs.map fun z => z.cps.toList) := by
  unfold rowsN
  rw [feedJ_cps, cutL_joinL (fun z => ne (List.map_eq_nil_iff.mp z)) fun p hp => by
    obtain ⟨z, hz, rfl⟩ := List.mem_map.mp hp
    exact cl z hz]
noncomputable def rowsS (w : Works) : List Str := (rowsW w).map txtW
theorem num_digs (n : Nat) : numL (digs n) = some n := by
  unfold numL
  rw [if_neg, read_digs]
  rintro (h | ⟨h1, h2⟩ | h)
  · exact digs_ne n h
  · cases e : digs n with
    | nil => exact digs_ne n e
    | cons a r =>
      rw [e] at h1 h2
      have ea : a = 48 := Option.some.inj h1
      rw [ea] at e h2
      exact h2 (by rw [digs_first n r e])
  · exact h (digs_in n)
theorem rowN_ok {f : Rwt} (ok : f.Ok) : rowN (rowL f) = some (f.word.cps.toList, f.ns) := by
  unfold rowN rowL
  rw [cutL_joinL (fun z => by cases z) (parts_clean ok)]
  show (numsL (f.ns.map fun n => digs n.toNat)).map _ = _
  have key : ∀ ns : List Int, (∀ n ∈ ns, 0 ≤ n ∧ n < 10 ^ 41) → numsL (ns.map fun n => digs n.toNat) = some ns := by
    intro ns
    induction ns with
    | nil => exact fun _ => rfl
    | cons n ns ih =>
      intro h
      have hn := h n (.head _)
      have e : numL (digs n.toNat) = some n.toNat := num_digs n.toNat
      rw [List.map_cons]
      unfold numsL
      rw [e, ih fun x hx => h x (.tail _ hx)]
      show some _ = some _
      rw [Int.toNat_of_nonneg hn.1]
  rw [key _ ok.num]
  rfl
theorem rowsS_clean {w : Works} (wf : WF 20 w) : ∀ z ∈ rowsS w, 10 ∉ z.cps.toList := fun z hz => by
  obtain ⟨f, hf, rfl⟩ := List.mem_map.mp hz
  intro h
  rw [show (txtW f).cps.toList = rowL f from tl _] at h
  exact (row_clean (rows_ok wf f hf) _ h).1 rfl
theorem allO_maps {α β γ : Type} {f : β → Option γ} {g : α → β} {h : α → γ} : ∀ {l : List α}, (∀ a ∈ l, f (g a) = some (h a)) → allO f (l.map g) = some (l.map h)
  | [], _ => rfl
  | a :: l, e => by
    rw [List.map_cons]
    unfold allO
    rw [e a (.head _), allO_maps fun b hb => e b (.tail _ hb)]
    rfl
theorem wordsA (w : Works) : (rowsS w).map (fun z => z.cps.toList) = (rowsW w).map rowL := by
  unfold rowsS
  rw [List.map_map]
  exact List.map_congr_left fun f _ => tl _
theorem told_rows {w : Works} (wf : WF 20 w) : ToldT (feedJ (rowsS w)) w := by
  refine ⟨(rowsW w).map fun f => (f.word.cps.toList, f.ns), ?_, ?_⟩
  · rw [feedJ_rows (fun z => by cases z) (rowsS_clean wf), wordsA]
    exact allO_maps fun f hf => rowN_ok (rows_ok wf f hf)
  · refine ⟨w.ins, w.gates.map fun g => (g.1.cps.toList, g.2), w.outs, ?_, fun g hg => ?_, ?_⟩
    · unfold rowsW gatesR
      rw [List.map_cons, List.map_append, List.map_map, List.map_singleton]
      rw [show (Str.ofString "in").cps.toList = inW by decide +kernel, show (Str.ofString "out").cps.toList = outW by decide +kernel]
      rfl
    · obtain ⟨g0, hg0, rfl⟩ := List.mem_map.mp hg
      obtain ⟨k, hk⟩ := List.getElem?_of_mem hg0
      have := kind_of (wf.legs k g0 hk).1
      show isKind ⟨g0.1.cps.toList.toArray⟩
      rw [show (⟨g0.1.cps.toList.toArray⟩ : Str) = g0.1 from (str_of rfl).symm]
      exact this
    · rw [List.map_map]
      have e : w.gates.map (gateN ∘ fun g => (g.1.cps.toList, g.2)) = w.gates := by
        have : ∀ g ∈ w.gates, (gateN ∘ fun g : Str × List Int => (g.1.cps.toList, g.2)) g = g := fun g _ => by
          show ((⟨g.1.cps.toList.toArray⟩ : Str), g.2) = g
          rw [show (⟨g.1.cps.toList.toArray⟩ : Str) = g.1 from (str_of rfl).symm]
        rw [List.map_congr_left this, List.map_id']
      rw [e]
theorem told_last {zs : List Str} {z : Str} (cl : ∀ x ∈ zs ++ [z], 10 ∉ x.cps.toList) (h : zs = [] ∨ ∀ r, rowN z.cps.toList = some r → r.1 ≠ outW) : ¬ ∃ b, ToldT (feedJ (zs ++ [z])) b := by
  rintro ⟨b, rs, e, i, gs, os, e1, _, _⟩
  rw [feedJ_rows (fun z => by simp at z) cl, List.map_append] at e
  have hl := allO_len e
  rcases h with rfl | h
  · rw [e1] at hl
    simp at hl
  · obtain ⟨r, h1, h2⟩ := allO_get e (zs.map fun z => z.cps.toList).length z.cps.toList (by rw [List.getElem?_append_right (Nat.le_refl _), Nat.sub_self]; rfl)
    refine h r h1 ?_
    have e3 : rs.length = zs.length + 1 := by rw [hl]; simp
    have e4 : rs[zs.length]? = some (outW, os) := by
      rw [e1]
      rw [e1] at e3
      simp only [List.length_cons, List.length_append, List.length_nil] at e3
      have : zs.length = (gs.length + 1) := by omega
      rw [this, List.getElem?_cons_succ, List.getElem?_append_right (Nat.le_refl _), Nat.sub_self]
      rfl
    rw [List.length_map, e4] at h2
    rw [← Option.some.inj h2]
theorem outs_bits {w : Works} {row : List Int} (wf : WF 20 w) (hl : (row.length : Int) = w.ins) (b : Bits row) : Bits (outsV w (wiresV w.gates row w.gates.length)) := fun n hn => by
  obtain ⟨o, ho, rfl⟩ := List.mem_map.mp hn
  have bb := wiresV_bits wf hl b _ (Nat.le_refl _)
  rw [List.getD_eq_getElem?_getD]
  cases e : (wiresV w.gates row w.gates.length)[o.toNat]? with
  | none => exact .inl rfl
  | some x => exact bb x (List.mem_of_getElem? e)
noncomputable def sp_tof (K : PySem.W.Frag) : Sp := fun vs H Q _ => ∃ (x : V) (D : Addr) (w : Works) (ns : List Int), vs = [x, .ref D] ∧ Rep K H x (worksD w) ∧ WF 20 w ∧ OrdAt H D (.run ns) ∧ (ns.length : Int) = w.ins ∧ Bits ns ∧
  ∀ H', Same H H' → Q (.str (figS (outsV w (wiresV w.gates ns w.gates.length)))) H'
theorem DkAt.on {C : Addr} {H H' : Hp} {d : Addr} {zs : List Str} (h : DkAt C H d zs) (k : Same H H') : DkAt C H' d zs := by
  obtain ⟨dx, r, a, h1, h2⟩ := h
  exact ⟨dx, r, a, k _ _ h1, k _ _ h2⟩
noncomputable def saidG (C : Addr) (d : Addr) (zs : List Str) (H : Hp) (Q : VK) (R : Prop) : Ord → Prop
  | .clear => ∀ H', SameB d H H' → DkAt C H' d [] → Q (.str (Str.ofString "rows " ++ numS ((0 : Nat) : Int))) H'
  | .put u => ∀ H', SameB d H H' → DkAt C H' d (zs ++ [u]) → Q (.str (Str.ofString "rows " ++ numS ((zs.length + 1 : Nat) : Int))) H'
  | .run ns => TX (feedJ zs) ∧ (zs.map (·.length)).sum + zs.length ≤ 1000 ∧ ((∃ w, ToldT (feedJ zs) w ∧ WF 20 w ∧ (ns.length : Int) = w.ins ∧ GoodW w ∧ ∀ H', Same H H' → Q (.str (figS (outsV w (wiresV w.gates ns w.gates.length)))) H') ∨ ((¬ ∃ b, ToldT (feedJ zs) b) ∧ R))
theorem saidG_on {C d : Addr} {zs : List Str} {H : Hp} {Q Q' : VK} {R R' : Prop} {o : Ord} (q : saidG C d zs H Q R o) (hQ : ∀ (z : Str) (H2 : Hp), (∀ H3, Same H2 H3 → Q (.str z) H3) → Q' (.str z) H2) (hR : R → R') : saidG C d zs H Q' R' o := by
  cases o with
  | clear => exact fun H2 s2 e2 => hQ _ _ fun H3 s3 => q H3 (s2.trans (s3.b d)) (e2.on s3)
  | put u => exact fun H2 s2 e2 => hQ _ _ fun H3 s3 => q H3 (s2.trans (s3.b d)) (e2.on s3)
  | run ns =>
    obtain ⟨tx, lz, q⟩ := q
    refine ⟨tx, lz, ?_⟩
    rcases q with ⟨w, tw, wf, hl, gw, q⟩ | ⟨nt, r⟩
    · exact .inl ⟨w, tw, wf, hl, gw, fun H2 s2 => hQ _ _ fun H3 s3 => q H3 (s2.trans s3)⟩
    · exact .inr ⟨nt, hR r⟩
noncomputable def sp_say (C : Addr) : Sp := fun vs H Q E => ∃ (d : Addr) (o : Ord) (zs : List Str), vs = [.ref d, .str o.text] ∧ o.Ok ∧ DkAt C H d zs ∧ zs.length ≤ 900 ∧ saidG C d zs H Q (Rz H E) o
noncomputable def sp_ltd (C : Addr) : Sp := fun vs H Q _ => ∃ (d : Addr) (o : Ord) (zs : List Str), vs = [.ref d, .str o.text] ∧ o.Ok ∧ DkAt C H d zs ∧ zs.length ≤ 900 ∧ saidG C d zs H Q (∀ H', Same H H' → Q (.str "NoText") H') o
theorem feedJ_cut {zs : List Str} (ne : zs ≠ []) (cl : ∀ z ∈ zs, 10 ∉ z.cps.toList) : (cutL 10 (feedJ zs).cps.toList).map (fun p => V.str ⟨p.toArray⟩) = zs.map V.str := by
  rw [feedJ_cps, cutL_joinL (fun z => ne (List.map_eq_nil_iff.mp z)) (fun p hp => by
    obtain ⟨z, hz, rfl⟩ := List.mem_map.mp hp
    exact cl z hz), List.map_map]
  refine List.map_congr_left fun z _ => ?_
  show V.str ⟨z.cps.toList.toArray⟩ = V.str z
  rw [show (⟨z.cps.toList.toArray⟩ : Str) = z from (str_of rfl).symm]
theorem feed_len {zs : List Str} (l : zs.length ≤ 100) (h : ∀ z ∈ zs, z.length ≤ 600) : (feedJ zs).length ≤ 100000 := by
  have e : (feedJ zs).length = (feedJ zs).cps.toList.length := Array.length_toList.symm
  rw [e, feedJ_cps]
  have := joinN_le (k := 600) (ps := zs.map fun z => z.cps.toList) fun p hp => by
    obtain ⟨z, hz, rfl⟩ := List.mem_map.mp hp
    have e2 : z.cps.toList.length = z.length := Array.length_toList
    rw [e2]
    exact h z hz
  rw [List.length_map] at this
  omega
noncomputable def sp_lput (C : Addr) : Sp := fun vs H Q _ => ∃ (d : Addr) (zs : List Str), vs = [.ref d, .str (feedJ zs)] ∧ zs ≠ [] ∧ (∀ z ∈ zs, (∀ c ∈ z.cps.toList, c ≠ 10) ∧ z.length ≤ 600) ∧ zs.length ≤ 100 ∧ DkAt C H d [] ∧ ∀ H', SameB d H H' → DkAt C H' d zs → Q (.bl true) H'
theorem reps_strs {K : PySem.W.Frag} {H : Hp} : ∀ zs : List Str, Reps K H (zs.map V.str) (zs.map Dat.str)
  | [] => .nil
  | z :: zs => .cons (.str z) (reps_strs zs)
noncomputable def rowsI (n : Nat) : List Str := (List.range n).map fun k => Str.ofString "rows " ++ numS ((k + 1 : Nat) : Int)
theorem rowsI_ok {n : Nat} (h : n ≤ 1000) : PySem.W.kqdOk 8 (.list ((rowsI n).map Dat.str)) = true := by
  show ((rowsI n).map Dat.str).all (PySem.W.kqdOk 7) = true
  refine List.all_eq_true.mpr fun d hd => ?_
  obtain ⟨z, hz, rfl⟩ := List.mem_map.mp hd
  obtain ⟨k, hk, rfl⟩ := List.mem_map.mp hz
  have so : PyData.strOk (Str.ofString "rows " ++ numS ((k + 1 : Nat) : Int)) = true := by
    show (Str.ofString "rows " ++ numS ((k + 1 : Nat) : Int)).cps.all (· < 0x110000) = true
    rw [← Array.all_toList, cps_app, List.all_append]
    have e1 : ((Str.ofString "rows ").cps.toList.all fun x => decide (x < 0x110000)) = true := by decide +kernel
    rw [e1, Bool.true_and, numS_cps (by omega)]
    refine List.all_eq_true.mpr fun c hc => decide_eq_true ?_
    have := digs_in _ c hc
    omega
  show PyData.strOk _ = true
  exact so
noncomputable def sp_lruns (K : PySem.W.Frag) (C : Addr) : Sp := fun vs H Q _ => ∃ (pd d : Addr) (x : V) (n : Int) (w : Works) (zs : List Str) (G : Hp), vs = [.ref pd, .ref d, x] ∧ H pd = some (.lst [.int n]) ∧ Same G H ∧ G pd = none ∧ Rep K G x (worksD w) ∧ WF 20 w ∧ GoodW w ∧ DkAt C G d zs ∧ zs.length ≤ 900 ∧ TX (feedJ zs) ∧ (zs.map (·.length)).sum + zs.length ≤ 1000 ∧ ToldT (feedJ zs) w ∧
  ∀ (n' : Int) (H' : Hp), SameB pd H H' → H' pd = some (.lst [.int n']) → Q (.bl true) H'
theorem wf_up {m : Nat} {w : Works} (wf : WF m w) (hm : m ≤ 20) : WF 20 w := ⟨wf.i1, wf.i6, Nat.le_trans wf.few hm, wf.legs, wf.o1, by have := wf.o3; omega, wf.outs⟩
theorem rows_little {w : Works} (wf : WF 12 w) (h3 : w.outs.length ≤ 3) : (∀ z ∈ rowsS w, z.length ≤ 15 ∧ ∀ c ∈ z.cps.toList, c ≠ 10 ∧ c < 128) ∧ (rowsS w).length ≤ 14 := by
  have wf2 : WF 20 w := wf_up wf (by decide)
  have few := wf.few
  have i6 := wf.i6
  have dg : ∀ n : Int, n < 100 → (digs n.toNat).length ≤ 2 := fun n hn => digs_len _ 2 (by omega) (by decide)
  have rl : ∀ (x : Str) (ns : List Int), (∀ n ∈ ns, n < 100) → (rowL ⟨x, ns⟩).length ≤ x.length + ns.length * 3 := fun x ns hn => by
    have := join2_le (ns.map fun n => digs n.toNat) x.cps.toList fun q hq => by
      obtain ⟨n, hm, rfl⟩ := List.mem_map.mp hq
      exact dg n (hn n hm)
    rw [List.length_map] at this
    have e : x.cps.toList.length = x.length := Array.length_toList
    rw [e] at this
    exact this
  refine ⟨fun z hz => ?_, ?_⟩
  · obtain ⟨f, hf, rfl⟩ := List.mem_map.mp hz
    refine ⟨?_, fun c hc => ?_⟩
    · have e : (txtW f).length = (rowL f).length := by show (rowL f).toArray.size = _; simp
      rw [e]
      rcases List.mem_cons.mp hf with rfl | hf
      · have := rl "in" [w.ins] fun n hn => by rw [List.mem_singleton.mp hn]; omega
        have e : (Str.ofString "in").length = 2 := by decide +kernel
        rw [e] at this
        exact Nat.le_trans this (by show 2 + 1 * 3 ≤ 15; decide)
      rcases List.mem_append.mp hf with hf | hf
      · obtain ⟨g, hg, rfl⟩ := List.mem_map.mp hf
        obtain ⟨k, hk⟩ := List.getElem?_of_mem hg
        obtain ⟨lk, lb⟩ := wf.legs k g hk
        have hkl := (List.getElem?_eq_some_iff.mp hk).1
        have := rl g.1 g.2 fun n hn => by have := lb n hn; omega
        have e1 : (Str.ofString "and").length = 3 := by decide +kernel
        have e2 : (Str.ofString "or").length = 2 := by decide +kernel
        have e3 : (Str.ofString "odd").length = 3 := by decide +kernel
        have e4 : (Str.ofString "not").length = 3 := by decide +kernel
        have e5 : (Str.ofString "choose").length = 6 := by decide +kernel
        have e6 : (Str.ofString "zero").length = 4 := by decide +kernel
        have e7 : (Str.ofString "one").length = 3 := by decide +kernel
        refine Nat.le_trans this ?_
        rcases lk with ⟨e | e | e, l⟩ | ⟨e, l⟩ | ⟨e, l⟩ | ⟨e | e, l⟩ <;> rw [e] <;> omega
      · rw [List.mem_singleton.mp hf]
        have := rl "out" w.outs fun n hn => by have := wf.outs n hn; omega
        have e : (Str.ofString "out").length = 3 := by decide +kernel
        rw [e] at this
        omega
    · rw [show (txtW f).cps.toList = rowL f from tl _] at hc
      exact row_clean (rows_ok wf2 f hf) c hc
  · show ((rowsW w).map txtW).length ≤ 14
    rw [List.length_map]
    show (gatesR w.gates ++ [(⟨"out", w.outs⟩ : Rwt)]).length + 1 ≤ 14
    unfold gatesR
    rw [List.length_append, List.length_map, List.length_singleton]
    omega
noncomputable def ShortR (zs : List Str) : Prop := ∀ z ∈ zs, z.length ≤ 15 ∧ ∀ c ∈ z.cps.toList, c ≠ 10 ∧ c < 128
theorem short_tx {zs : List Str} (h : ShortR zs) (l : zs.length ≤ 20) : TX (feedJ zs) ∧ (zs.map (·.length)).sum + zs.length ≤ 1000 := by
  have e : (feedJ zs).length = (feedJ zs).cps.toList.length := Array.length_toList.symm
  refine ⟨⟨?_, fun c hc => ?_⟩, ?_⟩
  · rw [e, feedJ_cps]
    have := joinN_le (k := 15) (ps := zs.map fun z => z.cps.toList) fun p hp => by
      obtain ⟨z, hz, rfl⟩ := List.mem_map.mp hp
      have e2 : z.cps.toList.length = z.length := Array.length_toList
      rw [e2]
      exact (h z hz).1
    rw [List.length_map] at this
    omega
  · rw [feedJ_cps] at hc
    rcases joinL_mem hc with rfl | ⟨p, hp, hx⟩
    · decide
    · obtain ⟨z, hz, rfl⟩ := List.mem_map.mp hp
      exact ((h z hz).2 c hx).2
  · have := sum_le (g := fun z : Str => z.length) (k := 15) (l := zs) fun z hz => (h z hz).1
    omega
theorem wf_good {w : Works} (wf : WF 20 w) : GoodW w := ⟨wf.i1, fun k g hk => wf.legs k g hk, wf.o1, wf.outs⟩
noncomputable def rowsA (w : Works) : List Str := ((⟨"in", [w.ins]⟩ : Rwt) :: gatesR w.gates).map txtW
theorem rowsS_eq (w : Works) : rowsS w = rowsA w ++ [txtW ⟨"out", w.outs⟩] := by
  unfold rowsS rowsA rowsW
  rw [← List.cons_append, List.map_append]
  rfl
theorem kind_out {x : Str} (h : isKind x) : x.cps.toList ≠ outW := by
  unfold isKind at h
  rcases h with rfl | rfl | rfl | rfl | rfl | rfl | rfl <;> decide +kernel
theorem none_cut {w : Works} (wf : WF 20 w) : ¬ ∃ b, ToldT (feedJ (rowsA w)) b := by
  have cl : ∀ z ∈ rowsA w, 10 ∉ z.cps.toList := fun z hz => rowsS_clean wf z (by rw [rowsS_eq]; exact List.mem_append_left _ hz)
  unfold rowsA at cl ⊢
  rcases List.eq_nil_or_concat (gatesR w.gates) with e | ⟨l, f, e⟩
  · rw [e] at cl ⊢
    exact told_last (zs := []) (by simpa using cl) (.inl rfl)
  · rw [e, List.concat_eq_append, ← List.cons_append, List.map_append] at cl ⊢
    refine told_last cl (.inr fun r hr => ?_)
    have hf : f ∈ gatesR w.gates := by rw [e, List.concat_eq_append]; exact List.mem_append_right _ (.head _)
    obtain ⟨g, hg, rfl⟩ := List.mem_map.mp hf
    obtain ⟨k, hk⟩ := List.getElem?_of_mem hg
    rw [show (txtW ⟨g.1, g.2⟩).cps.toList = rowL ⟨g.1, g.2⟩ from tl _, rowN_ok (gate_ok wf hk)] at hr
    cases hr
    exact kind_out (kind_of (wf.legs k g hk).1)
theorem none_more {w : Works} (wf : WF 20 w) : ¬ ∃ b, ToldT (feedJ (rowsS w ++ [Str.ofString ""])) b := by
  refine told_last (fun x hx => ?_) (.inr fun r hr => ?_)
  · rcases List.mem_append.mp hx with hx | hx
    · exact rowsS_clean wf x hx
    · rw [List.mem_singleton.mp hx]
      decide +kernel
  · rw [show (Str.ofString "").cps.toList = [] by decide +kernel] at hr
    have : rowN [] = some ([], []) := rfl
    rw [this] at hr
    cases hr
    exact fun z => by cases z
theorem DkAt.sb {C : Addr} {H H' : Hp} {d m : Addr} {zs : List Str} {o : HO} (h : DkAt C H d zs) (s : SameB m H H') (dm : d ≠ m) (hm : H m = some o) (no : o ≠ .lst (zs.map V.str)) : DkAt C H' d zs := by
  obtain ⟨dx, r, a, h1, h2⟩ := h
  have rm : r ≠ m := fun e => by
    rw [e, hm] at h2
    exact no (Option.some.inj h2)
  exact ⟨dx, r, a, s _ _ dm h1, s _ _ rm h2⟩
noncomputable def outH (M : List Addr) (H : Hp) : Hp := fun b => if b ∈ M then none else H b
theorem out_get {M : List Addr} {H : Hp} {b : Addr} {o : HO} (hb : b ∉ M) (e : H b = some o) : outH M H b = some o := by
  unfold outH
  rw [if_neg hb]
  exact e
theorem off_out {M : List Addr} {H : Hp} (h : ∀ m ∈ M, ∃ o, H m = some o) : Off M (outH M H) H := ⟨fun b o e => by
    unfold outH at e
    split at e
    · cases e
    · exact e, fun m hm => by unfold outH; rw [if_pos hm], h⟩
theorem out_same {p : Addr} {G H : Hp} (s : Same G H) (g : G p = none) : Same G (outH [p] H) := fun b o e => by
  refine out_get (fun z => ?_) (s _ _ e)
  rw [List.mem_singleton.mp z, g] at e
  cases e
theorem out_sub {p : Addr} {H : Hp} : Same (outH [p] H) H ∧ outH [p] H p = none := ⟨fun b o e => by
    unfold outH at e
    split at e
    · cases e
    · exact e, by unfold outH; rw [if_pos (.head _)]⟩
theorem strs_int {zs : List Str} {n : Int} : HO.lst [.int n] ≠ .lst (zs.map V.str) := fun e => by
  have := HO.lst.inj e
  cases zs with
  | nil => cases this
  | cons z zs => cases (List.cons.inj this).1
theorem DkAt.hole {C : Addr} {H : Hp} {d pd : Addr} {zs : List Str} {n : Int} (h : DkAt C H d zs) (hp : H pd = some (.lst [.int n])) : DkAt C (outH [pd] H) d zs := by
  obtain ⟨dx, r, a, h1, h2⟩ := h
  refine ⟨dx, r, a, out_get (fun z => ?_) h1, out_get (fun z => ?_) h2⟩
  · rw [List.mem_singleton.mp z, hp] at h1; cases h1
  · rw [List.mem_singleton.mp z, hp] at h2; exact strs_int (Option.some.inj h2)
noncomputable def DkG (C : Addr) (G H : Hp) (d : Addr) (zs : List Str) : Prop := ∃ (dx r a : Addr), H d = some (.ins C dx [("rows", .ref r), ("answers", .ref a)]) ∧ G r = some (.lst (zs.map V.str))
theorem DkG.at {C : Addr} {G H : Hp} {d : Addr} {zs : List Str} (h : DkG C G H d zs) (s : Same G H) : DkAt C H d zs := by
  obtain ⟨dx, r, a, h1, h2⟩ := h
  exact ⟨dx, r, a, h1, s _ _ h2⟩
noncomputable def KeptG (K : PySem.W.Frag) (G : Hp) (v : V) (zs : List Str) : Prop := v = .non ∨ ∃ (w : Works) (r : Addr), v = .ref r ∧ Rep K G v (worksD w) ∧ WF 12 w ∧ w.outs.length ≤ 3 ∧ zs = rowsS w
theorem KeptG.mono {K : PySem.W.Frag} {G G' : Hp} {v : V} {zs : List Str} (h : KeptG K G v zs) (s : Same G G') : KeptG K G' v zs := by
  rcases h with h | ⟨w, r, e, h1, h2⟩
  · exact .inl h
  · exact .inr ⟨w, r, e, h1.mono s, h2⟩
theorem KeptG.str {K : PySem.W.Frag} {G : Hp} {v : V} {zs : List Str} (h : KeptG K G v zs) (z : Str) : v ≠ .str z := fun e => by
  rcases h with h | ⟨w, r, e2, _⟩
  · rw [h] at e; cases e
  · rw [e2] at e; cases e
theorem strs_kept {zs : List Str} {u v : V} (h : ∀ z, u ≠ .str z) : HO.lst [u, v] ≠ .lst (zs.map V.str) := fun e => by
  have := HO.lst.inj e
  cases zs with
  | nil => cases this
  | cons z zs => exact h z (List.cons.inj this).1
theorem cut_lastV (b : V) (xs : List V) : cutV (xs ++ [b]) none (some (-1)) = xs := by
  have e1 : HT.sIx (xs ++ [b]).length 0 none = 0 := rfl
  have e2 : HT.sIx (xs ++ [b]).length (xs ++ [b]).length (some (-1)) = xs.length := by
    simp only [HT.sIx]
    rw [if_pos (by decide), List.length_append, List.length_singleton]
    omega
  unfold cutV
  rw [e1, e2, List.drop_zero, Nat.sub_zero, List.take_left]
theorem zeroA : Str.ofString "0" = ⟨#[48]⟩ := by decide +kernel
theorem fig_zero (n : Nat) : figS (List.replicate n 0) = ⟨(List.replicate n 48).toArray⟩ := by
  unfold figS figL
  rw [List.map_replicate]
  rfl
theorem not_ne {a b : V} (h : a = b) : ¬ ((!decide (a = b)) = true) := by
  rw [decide_eq_true h]
  decide
theorem bits_zero (n : Nat) : Bits (List.replicate n 0) := fun x hx => .inl (List.eq_of_mem_replicate hx)
theorem run_len {n : Nat} (h : n ≤ 100) : (Str.ofString "run ").length + (⟨(List.replicate n 48).toArray⟩ : Str).length ≤ sizeLine := by
  have e1 : (Str.ofString "run ").length = 4 := by decide +kernel
  have e2 : (⟨(List.replicate n 48).toArray⟩ : Str).length = n := by
    show (List.replicate n 48).toArray.size = _
    rw [List.size_toArray, List.length_replicate]
  have sl : sizeLine = 16777216 := by decide
  rw [e1, e2]
  omega
section
variable {P : Program} {w : World} {K : PySem.W.Frag} {mg : Str → Option Value} {base : Heap} {t : Adr}
theorem sc_law_stir : FnScope ["cell", "k", "number"] ["cell", "k"] (defScope s_law_stir) := ⟨rfl, rfl, rfl, by decide +kernel, rfl, by decide +kernel, by decide +kernel⟩
theorem stir_1 (c k : Int) (hk : k = 1 ∨ k = 2 ∨ k = 3) : 0 ≤ c % 10 ^ 40 * 48271 + 3 ^ 60 * (k + 1) * (k + 1) + k ∧ c % 10 ^ 40 * 48271 + 3 ^ 60 * (k + 1) * (k + 1) + k < 10 ^ 46 := by
  rcases hk with rfl | rfl | rfl <;> omega
theorem stir_2 (n : Int) (h0 : 0 ≤ n) (h1 : n < 10 ^ 46) : 0 ≤ n * n + 69621 * n ∧ n * n + 69621 * n < 10 ^ 93 := by
  have a : 0 ≤ n * n := Int.mul_nonneg h0 h0
  have b : n * n ≤ 10 ^ 46 * 10 ^ 46 := Int.mul_le_mul (Int.le_of_lt h1) (Int.le_of_lt h1) h0 (by decide)
  omega
theorem bits46 {n : Int} (h : 0 ≤ n ∧ n < 10 ^ 46) : Builtin.Int.intBits n ≤ 2 ^ 20 := bits_of (k := 160) (by decide) (by omega) (by omega)
theorem bits93 {n : Int} (h : 0 ≤ n ∧ n < 10 ^ 93) : Builtin.Int.intBits n ≤ 2 ^ 20 := bits_of (k := 320) (by decide) (by omega) (by omega)
theorem bits62 {n : Int} (h : 0 ≤ n ∧ n < 10 ^ 62) : Builtin.Int.intBits n ≤ 2 ^ 20 := bits_of (k := 220) (by decide) (by omega) (by omega)
theorem bits130 {n : Int} (h : 0 ≤ n ∧ n < 10 ^ 130) : Builtin.Int.intBits n ≤ 2 ^ 20 := bits_of (k := 450) (by decide) (by omega) (by omega)
theorem eighth (x : Int) : 0 ≤ x % (10 ^ 61 + 7) / 8 ∧ x % (10 ^ 61 + 7) / 8 < 10 ^ 62 := by omega
theorem ok_law_stir (T : Txt K mg t) : FnOk P w K mg base CX0 1 t.f_law_stir t.fd_law_stir ["cell", "k"] sp_stir := by
  refine T.d_law_stir.F.okB sc_law_stir (fun vs H Q E h => ?_) (fun cdv A outer s H vs Q E hr h => ?_)
  · obtain ⟨c, k, rfl, _⟩ := h
    rfl
  obtain ⟨c, k, rfl, hk, q⟩ := h
  refine ⟨_, (bpss_cons (bps_set (k := 2) sc_law_stir.nd rfl (Or.inl rfl) (bpe_op op_add (bpe_op op_add (bpe_op op_mul (bpe_op op_mod (bpv 0) (bpe_op op_pow bpe_int bpe_int)) bpe_int) (bpe_op op_mul (bpe_op op_mul (bpe_op op_pow bpe_int bpe_int) (bpe_op op_add (bpv 1) bpe_int)) (bpe_op op_add (bpv 1) bpe_int))) (bpv 1)))
    (bpss_cons (bps_set (k := 2) sc_law_stir.nd rfl (Or.inl rfl) (bpe_op op_add (bpe_op op_mulB (bpv 2) (bpv 2)) (bpe_op op_mul bpe_int (bpv 2))))
    (bpss_one (bps_ret (bpe_op op_fdiv (bpe_op op_mod (bpe_op op_mulB (bpv 2) (bpv 2)) (bpe_op op_add (bpe_op op_pow bpe_int bpe_int) bpe_int)) bpe_int))))), ?_⟩
  have b1 := stir_1 c k hk
  have b2 := stir_2 _ b1.1 b1.2
  have hk2 : 0 ≤ k ∧ k ≤ 3 := by omega
  have pw : ∀ i j : Int, i.natAbs < 2 ^ 64 → 0 ≤ j → j ≤ 1000000 → CPow i j := fun i j a b c => ⟨b, c, a⟩
  refine ⟨_, rfl, _, _, rfl, rfl, pw _ _ (by decide) (by decide) (by decide), _, _, rfl, rfl, (by show (0 : Int) < 10 ^ 40; decide), _, _, rfl, rfl, .inr ⟨by decide, by decide⟩,
    _, _, rfl, rfl, pw _ _ (by decide) (by decide) (by decide), _, rfl, _, _, rfl, rfl, _, _, rfl, rfl, .inr ⟨by omega, by omega⟩, _, rfl, _, _, rfl, rfl, _, _, rfl, rfl, .inr ⟨by omega, by omega⟩,
    _, _, rfl, rfl, _, rfl, _, _, rfl, rfl, ?_⟩
  refine ⟨_, rfl, _, rfl, _, _, rfl, rfl, ⟨bits46 b1, bits46 b1⟩, _, rfl, _, _, rfl, rfl, .inl ⟨by decide, by decide⟩, _, _, rfl, rfl, ?_⟩
  refine ⟨_, rfl, _, rfl, _, _, rfl, rfl, ⟨bits93 b2, bits93 b2⟩,
    _, _, rfl, rfl, pw _ _ (by decide) (by decide) (by decide), _, _, rfl, rfl, _, _, rfl, rfl, (by show (0 : Int) < 10 ^ 61 + 7; decide), _, _, rfl, rfl, ⟨by decide, by decide⟩, ?_⟩
  exact q _ (eighth _).1 (eighth _).2
theorem sc_law_deck : FnScope ["cell"] ["cell"] (defScope s_law_deck) := ⟨rfl, rfl, rfl, by decide +kernel, rfl, by decide +kernel, by decide +kernel⟩
theorem ok_law_deck (T : Txt K mg t) : FnOk P w K mg base CX0 2 t.f_law_deck t.fd_law_deck ["cell"] sp_deck := by
  refine T.d_law_deck.F.okB sc_law_deck (fun vs H Q E h => ?_) (fun cdv A outer s H vs Q E hr h => ?_)
  · obtain ⟨c, rfl, _⟩ := h
    rfl
  obtain ⟨c, rfl, q⟩ := h
  refine ⟨_, (bpss_cons (bps_if (bpt_cmpR op_ge (bpv 0) (bpe_op op_pow bpe_int bpe_int) (nomark _)) (bpss_one (bps_ret (bpe_lst (bpa_cons (bpe_op op_sub (bpv 0) (bpe_op op_pow bpe_int bpe_int)) (bpa_nil))))) bpss_nil)
    (bpss_one (bps_ret (bpe_lst (bpa_cons (bpe_op op_add (bpe_op op_mulB (bpe_op op_add (bpe_op op_mulB (bpe_call (ok_law_stir T) (hr.mono (by decide)) rfl T.d_law_stir.m T.d_law_stir.F.kp T.d_law_stir.b .nil pass0 (bpa_cons (bpv 0) ( bpa_cons bpe_int (bpa_nil)))) (bpe_op op_pow bpe_int bpe_int)) (bpe_call (ok_law_stir T) (hr.mono (by decide)) rfl T.d_law_stir.m T.d_law_stir.F.kp T.d_law_stir.b .nil pass0 (bpa_cons (bpv 0) ( bpa_cons bpe_int (bpa_nil))))) (bpe_op op_pow bpe_int bpe_int)) (bpe_call (ok_law_stir T) (hr.mono (by decide)) rfl T.d_law_stir.m T.d_law_stir.F.kp T.d_law_stir.b .nil pass0 (bpa_cons (bpv 0) ( bpa_cons bpe_int (bpa_nil))))) (bpa_nil)))))), ?_⟩
  have pw : ∀ i j : Int, i.natAbs < 2 ^ 64 → 0 ≤ j → j ≤ 1000000 → CPow i j := fun i j a b c => ⟨b, c, a⟩
  refine ⟨_, rfl, _, _, rfl, rfl, pw _ _ (by decide) (by decide) (by decide), _, _, rfl, rfl, _, rfl, ite2 (fun _ => ?_) (fun _ => ?_)⟩
  · exact ⟨_, rfl, _, _, rfl, rfl, pw _ _ (by decide) (by decide) (by decide), _, _, rfl, rfl, (by show 1 ≤ sizeLine; decide), fun p hp => q p _ hp⟩
  · have b60 : Builtin.Int.intBits ((10 : Int) ^ (60 : Int).toNat) ≤ 2 ^ 20 := bits62 (n := 10 ^ 60) (by decide)
    refine ⟨_, rfl, c, 1, rfl, .inl rfl, fun r1 a1 b1 => ?_⟩
    refine ⟨_, _, rfl, rfl, pw _ _ (by decide) (by decide) (by decide), _, _, rfl, rfl, ⟨bits62 ⟨a1, b1⟩, b60⟩, _, rfl, c, 2, rfl, .inr (.inl rfl), fun r2 a2 b2 => ?_⟩
    have m1 : 0 ≤ r1 * 10 ^ 60 + r2 ∧ r1 * 10 ^ 60 + r2 < 10 ^ 130 := by omega
    refine ⟨_, _, rfl, rfl, _, _, rfl, rfl, pw _ _ (by decide) (by decide) (by decide), _, _, rfl, rfl, ⟨bits130 m1, b60⟩, _, rfl, c, 3, rfl, .inr (.inr rfl), fun r3 a3 b3 => ?_⟩
    exact ⟨_, _, rfl, rfl, (by show 1 ≤ sizeLine; decide), fun p hp => q p _ hp⟩
theorem sc_law_take : FnScope ["deck", "many", "taken"] ["deck", "many"] (defScope s_law_take) := ⟨rfl, rfl, rfl, by decide +kernel, rfl, by decide +kernel, by decide +kernel⟩
theorem ok_law_take (T : Txt K mg t) : FnOk P w K mg base CX0 1 t.f_law_take t.fd_law_take ["deck", "many"] sp_take := by
  refine T.d_law_take.F.okB sc_law_take (fun vs H Q E h => ?_) (fun cdv A outer s H vs Q E hr h => ?_)
  · obtain ⟨p, n, m, rfl, _⟩ := h
    rfl
  obtain ⟨p, n, m, rfl, hp, m0, m1, q⟩ := h
  refine ⟨_, (bpss_cons (bps_set (k := 2) sc_law_take.nd rfl (Or.inl rfl) (bpe_op op_mod (bpe_ix ix_list (bpv 0) bpe_int (fun _ _ => rfl)) (bpv 1)))
    (bpss_cons (bps_asg (bpe_op op_fdiv (bpe_ix ix_list (bpv 0) bpe_int (fun _ _ => rfl)) (bpv 1)) (bpg_sub (bpv 0) bpe_int set_list))
    (bpss_one (bps_ret (bpv 2))))), ?_⟩
  refine ⟨_, rfl, p, _, _, _, rfl, rfl, .of hp, rfl, _, rfl, _, _, rfl, rfl, m0, ?_⟩
  refine ⟨_, rfl, p, _, _, _, rfl, rfl, .of hp, rfl, _, rfl, _, _, rfl, rfl, ⟨m0, m1⟩, _, rfl, p, _, _, _, rfl, rfl, hp, rfl, ?_⟩
  exact ⟨_, rfl, q _ _ (Int.emod_nonneg _ (Int.ne_of_gt m0)) (Int.emod_lt_of_pos _ m0)⟩
theorem sc_law_legs : FnScope ["deck", "kind"] ["deck", "kind"] (defScope s_law_legs) := ⟨rfl, rfl, rfl, by decide +kernel, rfl, by decide +kernel, by decide +kernel⟩
theorem ok_law_legs (T : Txt K mg t) : FnOk P w K mg base CX0 2 t.f_law_legs t.fd_law_legs ["deck", "kind"] sp_legs := by
  refine T.d_law_legs.F.okB sc_law_legs (fun vs H Q E h => ?_) (fun cdv A outer s H vs Q E hr h => ?_)
  · obtain ⟨p, n, x, rfl, _⟩ := h
    rfl
  obtain ⟨p, n, x, rfl, hp, hk, q⟩ := h
  have hu1 := hu_of hr
  refine ⟨_, (bpss_cons (bps_if (bpt_cmpR op_in_seq (bpv 1) (bpe_tup (bpa_cons bpe_str ( bpa_cons bpe_str ( bpa_cons bpe_str (bpa_nil))))) rfl) (bpss_one (bps_ret (bpe_op op_add bpe_int (bpe_call (ok_law_take T) (hr.mono (by decide)) rfl T.d_law_take.m T.d_law_take.F.kp T.d_law_take.b .nil pass0 (bpa_cons (bpv 0) ( bpa_cons bpe_int (bpa_nil))))))) bpss_nil)
    (bpss_one (bps_ret (bpe_dget hu1 (bpe_disp (bpps_cons bpe_str bpe_int (bpps_cons bpe_str bpe_int (bpps_cons bpe_str bpe_int (bpps_cons bpe_str bpe_int bpps_nil)))) rfl rfl (by simp) (by decide)) (bpv 1) (fun _ _ => rfl))))), ?_⟩
  refine ⟨_, rfl, (by show 3 ≤ sizeLine; decide), fun T1 h1 => ⟨T1, _, rfl, .inr (.of upd_same), rfl, rfl, _, rfl, ?_⟩⟩
  have p1 : p ≠ T1 := ne_of_none hp h1
  have hp1 : ∀ o, (upd H T1 o) p = some (.lst [.int n]) := fun o => by rw [upd_ne p1]; exact hp
  have sb : ∀ o, SameB p H (upd H T1 o) := fun o => (same_upd h1 o).b p
  have d1 : ∀ (k : Key) (v : V) (m : Nat), legsOk x m → v = .int m → V.str x = kV k → valV (mergeK [] [(Sum.inr "not", .int 1), (Sum.inr "choose", .int 3), (Sum.inr "zero", .int 0), (Sum.inr "one", .int 0)]) k = some v →
      ∀ d, (upd H T1 (.tup [.str "and", .str "or", .str "odd"])) d = none → DGet (upd (upd (upd H T1 (.tup [.str "and", .str "or", .str "odd"])) d (.dK [])) d (.dK (mergeK [] [(Sum.inr "not", .int 1), (Sum.inr "choose", .int 3), (Sum.inr "zero", .int 0), (Sum.inr "one", .int 0)]))) d (.str x) (some v) ∧
        Q v (upd (upd (upd H T1 (.tup [.str "and", .str "or", .str "odd"])) d (.dK [])) d (.dK (mergeK [] [(Sum.inr "not", .int 1), (Sum.inr "choose", .int 3), (Sum.inr "zero", .int 0), (Sum.inr "one", .int 0)]))) := fun k v m hm ev ek hv d hd => by
    have hd0 : H d = none := (same_upd h1 _).free hd
    have pd : p ≠ d := ne_of_none hp hd0
    refine ⟨by rw [ek, ← hv]; exact DGet.k upd_same, ?_⟩
    rw [ev]
    exact q m n _ hm ((((same_upd h1 _).upd hd _).write hd0 _).b p) (by rw [upd_ne pd, upd_ne pd]; exact hp1 _)
  have yes : ∀ r n' : Int, (x = "and" ∨ x = "or" ∨ x = "odd") → 0 ≤ r → r < 3 → Q (.int (2 + r)) (upd (upd H T1 (.tup [.str "and", .str "or", .str "odd"])) p (.lst [.int n'])) := fun r n' hx a b => by
    have e : (((2 + r).toNat : Nat) : Int) = 2 + r := by omega
    have z := q (2 + r).toNat n' (upd (upd H T1 (.tup [.str "and", .str "or", .str "odd"])) p (.lst [.int n'])) (.inl ⟨hx, by omega, by omega⟩) ((sb _).write _) upd_same
    rw [e] at z
    exact z
  rcases hk with rfl | rfl | rfl | rfl | rfl | rfl | rfl
  all_goals dsimp only
  · rw [if_pos (by decide +kernel)]
    refine ⟨_, rfl, p, n, 3, rfl, hp1 _, by decide, by decide, fun r n' a b => ⟨_, _, rfl, rfl, ?_⟩⟩
    exact yes r n' (.inl rfl) a b
  · rw [if_pos (by decide +kernel)]
    refine ⟨_, rfl, p, n, 3, rfl, hp1 _, by decide, by decide, fun r n' a b => ⟨_, _, rfl, rfl, ?_⟩⟩
    exact yes r n' (.inr (.inl rfl)) a b
  · rw [if_pos (by decide +kernel)]
    refine ⟨_, rfl, p, n, 3, rfl, hp1 _, by decide, by decide, fun r n' a b => ⟨_, _, rfl, rfl, ?_⟩⟩
    exact yes r n' (.inr (.inr rfl)) a b
  · rw [if_neg (by decide +kernel)]
    intro d hd
    refine ⟨upd_same, [(Sum.inr "not", .int 1), (Sum.inr "choose", .int 3), (Sum.inr "zero", .int 0), (Sum.inr "one", .int 0)], rfl, by decide, _, rfl, d, .int 1, rfl, ?_⟩
    exact d1 (Sum.inr "not") (.int 1) 1 (.inr (.inl ⟨rfl, rfl⟩)) rfl rfl (by decide +kernel) d hd
  · rw [if_neg (by decide +kernel)]
    intro d hd
    refine ⟨upd_same, [(Sum.inr "not", .int 1), (Sum.inr "choose", .int 3), (Sum.inr "zero", .int 0), (Sum.inr "one", .int 0)], rfl, by decide, _, rfl, d, .int 3, rfl, ?_⟩
    exact d1 (Sum.inr "choose") (.int 3) 3 (.inr (.inr (.inl ⟨rfl, rfl⟩))) rfl rfl (by decide +kernel) d hd
  · rw [if_neg (by decide +kernel)]
    intro d hd
    refine ⟨upd_same, [(Sum.inr "not", .int 1), (Sum.inr "choose", .int 3), (Sum.inr "zero", .int 0), (Sum.inr "one", .int 0)], rfl, by decide, _, rfl, d, .int 0, rfl, ?_⟩
    exact d1 (Sum.inr "zero") (.int 0) 0 (.inr (.inr (.inr ⟨.inl rfl, rfl⟩))) rfl rfl (by decide +kernel) d hd
  · rw [if_neg (by decide +kernel)]
    intro d hd
    refine ⟨upd_same, [(Sum.inr "not", .int 1), (Sum.inr "choose", .int 3), (Sum.inr "zero", .int 0), (Sum.inr "one", .int 0)], rfl, by decide, _, rfl, d, .int 0, rfl, ?_⟩
    exact d1 (Sum.inr "one") (.int 0) 0 (.inr (.inr (.inr ⟨.inr rfl, rfl⟩))) rfl rfl (by decide +kernel) d hd
theorem sc_law_works : FnScope ["deck", "most", "inputs", "gates", "k", "outputs", "kind", "legs", "place"] ["deck", "most"] (defScope s_law_works) := ⟨rfl, rfl, rfl, by decide +kernel, rfl, by decide +kernel, by decide +kernel⟩
structure WI (K : PySem.W.Frag) (H0 : Hp) (p g : Addr) (M : List Addr) (gs : List (Str × List Int)) (H : Hp) : Prop where
  deck : ∃ n, H p = some (.lst [.int n])
  same : SameB p H0 H
  ex : ∃ G xs, Same G H ∧ G p = none ∧ G g = none ∧ (∀ m ∈ M, G m = none) ∧ (∀ b o, G b = some o → H0 b = none) ∧ Reps K G xs (gs.map gateD) ∧ H g = some (.lst xs)
  pg : p ≠ g
  g0 : H0 g = none
  ms : ∀ m ∈ M, m ≠ p ∧ m ≠ g ∧ H0 m = none
theorem WI.take {H0 H : Hp} {p g : Addr} {M : List Addr} {gs : List (Str × List Int)} (W : WI K H0 p g M gs H) (n : Int) : WI K H0 p g M gs (upd H p (.lst [.int n])) := by
  obtain ⟨G, xs, a, b, c, d, e, f, h⟩ := W.ex
  exact ⟨⟨n, upd_same⟩, W.same.write _, ⟨G, xs, a.write b _, b, c, d, e, f, by rw [upd_ne (Ne.symm W.pg)]; exact h⟩, W.pg, W.g0, W.ms⟩
theorem WI.sb {H0 H H' : Hp} {p g : Addr} {M : List Addr} {gs : List (Str × List Int)} (W : WI K H0 p g M gs H) (s : SameB p H H') {n : Int} (e : H' p = some (.lst [.int n])) : WI K H0 p g M gs H' := by
  obtain ⟨G, xs, a, b, c, d, e', f, h⟩ := W.ex
  exact ⟨⟨n, e⟩, W.same.trans s, ⟨G, xs, s.same a b, b, c, d, e', f, s _ _ (Ne.symm W.pg) h⟩, W.pg, W.g0, W.ms⟩
theorem WI.new {H0 H : Hp} {p g T : Addr} {M : List Addr} {gs : List (Str × List Int)} (W : WI K H0 p g M gs H) (h : H T = none) (o : HO) : WI K H0 p g M gs (upd H T o) := by
  obtain ⟨n, e⟩ := W.deck
  exact W.sb ((same_upd h o).b p) (n := n) (by rw [upd_ne (ne_of_none e h)]; exact e)
theorem WI.open {H0 H : Hp} {p g l : Addr} {M : List Addr} {gs : List (Str × List Int)} (W : WI K H0 p g M gs H) (h : H l = none) : WI K H0 p g (l :: M) gs (upd H l (.lst [])) := by
  have W' := W.new h (.lst [])
  obtain ⟨n, e⟩ := W.deck
  obtain ⟨G, xs, a, b, c, d, e', f, h'⟩ := W.ex
  have lp : l ≠ p := Ne.symm (ne_of_none e h)
  refine ⟨W'.deck, W'.same, ⟨G, xs, a.upd h _, b, c, fun m hm => ?_, e', f, by rw [upd_ne (ne_of_none h' h)]; exact h'⟩, W.pg, W.g0, fun m hm => ?_⟩
  · rcases List.mem_cons.mp hm with rfl | hm
    · exact a.free h
    · exact d m hm
  · rcases List.mem_cons.mp hm with rfl | hm
    · refine ⟨lp, Ne.symm (ne_of_none h' h), ?_⟩
      cases z : H0 m with
      | none => rfl
      | some u => rw [W.same m u lp z] at h; cases h
    · exact W.ms m hm
theorem WI.put {H0 H : Hp} {p g l : Addr} {M : List Addr} {gs : List (Str × List Int)} (W : WI K H0 p g M gs H) (h : l ∈ M) (o : HO) : WI K H0 p g M gs (upd H l o) := by
  obtain ⟨n, e⟩ := W.deck
  obtain ⟨G, xs, a, b, c, d, e', f, h'⟩ := W.ex
  obtain ⟨m1, m2, m3⟩ := W.ms l h
  refine ⟨⟨n, by rw [upd_ne (Ne.symm m1)]; exact e⟩, fun x u nx q => ?_, ⟨G, xs, a.write (d l h) o, b, c, d, e', f, by rw [upd_ne (Ne.symm m2)]; exact h'⟩, W.pg, W.g0, W.ms⟩
  rw [upd_ne (ne_of_none q m3)]
  exact W.same x u nx q
theorem WI.drop {H0 H : Hp} {p g l : Addr} {M : List Addr} {gs : List (Str × List Int)} (W : WI K H0 p g (l :: M) gs H) : WI K H0 p g M gs H := by
  obtain ⟨G, xs, a, b, c, d, e', f, h'⟩ := W.ex
  exact ⟨W.deck, W.same, ⟨G, xs, a, b, c, fun m hm => d m (.tail _ hm), e', f, h'⟩, W.pg, W.g0, fun m hm => W.ms m (.tail _ hm)⟩
theorem WI.push {H0 H : Hp} {p g T1 T2 : Addr} {gs : List (Str × List Int)} {xs : List V} {x : Str} {ls : List Int} (W : WI K H0 p g [] gs H) (hx : H g = some (.lst xs)) (h1 : H T1 = none)
    (h2 : (upd H T1 (.tup (ls.map V.int))) T2 = none) :
    WI K H0 p g [] (gs ++ [(x, ls)]) (upd (upd (upd H T1 (.tup (ls.map V.int))) T2 (.tup [.str x, .ref T1])) g (.lst (xs ++ [.ref T2]))) := by
  have W1 := (W.new h1 (.tup (ls.map V.int))).new h2 (.tup [.str x, .ref T1])
  obtain ⟨n, e⟩ := W1.deck
  obtain ⟨m, em⟩ := W.deck
  obtain ⟨G, ys, a, b, c, d, e', f, h'⟩ := W.ex
  rw [hx] at h'
  cases h'
  have s1 : Same G (upd G T1 (.tup (ls.map V.int))) := same_upd (a.free h1) _
  have k1 : Same (upd G T1 (.tup (ls.map V.int))) (upd H T1 (.tup (ls.map V.int))) := fun z u q => by
    by_cases ez : z = T1
    · subst ez; rw [upd_same] at q ⊢; exact q
    · rw [upd_ne ez] at q ⊢; exact a z u q
  have n2 : (upd G T1 (.tup (ls.map V.int))) T2 = none := k1.free h2
  have s2 : Same (upd G T1 (.tup (ls.map V.int))) (upd (upd G T1 (.tup (ls.map V.int))) T2 (.tup [.str x, .ref T1])) := same_upd n2 _
  have k2 : Same (upd (upd G T1 (.tup (ls.map V.int))) T2 (.tup [.str x, .ref T1])) (upd (upd H T1 (.tup (ls.map V.int))) T2 (.tup [.str x, .ref T1])) := fun z u q => by
    by_cases ez : z = T2
    · subst ez; rw [upd_same] at q ⊢; exact q
    · rw [upd_ne ez] at q ⊢; exact k1 z u q
  have gT1 : g ≠ T1 := ne_of_none hx h1
  have gT2 : g ≠ T2 := ne_of_none (show (upd H T1 (.tup (ls.map V.int))) g = some (.lst xs) by rw [upd_ne gT1]; exact hx) h2
  have pT1 : p ≠ T1 := ne_of_none em h1
  have pT2 : p ≠ T2 := ne_of_none (show (upd H T1 (.tup (ls.map V.int))) p = some (.lst [.int m]) by rw [upd_ne pT1]; exact em) h2
  have gG : (upd (upd G T1 (.tup (ls.map V.int))) T2 (.tup [.str x, .ref T1])) g = none := by rw [upd_ne gT2, upd_ne gT1]; exact c
  have f1 : H0 T1 = none := by
    cases z : H0 T1 with
    | none => rfl
    | some u => rw [W.same T1 u (Ne.symm pT1) z] at h1; cases h1
  have f2 : H0 T2 = none := by
    cases z : H0 T2 with
    | none => rfl
    | some u => rw [(W.new h1 _).same T2 u (Ne.symm pT2) z] at h2; cases h2
  refine ⟨⟨n, by rw [upd_ne W.pg]; exact e⟩, fun z u nz q => ?_, ⟨_, xs ++ [.ref T2], k2.write gG _, by rw [upd_ne pT2, upd_ne pT1]; exact b, gG, (fun m hm => nomatch hm), fun z u q => ?_, ?_, upd_same⟩, W.pg, W.g0, W.ms⟩
  · rw [upd_ne (ne_of_none q W.g0)]
    exact W1.same z u nz q
  · by_cases ez : z = T2
    · rw [ez]; exact f2
    · rw [upd_ne ez] at q
      by_cases ez1 : z = T1
      · rw [ez1]; exact f1
      · rw [upd_ne ez1] at q
        exact e' z u q
  · rw [List.map_append]
    exact ((f.mono s1).mono s2).snoc (.tup (.of upd_same) (.cons (.str x) (.cons ((Rep.tup (.of upd_same) (Reps.ints ls)).mono s2) .nil)))
theorem kinds_at {c : Int} (h0 : 0 ≤ c) (h1 : c < 9) : ∃ x, atI [V.str "and", V.str "or", V.str "odd", V.str "not", V.str "choose", V.str "zero", V.str "one", V.str "and", V.str "odd"] c = some (.str x) ∧ isKind x := by
  have : c = 0 ∨ c = 1 ∨ c = 2 ∨ c = 3 ∨ c = 4 ∨ c = 5 ∨ c = 6 ∨ c = 7 ∨ c = 8 := by omega
  rcases this with rfl | rfl | rfl | rfl | rfl | rfl | rfl | rfl | rfl
  · exact ⟨_, rfl, .inl rfl⟩
  · exact ⟨_, rfl, .inr (.inl rfl)⟩
  · exact ⟨_, rfl, .inr (.inr (.inl rfl))⟩
  · exact ⟨_, rfl, .inr (.inr (.inr (.inl rfl)))⟩
  · exact ⟨_, rfl, .inr (.inr (.inr (.inr (.inl rfl))))⟩
  · exact ⟨_, rfl, .inr (.inr (.inr (.inr (.inr (.inl rfl)))))⟩
  · exact ⟨_, rfl, .inr (.inr (.inr (.inr (.inr (.inr rfl)))))⟩
  · exact ⟨_, rfl, .inl rfl⟩
  · exact ⟨_, rfl, .inr (.inr (.inl rfl))⟩
theorem ok_law_works (T : Txt K mg t) : FnOk P w K mg base CX0 3 t.f_law_works t.fd_law_works ["deck", "most"] (sp_works K) := by
  refine T.d_law_works.F.okB sc_law_works (fun vs H Q E h => ?_) (fun cdv A outer s H vs Q E hr h => ?_)
  · obtain ⟨p, n, most, rfl, _⟩ := h
    rfl
  obtain ⟨p, n, most, rfl, hp, hm, q⟩ := h
  refine ⟨_, (bpss_cons (bps_set (k := 2) sc_law_works.nd rfl (Or.inr rfl) (bpe_op op_add bpe_int (bpe_call (ok_law_take T) (hr.mono (by decide)) rfl T.d_law_take.m T.d_law_take.F.kp T.d_law_take.b .nil pass0 (bpa_cons (bpv 0) ( bpa_cons bpe_int (bpa_nil))))))
    (bpss_cons (bps_set (k := 3) sc_law_works.nd rfl (Or.inr rfl) (bpe_lst bpa_nil))
    (bpss_cons (bps_for PassesOwn.never rfl (bpi_range1 rfl T.z_range (bpa_cons (bpe_call (ok_law_take T) (hr.mono (by decide)) rfl T.d_law_take.m T.d_law_take.F.kp T.d_law_take.b .nil pass0 (bpa_cons (bpv 0) ( bpa_cons (bpe_op op_add (bpv 1) bpe_int) (bpa_nil)))) (bpa_nil))) (bpg_name (k := 4) sc_law_works.nd rfl (Or.inl rfl)) (bpss_cons (bps_set (k := 6) sc_law_works.nd rfl (Or.inl rfl) (bpe_ix ix_list (bpe_lst (bpa_cons bpe_str ( bpa_cons bpe_str ( bpa_cons bpe_str ( bpa_cons bpe_str ( bpa_cons bpe_str ( bpa_cons bpe_str ( bpa_cons bpe_str ( bpa_cons bpe_str ( bpa_cons bpe_str (bpa_nil))))))))))) (bpe_call (ok_law_take T) (hr.mono (by decide)) rfl T.d_law_take.m T.d_law_take.F.kp T.d_law_take.b .nil pass0 (bpa_cons (bpv 0) ( bpa_cons bpe_int (bpa_nil)))) (fun _ _ => rfl)))
    (bpss_cons (bps_set (k := 7) sc_law_works.nd rfl (Or.inl rfl) (bpe_lst bpa_nil))
    (bpss_cons (bps_for PassesOwn.never rfl (bpi_range1 rfl T.z_range (bpa_cons (bpe_call (ok_law_legs T) (hr.mono (by decide)) rfl T.d_law_legs.m T.d_law_legs.F.kp T.d_law_legs.b .nil pass0 (bpa_cons (bpv 0) ( bpa_cons (bpv 6) (bpa_nil)))) (bpa_nil))) (bpg_name (k := 8) sc_law_works.nd rfl (Or.inl rfl)) (bpss_one (bps_expr (bpe_bm PySem.F.plainAttrs_list PySem.F.slot_list_append PySem.F.type_list_append mt_append (bpv 7) (bpa_cons (bpe_call (ok_law_take T) (hr.mono (by decide)) rfl T.d_law_take.m T.d_law_take.F.kp T.d_law_take.b .nil pass0 (bpa_cons (bpv 0) ( bpa_cons (bpe_op op_add (bpv 2) (bpv 4)) (bpa_nil)))) (bpa_nil))))))
    (bpss_one (bps_expr (bpe_bm PySem.F.plainAttrs_list PySem.F.slot_list_append PySem.F.type_list_append mt_append (bpv 3) (bpa_cons (bpe_tup (bpa_cons (bpv 6) ( bpa_cons (bpe_callTy call_tuple_of rfl T.z_tuple PyProof.Rows.boot_tuple (bpa_cons (bpv 7) (bpa_nil))) (bpa_nil)))) (bpa_nil)))))))))
    (bpss_cons (bps_setC (k := 5) rfl (N := ["k", "deck", "inputs", "gates"]) (n := 1) (cap := [0, 2, 3]) (blk_of rfl rfl) sc_law_works.nd rfl rfl (bpi_range1 rfl T.z_range (bpa_cons (bpe_op op_add bpe_int (bpe_call (ok_law_take T) (hr.mono (by decide)) rfl T.d_law_take.m T.d_law_take.F.kp T.d_law_take.b .nil pass0 (bpa_cons (bpv 0) ( bpa_cons bpe_int (bpa_nil))))) (bpa_nil))) (keep_name (by decide)) (fun _ _ _ _ => (bpg_name (k := 0) (show (["k", "deck", "inputs", "gates"] : List Str).Nodup by decide +kernel) rfl (Or.inl rfl))) (fun _ _ _ _ => bpts_nil) (fun _ _ _ _ => (bpe_call (ok_law_take T) (hr.mono (by decide)) rfl T.d_law_take.m T.d_law_take.F.kp T.d_law_take.b .nil pass0 (bpa_cons (bpv 1) ( bpa_cons (bpe_op op_add (bpv 2) (bpe_callB (call_len_seqK (K := K)) rfl T.z_len PySem.boot_len (bpa_cons (bpv 3) (bpa_nil)))) (bpa_nil))))) rfl)
    (bpss_one (bps_ret (bpe_tup (bpa_cons (bpv 2) ( bpa_cons (bpv 3) ( bpa_cons (bpv 5) (bpa_nil))))))))))), ?_⟩
  refine ⟨_, rfl, p, n, 6, rfl, hp, by decide, by decide, fun r n1 a1 b1 => ⟨_, _, rfl, rfl, ?_⟩⟩
  refine ⟨(by show 0 ≤ sizeLine; decide), fun g hg => ?_⟩
  have pg : p ≠ g := ne_of_none upd_same hg
  have hg0 : H g = none := by rw [upd_ne (Ne.symm pg)] at hg; exact hg
  have W0 : WI K H p g [] [] (upd (upd H p (.lst [.int n1])) g (.lst [])) := by
    refine ⟨⟨n1, by rw [upd_ne pg, upd_same]⟩, fun z u nz q => ?_, ⟨fun _ => none, [], (fun _ _ z => nomatch z), rfl, rfl, (fun _ _ => rfl), (fun _ _ z => nomatch z), .nil, upd_same⟩, pg, hg0, fun _ z => nomatch z⟩
    rw [upd_ne (ne_of_none q hg0), upd_ne nz]
    exact q
  generalize (upd (upd H p (.lst [.int n1])) g (.lst [])) = H1 at W0
  obtain ⟨n2, e2⟩ := W0.deck
  refine ⟨_, rfl, _, rfl, _, _, rfl, rfl, p, n2, _, rfl, e2, by omega, by omega, fun c n3 a3 b3 => ⟨_, rfl, by omega, by omega, ?_⟩⟩
  have W1 := W0.take n3
  refine for_range (fun i σ H2 => ∃ (gs : List (Str × List Int)) (o4 o5 o6 o7 o8 : Option V), σ = [some (.ref p), some (.int most), some (.int (1 + r)), some (.ref g), o4, o5, o6, o7, o8] ∧ gs.length = i ∧
      (∀ (k : Nat) g, gs[k]? = some g → legsOk g.1 g.2.length ∧ ∀ l ∈ g.2, 0 ≤ l ∧ l < 1 + r + k) ∧ WI K H p g [] gs H2)
    ⟨[], _, _, _, _, _, rfl, rfl, (fun k g e => by simp at e), W1⟩ ?_ ?_
  · rintro i σ H2 hi ⟨gs, o4, o5, o6, o7, o8, rfl, lgs, ok, W⟩
    rw [Int.zero_add]
    refine ⟨(by show 9 ≤ sizeLine; decide), fun T1 h1 => ?_⟩
    have W2 := W.new h1 (.lst [.str "and", .str "or", .str "odd", .str "not", .str "choose", .str "zero", .str "one", .str "and", .str "odd"])
    obtain ⟨n4, e4⟩ := id W2.deck
    refine ⟨_, rfl, p, n4, 9, rfl, e4, by decide, by decide, fun c n5 a5 b5 => ?_⟩
    obtain ⟨x, hx, kx⟩ := kinds_at a5 b5
    have W3 := W2.take n5
    have pT : T1 ≠ p := by
      rintro rfl
      rw [upd_same] at e4
      cases e4
    refine ⟨T1, _, _, .str x, rfl, rfl, .of (by rw [upd_ne pT, upd_same]), hx, ?_⟩
    refine ⟨(by show 0 ≤ sizeLine; decide), fun l hl => ?_⟩
    have W4 := W3.open hl
    generalize (upd (upd H2 T1 (.lst [.str "and", .str "or", .str "odd", .str "not", .str "choose", .str "zero", .str "one", .str "and", .str "odd"])) p (.lst [.int n5])) = H3 at hl W3 W4
    obtain ⟨n6, e6⟩ := id W4.deck
    refine ⟨_, rfl, _, rfl, p, n6, x, rfl, e6, kx, fun m n7 H4 lk sb e7 => ⟨_, rfl, by omega, (by have := lk.le; omega), ?_⟩⟩
    have W5 := W4.sb sb e7
    have lp : l ≠ p := (W4.ms l (.head _)).1
    have hl4 : H4 l = some (.lst []) := sb l _ lp upd_same
    have lk4 := lk.le
    refine for_range (fun j σ H5 => ∃ (ls : List Int) (o8 : Option V), σ = [some (.ref p), some (.int most), some (.int (1 + r)), some (.ref g), some (.int i), o5, some (.str x), some (.ref l), o8] ∧ ls.length = j ∧
        (∀ z ∈ ls, 0 ≤ z ∧ z < 1 + r + i) ∧ H5 l = some (.lst (ls.map V.int)) ∧ WI K H p g [l] gs H5)
      ⟨[], _, rfl, rfl, (fun _ z => nomatch z), hl4, W5⟩ ?_ ?_
    · rintro j σ H5 hj ⟨ls, o8, rfl, lls, bl, hl5, W6⟩
      obtain ⟨n8, e8⟩ := id W6.deck
      refine ⟨_, rfl, .inl ⟨rfl, _, .of hl5⟩, _, rfl, _, rfl, _, rfl, _, _, rfl, rfl, p, n8, _, rfl, e8, by omega, by omega, fun c n9 a9 b9 => ?_⟩
      have W7 := W6.take n9
      refine ⟨l, ls.map V.int, .int c, rfl, rfl, by rw [upd_ne lp]; exact hl5, big (by rw [List.length_map]; omega), ls ++ [c], _, rfl, by simp [lls], fun z hz => ?_, ?_, W7.put (.head _) _⟩
      · rcases List.mem_append.mp hz with hz | hz
        · exact bl z hz
        · rw [List.mem_singleton.mp hz]
          exact ⟨a9, b9⟩
      · rw [upd_same, List.map_append]
        rfl
    · rintro σ H5 ⟨ls, o8, rfl, lls, bl, hl5, W6⟩
      have W7 := W6.drop
      obtain ⟨G, xs, _, _, _, _, _, rs, hgx⟩ := id W7.ex
      have lxs := rs.length
      rw [List.length_map] at lxs
      refine ⟨_, rfl, .inl ⟨rfl, _, .of hgx⟩, _, rfl, _, rfl, l, _, rfl, .inl ⟨.of hl5, fun T2 h2 => ⟨(by show 2 ≤ sizeLine; decide), fun T3 h3 => ?_⟩⟩⟩
      have g2 : g ≠ T2 := ne_of_none hgx h2
      have hg2 : (upd H5 T2 (.tup (ls.map V.int))) g = some (.lst xs) := by rw [upd_ne g2]; exact hgx
      have g3 : g ≠ T3 := ne_of_none hg2 h3
      refine ⟨g, xs, _, rfl, rfl, by rw [upd_ne g3]; exact hg2, big (by omega), gs ++ [(x, ls)], _, _, _, _, _, rfl, by simp [lgs], fun k gg e => ?_, W7.push hgx h2 h3⟩
      by_cases hk : k < gs.length
      · rw [List.getElem?_append_left hk] at e
        exact ok k gg e
      · have ek : k = gs.length := by
          have := (List.getElem?_eq_some_iff.mp e).1
          simp at this
          omega
        subst ek
        simp at e
        subst e
        have em : ((m : Nat) : Int).toNat = m := Int.toNat_natCast m
        refine ⟨?_, fun z hz => ?_⟩
        · show legsOk x ls.length
          rw [lls, em]
          exact lk
        · rw [lgs]
          exact bl z hz
  rintro σ H2 ⟨gs, o4, o5, o6, o7, o8, rfl, lgs, ok, W⟩
  obtain ⟨n4, e4⟩ := id W.deck
  refine ⟨_, rfl, p, n4, 3, rfl, e4, by decide, by decide, fun c' n5 a5 b5 => ⟨_, _, rfl, rfl, _, rfl, by omega, by omega, fun D hD => ?_⟩⟩
  have W2 := W.take n5
  have W3 := W2.open hD
  obtain ⟨dp, dg, d0⟩ := W3.ms D (.head _)
  refine comp_range (fun i H3 => ∃ os : List Int, os.length = i ∧ (∀ z ∈ os, 0 ≤ z ∧ z < 1 + r + gs.length) ∧ H3 D = some (.lst (os.map V.int)) ∧ WI K H p g [D] gs H3) ⟨[], rfl, (fun _ z => nomatch z), upd_same, W3⟩ ?_ ?_
  · rintro i H3 hi ⟨os, los, bo, ho, W4⟩
    obtain ⟨n6, e6⟩ := id W4.deck
    obtain ⟨G, xs, _, _, _, _, _, rs, hgx⟩ := id W4.ex
    have lxs := rs.length
    rw [List.length_map] at lxs
    refine ⟨_, rfl, _, rfl, _, rfl, g, _, rfl, .inl (.of hgx), _, _, rfl, rfl, p, n6, _, rfl, e6, by omega, by omega, fun c n7 a7 b7 => ?_⟩
    refine ⟨os.map V.int, by rw [upd_ne dp]; exact ho, big (by rw [List.length_map]; omega), os ++ [c], by simp [los], fun z hz => ?_, ?_, (W4.take n7).put (.head _) _⟩
    · rcases List.mem_append.mp hz with hz | hz
      · exact bo z hz
      · rw [List.mem_singleton.mp hz]
        exact ⟨a7, by omega⟩
    · rw [upd_same, List.map_append]
      rfl
  rintro H3 ⟨os, los, bo, ho, W4⟩
  obtain ⟨n6, e6⟩ := id W4.deck
  obtain ⟨G, xs, sG, gp, gg, gM, gn, rs, hgx⟩ := id W4.ex
  have gD : G D = none := gM D (.head _)
  refine ⟨_, rfl, _, rfl, _, rfl, (by show 3 ≤ sizeLine; decide), fun R hR => ?_⟩
  have Rp : R ≠ p := Ne.symm (ne_of_none e6 hR)
  have Rg : R ≠ g := Ne.symm (ne_of_none hgx hR)
  have RD : R ≠ D := Ne.symm (ne_of_none ho hR)
  have s1 : Same G (upd G g (.lst xs)) := same_upd gg _
  have s2 : Same (upd G g (.lst xs)) (upd (upd G g (.lst xs)) D (.lst (os.map V.int))) := same_upd (by rw [upd_ne dg]; exact gD) _
  have s3 : Same (upd (upd G g (.lst xs)) D (.lst (os.map V.int))) (upd (upd (upd G g (.lst xs)) D (.lst (os.map V.int))) R (.tup [.int (1 + r), .ref g, .ref D])) := same_upd (by rw [upd_ne RD, upd_ne Rg]; exact sG.free hR) _
  refine q ⟨1 + r, gs, os⟩ R n6 (upd (upd (upd G g (.lst xs)) D (.lst (os.map V.int))) R (.tup [.int (1 + r), .ref g, .ref D])) _ ⟨by show 1 ≤ 1 + r; omega, by show 1 + r ≤ 6; omega, by show gs.length ≤ most; omega, ok, by show 1 ≤ os.length; omega, by show os.length ≤ most + 20; omega, bo⟩ (by show os.length ≤ 3; omega)
    (W4.same.trans ((same_upd hR _).b p)) (by rw [upd_ne (Ne.symm Rp)]; exact e6) (fun z u zq => ?_) (by rw [upd_ne (Ne.symm Rp), upd_ne (Ne.symm dp), upd_ne W4.pg]; exact gp) (fun z u zq => ?_) ?_
  · by_cases z1 : z = R
    · subst z1; rw [upd_same] at zq ⊢; exact zq
    · rw [upd_ne z1] at zq ⊢
      by_cases z2 : z = D
      · subst z2; rw [upd_same] at zq; rw [ho]; exact zq
      · rw [upd_ne z2] at zq
        by_cases z3 : z = g
        · subst z3; rw [upd_same] at zq; rw [hgx]; exact zq
        · rw [upd_ne z3] at zq
          exact sG z u zq
  · by_cases z1 : z = R
    · rw [z1]
      cases zz : H R with
      | none => rfl
      | some u' => rw [W4.same R u' Rp zz] at hR; cases hR
    · rw [upd_ne z1] at zq
      by_cases z2 : z = D
      · rw [z2]; exact d0
      · rw [upd_ne z2] at zq
        by_cases z3 : z = g
        · rw [z3]; exact hg0
        · rw [upd_ne z3] at zq
          exact gn z u zq
  · refine .tup (.of upd_same) (.cons (.int _) (.cons ?_ (.cons ?_ .nil)))
    · refine .lst (.of ?_) (((rs.mono s1).mono s2).mono s3)
      rw [upd_ne (Ne.symm Rg), upd_ne (Ne.symm dg), upd_same]
    · refine .lst (.of ?_) (Reps.ints os)
      rw [upd_ne (Ne.symm RD), upd_same]
theorem sc_are_wires_below : FnScope ["numbers", "bound"] ["numbers", "bound"] (defScope s_are_wires_below) := ⟨rfl, rfl, rfl, by decide +kernel, rfl, by decide +kernel, by decide +kernel⟩
theorem ok_are_wires_below (T : Txt K mg t) : FnOk P w K mg base CX0 1 t.f_are_wires_below t.fd_are_wires_below ["numbers", "bound"] (sp_awb K) := by
  refine T.d_are_wires_below.F.okB sc_are_wires_below (fun vs H Q E h => ?_) (fun cdv A outer s H vs Q E hr h => ?_)
  · obtain ⟨p, bnd, ns, rfl, _⟩ := h
    rfl
  obtain ⟨p, bnd, ns, rfl, hS, lz, q⟩ := h
  have step : ∀ (j : Nat) (n : Int) (D : Addr) (H2 : Hp), ns[j]? = some n → H D = none → Same H H2 → H2 D = some (.lst (((ns.take j).map fun n => decide (0 ≤ n ∧ n < bnd)).map V.bl)) →
      Same H (upd H2 D (.lst (((ns.take j).map fun n => decide (0 ≤ n ∧ n < bnd)).map V.bl ++ [.bl (decide (0 ≤ n ∧ n < bnd))]))) ∧ (upd H2 D (.lst (((ns.take j).map fun n => decide (0 ≤ n ∧ n < bnd)).map V.bl ++ [.bl (decide (0 ≤ n ∧ n < bnd))]))) D = some (.lst (((ns.take (j + 1)).map fun n => decide (0 ≤ n ∧ n < bnd)).map V.bl)) := by
    intro j n D H2 hz hD s2 eD
    refine ⟨s2.write hD _, ?_⟩
    rw [upd_same, List.take_add_one, hz, List.map_append, List.map_append]
    rfl
  have fin : ∀ (D : Addr) (H2 : Hp), Same H H2 → H2 D = some (.lst (((ns.take (ns.map V.int).length).map fun n => decide (0 ≤ n ∧ n < bnd)).map V.bl)) → ∃ (p : Addr) (bs : List Bool), [V.ref D] = [.ref p] ∧ SqL K H2 p (bs.map V.bl) ∧ Q (.bl (bs.all id)) H2 := by
    intro D H2 s2 eD
    have et : ns.take (ns.map V.int).length = ns := by rw [List.length_map, List.take_length]
    rw [et] at eD
    refine ⟨D, _, rfl, .of eD, ?_⟩
    have e : (ns.map fun n => decide (0 ≤ n ∧ n < bnd)).all id = ns.all fun n => decide (0 ≤ n ∧ n < bnd) := by rw [List.all_map]; rfl
    rw [e]
    exact q H2 s2
  rcases hS with hS | hS
  · refine ⟨_, (bpss_one (bps_ret (bpe_callB (call_allL rfl) rfl T.z_all PyProof.Rows.boot_all (bpa_cons (bpe_comp rfl (N := ["number", "bound"]) (n := 1) (cap := [1]) (blk_of rfl rfl) (bpi_list (bpv 0)) (keep_name (by decide)) (fun _ _ _ _ => (bpg_name (k := 0) (show (["number", "bound"] : List Str).Nodup by decide +kernel) rfl (Or.inl rfl))) (fun _ _ _ _ => bpts_nil) (fun _ _ _ _ => (bpe_chain op_le op_lt bpe_int (bpv 0) (bpv 1)))) (bpa_nil))))), ?_⟩
    refine ⟨_, rfl, p, rfl, ⟨_, hS⟩, fun D hD => comp_list (K := K) (a := p) (xs := ns.map V.int) (fun j H2 => Same H H2 ∧ H2 D = some (.lst (((ns.take j).map fun n => decide (0 ≤ n ∧ n < bnd)).map V.bl))) ⟨same_upd hD _, upd_same⟩ (fun j H2 _ z => z.1.seq hS) ?_ (fun H2 ⟨s2, eD⟩ => fin D H2 s2 eD)⟩
    rintro j y H2 hy ⟨s2, eD⟩
    rw [List.getElem?_map] at hy
    cases hz : ns[j]? with
    | none => rw [hz] at hy; cases hy
    | some n =>
      rw [hz] at hy
      cases hy
      have lj : j < ns.length := (List.getElem?_eq_some_iff.mp hz).1
      have st := step j n D H2 hz hD s2 eD
      have lb : (((ns.take j).map fun n => decide (0 ≤ n ∧ n < bnd)).map V.bl).length < sizeLine := big (by rw [List.length_map, List.length_map, List.length_take]; omega)
      refine ⟨_, rfl, _, _, rfl, rfl, _, rfl, ite2 (fun c => ?_) (fun c => ?_)⟩
      · have c' : 0 ≤ n := of_decide_eq_true c
        refine ⟨_, rfl, _, _, rfl, rfl, _, eD, lb, ?_⟩
        have e : decide (0 ≤ n ∧ n < bnd) = decide (n < bnd) := by
          by_cases z : n < bnd
          · rw [decide_eq_true z, decide_eq_true ⟨c', z⟩]
          · rw [decide_eq_false z, decide_eq_false fun y => z y.2]
        rw [e] at st
        exact st
      · have c' : ¬ 0 ≤ n := fun z => c (decide_eq_true z)
        refine ⟨_, eD, lb, ?_⟩
        have e : decide (0 ≤ n ∧ n < bnd) = false := decide_eq_false fun y => c' y.1
        rw [e] at st
        exact st
  · refine ⟨_, (bpss_one (bps_ret (bpe_callB (call_allL rfl) rfl T.z_all PyProof.Rows.boot_all (bpa_cons (bpe_comp rfl (N := ["number", "bound"]) (n := 1) (cap := [1]) (blk_of rfl rfl) (bpi_tup (bpv 0)) (keep_name (by decide)) (fun _ _ _ _ => (bpg_name (k := 0) (show (["number", "bound"] : List Str).Nodup by decide +kernel) rfl (Or.inl rfl))) (fun _ _ _ _ => bpts_nil) (fun _ _ _ _ => (bpe_chain op_le op_lt bpe_int (bpv 0) (bpv 1)))) (bpa_nil))))), ?_⟩
    refine ⟨_, rfl, p, rfl, ⟨_, hS⟩, fun D hD => comp_tup (K := K) (a := p) (xs := ns.map V.int) (fun j H2 => Same H H2 ∧ H2 D = some (.lst (((ns.take j).map fun n => decide (0 ≤ n ∧ n < bnd)).map V.bl))) ⟨same_upd hD _, upd_same⟩ (fun j H2 _ z => z.1.seqT hS) ?_ (fun H2 ⟨s2, eD⟩ => fin D H2 s2 eD)⟩
    rintro j y H2 hy ⟨s2, eD⟩
    rw [List.getElem?_map] at hy
    cases hz : ns[j]? with
    | none => rw [hz] at hy; cases hy
    | some n =>
      rw [hz] at hy
      cases hy
      have lj : j < ns.length := (List.getElem?_eq_some_iff.mp hz).1
      have st := step j n D H2 hz hD s2 eD
      have lb : (((ns.take j).map fun n => decide (0 ≤ n ∧ n < bnd)).map V.bl).length < sizeLine := big (by rw [List.length_map, List.length_map, List.length_take]; omega)
      refine ⟨_, rfl, _, _, rfl, rfl, _, rfl, ite2 (fun c => ?_) (fun c => ?_)⟩
      · have c' : 0 ≤ n := of_decide_eq_true c
        refine ⟨_, rfl, _, _, rfl, rfl, _, eD, lb, ?_⟩
        have e : decide (0 ≤ n ∧ n < bnd) = decide (n < bnd) := by
          by_cases z : n < bnd
          · rw [decide_eq_true z, decide_eq_true ⟨c', z⟩]
          · rw [decide_eq_false z, decide_eq_false fun y => z y.2]
        rw [e] at st
        exact st
      · have c' : ¬ 0 ≤ n := fun z => c (decide_eq_true z)
        refine ⟨_, eD, lb, ?_⟩
        have e : decide (0 ≤ n ∧ n < bnd) = false := decide_eq_false fun y => c' y.1
        rw [e] at st
        exact st
theorem sc_is_kind : FnScope ["word"] ["word"] (defScope s_is_kind) := ⟨rfl, rfl, rfl, by decide +kernel, rfl, by decide +kernel, by decide +kernel⟩
theorem ok_is_kind (T : Txt K mg t) : FnOk P w K mg base CX0 1 t.f_is_kind t.fd_is_kind ["word"] (sp_ik K) := by
  refine T.d_is_kind.F.okB sc_is_kind (fun vs H Q E h => ?_) (fun cdv A outer s H vs Q E hr h => ?_)
  · obtain ⟨x, rfl, _⟩ := h
    rfl
  obtain ⟨x, rfl, q⟩ := h
  refine ⟨_, (bpss_one (bps_ret (bpe_cmpR op_inTab (bpv 0) (bpe_glob (v := .ref t.c_LEG_BOUNDS) rfl T.g_LEG_BOUNDS rfl) rfl))), ?_⟩
  exact ⟨_, rfl, x, t.c_LEG_BOUNDS, tab_LEG_BOUNDS, rfl, rfl, T.k_LEG_BOUNDS, q⟩
theorem sc_check_gate : FnScope ["kind", "legs", "own_wire", "bounds"] ["kind", "legs", "own_wire"] (defScope s_check_gate) := ⟨rfl, rfl, rfl, by decide +kernel, rfl, by decide +kernel, by decide +kernel⟩
theorem bounds_of {x : Str} {n : Nat} (h : legsOk x n) : ∃ lo hi : Int, PyProof.Rows.KTD.datumAt x tab_LEG_BOUNDS = some (.tup ([lo, hi].map PyData.int)) ∧ PyProof.Rows.KTD.inKeys x tab_LEG_BOUNDS = true ∧ lo ≤ (n : Int) ∧ (n : Int) ≤ hi := by
  rcases h with ⟨h | h | h, l1, l2⟩ | ⟨h, l1⟩ | ⟨h, l1⟩ | ⟨h | h, l1⟩ <;> subst h
  · exact ⟨2, 4, by kernel_rfl, by kernel_rfl, by omega, by omega⟩
  · exact ⟨2, 4, by kernel_rfl, by kernel_rfl, by omega, by omega⟩
  · exact ⟨2, 4, by kernel_rfl, by kernel_rfl, by omega, by omega⟩
  · exact ⟨1, 1, by kernel_rfl, by kernel_rfl, by omega, by omega⟩
  · exact ⟨3, 3, by kernel_rfl, by kernel_rfl, by omega, by omega⟩
  · exact ⟨0, 0, by kernel_rfl, by kernel_rfl, by omega, by omega⟩
  · exact ⟨0, 0, by kernel_rfl, by kernel_rfl, by omega, by omega⟩
theorem no_keys {x : Str} (h : ¬ isKind x) : PyProof.Rows.KTD.inKeys x tab_LEG_BOUNDS = false := by
  unfold isKind at h
  show (decide (x = "and") || (decide (x = "or") || (decide (x = "odd") || (decide (x = "not") || (decide (x = "choose") || (decide (x = "zero") || (decide (x = "one") || false))))))) = false
  rw [decide_eq_false fun e => h (.inl e), decide_eq_false fun e => h (.inr (.inl e)), decide_eq_false fun e => h (.inr (.inr (.inl e))), decide_eq_false fun e => h (.inr (.inr (.inr (.inl e)))), decide_eq_false fun e => h (.inr (.inr (.inr (.inr (.inl e))))), decide_eq_false fun e => h (.inr (.inr (.inr (.inr (.inr (.inl e)))))), decide_eq_false fun e => h (.inr (.inr (.inr (.inr (.inr (.inr e))))))]
  rfl
theorem yes_keys {x : Str} (h : isKind x) : ∃ lo hi : Int, PyProof.Rows.KTD.datumAt x tab_LEG_BOUNDS = some (.tup ([lo, hi].map PyData.int)) ∧ PyProof.Rows.KTD.inKeys x tab_LEG_BOUNDS = true ∧ ∀ n : Nat, (lo ≤ (n : Int) ∧ (n : Int) ≤ hi) ↔ legsOk x n := by
  have one : ∀ {x : Str} {lo hi : Int} {n : Nat}, legsOk x n → ∀ {l h : Int}, PyProof.Rows.KTD.datumAt x tab_LEG_BOUNDS = some (.tup ([l, h].map PyData.int)) → PyProof.Rows.KTD.datumAt x tab_LEG_BOUNDS = some (.tup ([lo, hi].map PyData.int)) → l = lo ∧ h = hi := fun _ _ _ e1 e2 => by
    rw [e1] at e2
    have := Option.some.inj e2
    injection this with this
    injection this with a b
    injection b with b _
    exact ⟨PyData.int.inj a, PyData.int.inj b⟩
  have fwd : ∀ {x : Str} {lo hi : Int}, PyProof.Rows.KTD.datumAt x tab_LEG_BOUNDS = some (.tup ([lo, hi].map PyData.int)) → ∀ n : Nat, legsOk x n → lo ≤ (n : Int) ∧ (n : Int) ≤ hi := fun e n l => by
    obtain ⟨lo', hi', e1, _, b1, b2⟩ := bounds_of l
    obtain ⟨rfl, rfl⟩ := one l e1 e
    exact ⟨b1, b2⟩
  rcases h with rfl | rfl | rfl | rfl | rfl | rfl | rfl
  · exact ⟨2, 4, by kernel_rfl, by kernel_rfl, fun n => ⟨fun z => .inl ⟨.inl rfl, by omega, by omega⟩, fwd (by kernel_rfl) n⟩⟩
  · exact ⟨2, 4, by kernel_rfl, by kernel_rfl, fun n => ⟨fun z => .inl ⟨.inr (.inl rfl), by omega, by omega⟩, fwd (by kernel_rfl) n⟩⟩
  · exact ⟨2, 4, by kernel_rfl, by kernel_rfl, fun n => ⟨fun z => .inl ⟨.inr (.inr rfl), by omega, by omega⟩, fwd (by kernel_rfl) n⟩⟩
  · exact ⟨1, 1, by kernel_rfl, by kernel_rfl, fun n => ⟨fun z => .inr (.inl ⟨rfl, by omega⟩), fwd (by kernel_rfl) n⟩⟩
  · exact ⟨3, 3, by kernel_rfl, by kernel_rfl, fun n => ⟨fun z => .inr (.inr (.inl ⟨rfl, by omega⟩)), fwd (by kernel_rfl) n⟩⟩
  · exact ⟨0, 0, by kernel_rfl, by kernel_rfl, fun n => ⟨fun z => .inr (.inr (.inr ⟨.inl rfl, by omega⟩)), fwd (by kernel_rfl) n⟩⟩
  · exact ⟨0, 0, by kernel_rfl, by kernel_rfl, fun n => ⟨fun z => .inr (.inr (.inr ⟨.inr rfl, by omega⟩)), fwd (by kernel_rfl) n⟩⟩
theorem okX_check_gate (T : Txt K mg t) : FnOk P w K mg base (CXC P w (.ref t.x_NoWorks)) 2 t.f_check_gate t.fd_check_gate ["kind", "legs", "own_wire"] (sp_cgX K) := by
  refine T.d_check_gate.F.okC sc_check_gate (fun vs H Q E h => ?_) (fun cdv A outer s H vs Q E hr h => ?_)
  · obtain ⟨x, la, own, ls, rfl, _⟩ := h
    rfl
  obtain ⟨x, la, own, ls, rfl, hL, lz, qg, qb⟩ := h
  have up : ∀ {H2 : Hp}, Same H H2 → ¬ GoodGt own (x, ls) → 1 ≤ sizeLine ∧ ∀ y, H2 y = none → E (.ref y) (some y) H2 := fun s nb => ⟨(by decide), fun y hy => qb nb _ y s hy⟩
  refine ⟨_, (bpss_cons (bps_if (bpt_not (bpt_val (bpe_call (ok_is_kind T) (hr.mono (by decide)) rfl T.d_is_kind.m T.d_is_kind.F.kp T.d_is_kind.b .nil pass0 (bpa_cons (bpv 0) (bpa_nil))))) (bpss_one (bps_raise PySem.F.excBase_ValueError T.k_NoWorks.ex rfl rfl T.g_NoWorks raiseC (bpa_cons bpe_str bpa_nil))) bpss_nil)
    (bpss_cons (bps_set (k := 3) sc_check_gate.nd rfl (Or.inl rfl) (bpe_ix ix_tab (bpe_glob (v := .ref t.c_LEG_BOUNDS) rfl T.g_LEG_BOUNDS rfl) (bpv 0) (fun _ _ => rfl)))
    (bpss_cons (bps_if (bPW_pt (bpw_or (bpt_cmpR op_lt (bpe_callB call_len_seq rfl T.z_len PySem.boot_len (bpa_cons (bpv 1) (bpa_nil))) (bpe_ix ix_tup (bpv 3) bpe_int (fun _ _ => rfl)) (nomark _)) (bpw_or1 (bpt_cmpR op_gt (bpe_callB call_len_seq rfl T.z_len PySem.boot_len (bpa_cons (bpv 1) (bpa_nil))) (bpe_ix ix_tup (bpv 3) bpe_int (fun _ _ => rfl)) (nomark _))))) (bpss_one (bps_raise PySem.F.excBase_ValueError T.k_NoWorks.ex rfl rfl T.g_NoWorks raiseC (bpa_cons bpe_str bpa_nil))) bpss_nil)
    (bpss_one (bps_if (bpt_not (bpt_val (bpe_call (ok_are_wires_below T) (hr.mono (by decide)) rfl T.d_are_wires_below.m T.d_are_wires_below.F.kp T.d_are_wires_below.b .nil pass0 (bpa_cons (bpv 1) ( bpa_cons (bpv 2) (bpa_nil)))))) (bpss_one (bps_raise PySem.F.excBase_ValueError T.k_NoWorks.ex rfl rfl T.g_NoWorks raiseC (bpa_cons bpe_str bpa_nil))) bpss_nil))))), ?_⟩
  refine ⟨_, rfl, x, rfl, _, rfl, ?_⟩
  refine (Classical.em (isKind x)).elim (fun kx => ?_) (fun kx => ?_)
  rotate_left
  · rw [no_keys kx]
    exact iteT (up (Same.refl _) fun z => no_kind kx _ z.1)
  obtain ⟨lo, hi, e1, e2, bnd⟩ := yes_keys kx
  rw [e2]
  refine iteF ⟨_, rfl, t.c_LEG_BOUNDS, x, tab_LEG_BOUNDS, [lo, hi], rfl, rfl, T.k_LEG_BOUNDS, e1, (by show 2 ≤ 1000; decide), fun bp hb => ?_⟩
  have ll : ((ls.map V.int).length : Int) = ls.length := by rw [List.length_map]
  refine ⟨_, rfl, la, _, rfl, .inr hL, _, rfl, bp, _, _, _, rfl, rfl, hb, rfl, _, _, rfl, rfl, _, rfl, ite2 (fun c => iteT (up (Same.refl _) fun z => ?_)) (fun c1 => ?_)⟩
  · have := (bnd ls.length).mpr z.1
    have := of_decide_eq_true c
    omega
  refine ⟨_, rfl, la, _, rfl, .inr hL, _, rfl, bp, _, _, _, rfl, rfl, hb, rfl, _, _, rfl, rfl, _, rfl, ite2 (fun c => up (Same.refl _) fun z => ?_) (fun c2 => ?_)⟩
  · have := (bnd ls.length).mpr z.1
    have := of_decide_eq_true c
    omega
  have lk : legsOk x ls.length := (bnd ls.length).mp ⟨by
    have c' : ¬ ((ls.map V.int).length : Int) < lo := fun z => c1 (decide_eq_true z)
    omega, by
    have c' : ¬ hi < ((ls.map V.int).length : Int) := fun z => c2 (decide_eq_true z)
    omega⟩
  refine ⟨_, rfl, _, rfl, la, own, ls, rfl, .inr hL, lz, fun H2 s2 => ?_⟩
  cases e3 : ls.all fun n => decide (0 ≤ n ∧ n < own) with
  | true =>
    exact ⟨_, rfl, iteF (qg ⟨lk, fun l hl => of_decide_eq_true (List.all_eq_true.mp e3 l hl)⟩ H2 s2)⟩
  | false =>
    refine ⟨_, rfl, iteT (up s2 fun z => ?_)⟩
    have : (ls.all fun n => decide (0 ≤ n ∧ n < own)) = true := List.all_eq_true.mpr fun l hl => decide_eq_true (z.2 l hl)
    rw [this] at e3
    cases e3
theorem sc_read_number : FnScope ["text", "number", "sign"] ["text"] (defScope s_read_number) := ⟨rfl, rfl, rfl, by decide +kernel, rfl, by decide +kernel, by decide +kernel⟩
theorem okX_read_number (T : Txt K mg t) : FnOk P w K mg base (CXC P w (.ref t.x_NoText)) 1 t.f_read_number t.fd_read_number ["text"] sp_rdn := by
  refine T.d_read_number.F.okC sc_read_number (fun vs H Q E h => ?_) (fun cdv A outer s H vs Q E hr h => ?_)
  · obtain ⟨z, rfl, _⟩ := h
    rfl
  obtain ⟨z, rfl, tx, q, rz⟩ := h
  have hu64 := hr.units
  have sl : sizeLine = 16777216 := by decide
  have ez : z.cps.toList.length = z.length := Array.length_toList
  have lz := tx.1
  refine ⟨_, (bpss_cons (bps_if (bPW_pt (bpw_or (bpt_cmpR op_eq (bpv 0) bpe_str (nomark _)) (bpw_or1 (bPW_pt (bpw_and (bpt_cmpR op_eq (bpe_ix ix_str (bpv 0) bpe_int (fun _ _ => rfl)) bpe_str (nomark _)) (bpw_and1 (bpt_cmpR op_ne (bpv 0) bpe_str (nomark _)))))))) (bpss_one (bps_raise PySem.F.excBase_ValueError T.k_NoText.ex rfl rfl T.g_NoText raiseC (bpa_cons bpe_str bpa_nil))) bpss_nil)
    (bpss_cons (bps_set (k := 1) sc_read_number.nd rfl (Or.inl rfl) bpe_int)
    (bpss_cons (bps_for passesOwnC rfl (bpi_str (bpv 0)) (bpg_name (k := 2) sc_read_number.nd rfl (Or.inl rfl)) (bpss_cons (bps_if (bpt_cmpR op_notin_str (bpv 2) (bpe_glob (v := .str "0123456789") rfl T.g_FIGURES ⟨_, rfl⟩) rfl) (bpss_one (bps_raise PySem.F.excBase_ValueError T.k_NoText.ex rfl rfl T.g_NoText raiseC (bpa_cons bpe_str bpa_nil))) bpss_nil)
    (bpss_one (bps_set (k := 1) sc_read_number.nd rfl (Or.inl rfl) (bpe_op op_add (bpe_op op_mulB (bpv 1) bpe_int) (bpe_bm PySem.F.plainAttrs_str PySem.F.slot_str_index PySem.F.type_str_index mt_index (bpe_glob (v := .str "0123456789") rfl T.g_FIGURES ⟨_, rfl⟩) (bpa_cons (bpv 2) (bpa_nil))))))))
    (bpss_one (bps_ret (bpv 1)))))), ?_⟩
  have bad : numL z.cps.toList = none → 1 ≤ sizeLine ∧ ∀ x, H x = none → E (.ref x) (some x) H := fun e => ⟨(by decide), fun x hx => rz e _ x (Same.refl _) hx⟩
  refine ⟨_, rfl, rfl, _, rfl, ite2 (fun hc => ?_) (fun hc => ?_)⟩
  · refine bad ?_
    have e := V.str.inj (of_decide_eq_true hc)
    have e2 : z.cps.toList = [] := by rw [e]; decide +kernel
    unfold numL
    rw [if_pos (.inl e2)]
  cases e : z.cps.toList with
  | nil =>
    refine absurd (decide_eq_true ?_) hc
    rw [strT e]
    decide +kernel
  | cons c r =>
    have cl : c < 128 := tx.2 c (by rw [e]; exact .head _)
    refine ⟨_, rfl, _, 0, c, rfl, rfl, by omega, (by rw [e]; exact atI_nat (j := 0) rfl), rfl, _, rfl, ?_⟩
    refine' joinXA (α := Unit) (C := fun _ Hx => H = Hx ∧ ¬ ((z.cps.toList.head? = some 48 ∧ z.cps.toList ≠ [48]))) (st := fun _ => [some (.str z), none, none]) (fun rest => _) _
    rotate_left
    · refine ite2 (fun h1 => ?_) (fun h1 => iteF (rest () _ ⟨rfl, fun y => ?_⟩))
      · have c48 : c = 48 := by
          have := congrArg (fun x : Str => x.cps.toList) (V.str.inj (of_decide_eq_true h1))
          rw [show (Str.ofString "0").cps.toList = [48] by decide +kernel] at this
          exact (List.cons.inj this).1
        refine ⟨_, rfl, rfl, _, rfl, ite2 (fun h2 => ?_) (fun h2 => ?_)⟩
        · have nn : z.cps.toList ≠ [48] := fun y => by
            rw [decide_eq_true (show V.str z = V.str (Str.ofString "0") by rw [strT y]; decide +kernel)] at h2
            cases h2
          refine bad ?_
          unfold numL
          rw [if_pos (.inr (.inl ⟨by rw [e, c48]; rfl, nn⟩))]
        · refine rest () _ ⟨rfl, fun y => ?_⟩
          have h3 : V.str z = V.str (Str.ofString "0") := by
            cases Decidable.em (V.str z = V.str (Str.ofString "0")) with
            | inl h => exact h
            | inr h => rw [decide_eq_false h] at h2; exact absurd rfl h2
          exact y.2 (by rw [V.str.inj h3]; decide +kernel)
      · rw [e] at y
        have c48 : c = 48 := by simpa using y.1
        exact h1 (decide_eq_true (by rw [c48]; decide +kernel))
    rintro _ _ ⟨rfl, n48⟩
    have asc : z.cps.all (· < 128) = true := by
      rw [← Array.all_toList, List.all_eq_true]
      intro c hc
      exact decide_eq_true (tx.2 c hc)
    refine ⟨_, rfl, _, rfl, asc, for_str (fun i σ H3 => ∃ o2 : Option V, σ = [some (.str z), some (.int (readN (z.cps.toList.take i) : Nat)), o2] ∧ H3 = H ∧ ∀ c ∈ z.cps.toList.take i, 48 ≤ c ∧ c < 58) ⟨_, rfl, rfl, fun c h => (nomatch h)⟩ ?_ ?_⟩
    · rintro i c σ H3 hi ⟨o2, rfl, rfl, dg⟩
      have cm := List.mem_of_getElem? hi
      have cl := tx.2 c cm
      by_cases hc : 48 ≤ c ∧ c < 58
      · have occ := fig_yes c cl hc.1 hc.2
        have nb := readN_lt _ dg
        have lt : ((readN (z.cps.toList.take i) : Nat) : Int) < 2 ^ 2000 := by
          have h1 : (z.cps.toList.take i).length ≤ 600 := by rw [List.length_take]; omega
          have h2 : (10 : Nat) ^ (z.cps.toList.take i).length ≤ 10 ^ 600 := Nat.pow_le_pow_right (by decide) h1
          have h3 : (10 : Nat) ^ 600 < 2 ^ 2000 := by decide +kernel
          have : readN (z.cps.toList.take i) < 2 ^ 2000 := Nat.lt_of_lt_of_le nb (Nat.le_trans h2 (Nat.le_of_lt h3))
          exact_mod_cast this
        refine ⟨_, rfl, _, _, rfl, rfl, _, rfl, ?_⟩
        rw [occ]
        refine iteF ?_
        refine ⟨_, rfl, _, _, rfl, rfl, ⟨bits_of (k := 2000) (by decide) (by omega) lt, bits_of (k := 5) (by decide) (by decide) (by decide)⟩, ?_⟩
        refine ⟨rfl, _, rfl, _, _, _, _, rfl, rfl, occ, _, _, rfl, rfl, some (.str ⟨#[c]⟩), ?_, rfl, ?_⟩
        · have e3 : readN (z.cps.toList.take (i + 1)) = readN (z.cps.toList.take i) * 10 + (c - 48) := by
            rw [List.take_add_one, hi]
            exact readN_snoc _ _
          rw [e3]
          show [_, some (V.int (((readN (z.cps.toList.take i) : Nat) : Int) * 10 + ((c - 48 : Nat) : Int))), _] = _
          rw [Int.natCast_add, Int.natCast_mul]
          rfl
        · intro d hd
          rw [List.take_add_one, hi] at hd
          rcases List.mem_append.mp hd with hd | hd
          · exact dg d hd
          · rw [List.mem_singleton.mp hd]; exact hc
      · have occ := fig_no c cl hc
        refine ⟨_, rfl, _, _, rfl, rfl, _, rfl, ?_⟩
        rw [occ]
        refine iteT (bad ?_)
        unfold numL
        rw [if_pos (.inr (.inr fun h => hc (h c cm)))]
    · rintro σ H3 ⟨o2, rfl, rfl, dg⟩
      rw [List.take_length] at dg ⊢
      refine ⟨_, rfl, q _ ?_⟩
      unfold numL
      rw [if_neg]
      rintro (h | h | h)
      · rw [e] at h; cases h
      · exact n48 h
      · exact h dg
theorem sc_read_row : FnScope ["row", "parts"] ["row"] (defScope s_read_row) := ⟨rfl, rfl, rfl, by decide +kernel, rfl, by decide +kernel, by decide +kernel⟩
theorem okX_read_row (T : Txt K mg t) : FnOk P w K mg base (CXC P w (.ref t.x_NoText)) 2 t.f_read_row t.fd_read_row ["row"] sp_rdr := by
  refine T.d_read_row.F.okC sc_read_row (fun vs H Q E h => ?_) (fun cdv A outer s H vs Q E hr h => ?_)
  · obtain ⟨z, w, ps, rfl, _⟩ := h
    rfl
  obtain ⟨z, w, ps, rfl, tx, ec, q, rz⟩ := h
  have hu64 := hr.units
  have sl : sizeLine = 16777216 := by decide
  have lz := tx.1
  have ez : z.cps.toList.length = z.length := Array.length_toList
  have lp : ps.length ≤ 601 := by
    have := (cut_parts 32 z.cps.toList).2
    rw [ec, List.length_cons] at this
    omega
  refine ⟨_, (bpss_cons (bps_set (k := 1) sc_read_row.nd rfl (Or.inl rfl) (bpe_bm PySem.F.plainAttrs_str PySem.F.slot_str_split PySem.F.type_str_split mt_splitA (bpv 0) (bpa_cons bpe_str (bpa_nil))))
    (bpss_one (bps_ret (bpe_tup (bpa_cons (bpe_ix ix_list (bpv 1) bpe_int (fun _ _ => rfl)) ( bpa_cons (bpe_callTy call_tuple_of rfl T.z_tuple PyProof.Rows.boot_tuple (bpa_cons (bpe_compX rfl (N := ["part"]) (n := 1) (cap := []) (blk_of rfl rfl) (bpi_list (bpe_slice sl_list (bpv 1) (bpo_some bpe_int) bpo_none)) (keep_name (by decide)) (fun _ _ _ _ => (bpg_name (k := 0) (show (["part"] : List Str).Nodup by decide +kernel) rfl (Or.inl rfl))) (fun _ _ _ _ => bpts_nil) (fun _ _ _ _ o => (bpe_call (okX_read_number T) (hr.mono (by decide)) rfl T.d_read_number.m T.d_read_number.F.kp T.d_read_number.b .nil (passCompC o) (bpa_cons (bpv 0) (bpa_nil))))) (bpa_nil))) (bpa_nil))))))), ?_⟩
  refine ⟨_, rfl, rfl, z, 32, Str.ofString " ", rfl, rfl, blankA, (by decide +kernel), by omega, fun D hD => ?_⟩
  rw [ec, List.map_cons]
  have kD := same_upd hD (.lst (.str ⟨w.toArray⟩ :: ps.map fun p => V.str ⟨p.toArray⟩))
  refine ⟨_, rfl, D, _, _, _, rfl, rfl, .of upd_same, atI_nat (j := 0) rfl, _, rfl, _, rfl, D, _, rfl, .of upd_same, fun S hS => ?_⟩
  rw [cutA_one]
  have kS := same_upd hS (.lst (ps.map fun p => V.str ⟨p.toArray⟩))
  generalize eH2 : upd (upd H D (.lst (.str ⟨w.toArray⟩ :: ps.map fun p => V.str ⟨p.toArray⟩))) S (.lst (ps.map fun p => V.str ⟨p.toArray⟩)) = H2 at kS
  have eS : H2 S = some (.lst (ps.map fun p => V.str ⟨p.toArray⟩)) := by rw [← eH2]; exact upd_same
  have kT := kD.trans kS
  refine ⟨S, rfl, ⟨_, .of eS⟩, fun C hC => comp_list (K := K) (a := S) (xs := ps.map fun p => V.str ⟨p.toArray⟩)
    (fun j H4 => Same H2 H4 ∧ ∃ ms : List Int, H4 C = some (.lst (ms.map V.int)) ∧ ms.length = j ∧ numsL (ps.take j) = some ms)
    ⟨same_upd hC _, [], upd_same, rfl, rfl⟩ (fun j H4 _ z => .of (z.1 _ _ eS)) ?_ ?_⟩
  · rintro j y H4 hy ⟨s4, ms, eC, lm, em⟩
    rw [List.getElem?_map] at hy
    cases hz : ps[j]? with
    | none => rw [hz] at hy; cases hy
    | some p =>
      rw [hz] at hy
      cases hy
      have pm := List.mem_of_getElem? hz
      have lj : j < ps.length := (List.getElem?_eq_some_iff.mp hz).1
      refine ⟨_, rfl, ⟨p.toArray⟩, rfl, tx.part (c := 32) (by rw [ec]; exact .tail _ pm), fun n en => ?_, fun en => ?_⟩
      · rw [tlA] at en
        refine ⟨_, eC, big (by rw [List.length_map, lm]; omega), s4.write hC _, ms ++ [(n : Int)], ?_, by rw [List.length_append, lm]; rfl, ?_⟩
        · rw [upd_same, List.map_append]
          rfl
        · rw [List.take_add_one, hz]
          exact numsL_snoc en em
      · rw [tlA] at en
        exact (rz (numsL_bad en pm)).on (kT.trans s4)
  rintro H4 ⟨s4, ms, eC, lm, em⟩
  rw [List.length_map] at lm em
  rw [List.take_length] at em
  refine ⟨C, _, rfl, .inl ⟨.of eC, fun q1 h1 => ⟨(by show 2 ≤ sizeLine; decide), fun r hr' => ?_⟩⟩⟩
  have k1 := same_upd h1 (.tup (ms.map V.int))
  have k2 := same_upd hr' (.tup [.str ⟨w.toArray⟩, .ref q1])
  exact q ms em r q1 _ (((kT.trans s4).trans k1).trans k2) (((kT.trans s4).trans k1).free hr') ((kT.trans s4).free h1) upd_same (k2 _ _ upd_same)
theorem sc_works_of : FnScope ["inputs", "gates", "outputs", "gate", "body"] ["inputs", "gates", "outputs"] (defScope s_works_of) := ⟨rfl, rfl, rfl, by decide +kernel, rfl, by decide +kernel, by decide +kernel⟩
theorem okX_works_of (T : Txt K mg t) : FnOk P w K mg base (CXC P w (.ref t.x_NoWorks)) 3 t.f_works_of t.fd_works_of ["inputs", "gates", "outputs"] (sp_woG K) := by
  refine T.d_works_of.F.okC sc_works_of (fun vs H Q E h => ?_) (fun cdv A outer s H vs Q E hr h => ?_)
  · obtain ⟨w, ga, oa, gs, os, rfl, _⟩ := h
    rfl
  obtain ⟨b, ga, oa, gs, os, rfl, hg, ho, rg, ro, few, o100, l1000, q, rz⟩ := h
  have lg : gs.length = b.gates.length := by rw [rg.length, List.length_map]
  have lo : os.length = b.outs.length := by rw [ro.length, List.length_map]
  have eo := reps_ints ro
  have up : ∀ {H2 : Hp}, ¬ GoodW b → Same H H2 → 1 ≤ sizeLine ∧ ∀ y, H2 y = none → E (.ref y) (some y) H2 := fun nb s => ⟨(by decide), fun y hy => rz nb _ y s hy⟩
  refine ⟨_, (bpss_cons (bps_if (bpt_cmpR op_lt (bpv 0) bpe_int (nomark _)) (bpss_one (bps_raise PySem.F.excBase_ValueError T.k_NoWorks.ex rfl rfl T.g_NoWorks raiseC (bpa_cons bpe_str bpa_nil))) bpss_nil)
    (bpss_cons (bps_for passesOwnC rfl (bpi_enum rfl T.z_enumerate (bpa_cons (bpv 1) (bpa_nil))) (bpg_tup rfl (bpgs_cons (bpg_name (k := 3) sc_works_of.nd rfl (Or.inl rfl)) (bpgs_cons (bpg_name (k := 4) sc_works_of.nd rfl (Or.inl rfl)) bpgs_nil))) (bpss_one (bps_expr (bpe_call (okX_check_gate T) (hr.mono (by decide)) rfl T.d_check_gate.m T.d_check_gate.F.kp T.d_check_gate.b .nil passC (bpa_cons (bpe_ix ix_tup (bpv 4) bpe_int (fun _ _ => rfl)) ( bpa_cons (bpe_ix ix_tup (bpv 4) bpe_int (fun _ _ => rfl)) ( bpa_cons (bpe_op op_add (bpv 0) (bpv 3)) (bpa_nil))))))))
    (bpss_cons (bps_if (bpt_cmpR op_eq (bpe_callB call_len_seq rfl T.z_len PySem.boot_len (bpa_cons (bpv 2) (bpa_nil))) bpe_int (nomark _)) (bpss_one (bps_raise PySem.F.excBase_ValueError T.k_NoWorks.ex rfl rfl T.g_NoWorks raiseC (bpa_cons bpe_str bpa_nil))) bpss_nil)
    (bpss_cons (bps_if (bpt_not (bpt_val (bpe_call (ok_are_wires_below T) (hr.mono (by decide)) rfl T.d_are_wires_below.m T.d_are_wires_below.F.kp T.d_are_wires_below.b .nil pass0 (bpa_cons (bpv 2) ( bpa_cons (bpe_op op_add (bpv 0) (bpe_callB call_len_seq rfl T.z_len PySem.boot_len (bpa_cons (bpv 1) (bpa_nil)))) (bpa_nil)))))) (bpss_one (bps_raise PySem.F.excBase_ValueError T.k_NoWorks.ex rfl rfl T.g_NoWorks raiseC (bpa_cons bpe_str bpa_nil))) bpss_nil)
    (bpss_one (bps_ret (bpe_tup (bpa_cons (bpv 0) ( bpa_cons (bpe_callTy call_list_of rfl T.z_list PyProof.Rows.boot_list (bpa_cons (bpv 1) (bpa_nil))) ( bpa_cons (bpe_callTy call_list_of rfl T.z_list PyProof.Rows.boot_list (bpa_cons (bpv 2) (bpa_nil))) (bpa_nil))))))))))), ?_⟩
  refine ⟨_, rfl, _, _, rfl, rfl, _, rfl, ite2 (fun c => up (fun z => absurd (of_decide_eq_true c) (by have := z.1; omega)) (Same.refl _)) (fun c0 => ?_)⟩
  have i1 : 1 ≤ b.ins := by
    have c' : ¬ b.ins < 1 := fun z => c0 (decide_eq_true z)
    omega
  refine ⟨_, rfl, ga, rfl, ⟨_, hg⟩, for_enum (K := K) (a := ga) (xs := gs) (fun i σ H2 => ∃ (o3 o4 : Option V), σ = [some (.int b.ins), some (.ref ga), some (.ref oa), o3, o4] ∧ Same H H2 ∧ ∀ (k : Nat) g, k < i → b.gates[k]? = some g → GoodGt (b.ins + k) g) ⟨_, _, rfl, Same.refl _, fun k g z => absurd z (by omega)⟩ (fun i σ H2 _ ⟨_, _, _, s2, _⟩ => s2.seq hg) ?_ ?_⟩
  · rintro i x σ H2 T1 hx ⟨o3, o4, rfl, s2, gd⟩ h1
    have hi : i < gs.length := (List.getElem?_eq_some_iff.mp hx).1
    obtain ⟨g, hgk⟩ : ∃ g, b.gates[i]? = some g := ⟨_, List.getElem?_eq_getElem (by omega)⟩
    obtain ⟨d, hd, rv⟩ := rg.get hx
    rw [List.getElem?_map, hgk] at hd
    cases hd
    obtain ⟨a1, la, rfl, hA, hL⟩ := gate_at rv
    have s3 := s2.upd h1 (.tup [.int i, .ref a1])
    have l10 := l1000 g (List.mem_of_getElem? hgk)
    refine ⟨T1, _, rfl, .of upd_same, rfl, _, _, rfl, _, _, rfl, rfl, ?_⟩
    refine ⟨_, rfl, a1, _, _, _, rfl, rfl, s3.seqT hA, rfl, _, rfl, a1, _, _, _, rfl, rfl, s3.seqT hA, rfl, _, rfl, _, rfl, _, _, rfl, rfl, g.1, la, b.ins + (i : Int), g.2, rfl, s3.seqT hL, by omega, fun good H3 s4 => ⟨_, _, rfl, s3.trans s4, fun k g2 hk e => ?_⟩, fun nb => (rz fun z => nb (z.2.1 i g hgk)).on s3⟩
    by_cases z : k = i
    · subst z
      rw [hgk] at e
      cases e
      exact good
    · exact gd k g2 (by omega) e
  rintro σ H2 ⟨o3, o4, rfl, s2, gd⟩
  refine ⟨_, rfl, oa, _, rfl, .inl (s2.seq ho), rfl, _, rfl, ite2 (fun c => up (fun z => ?_) s2) (fun c1 => ?_)⟩
  · have := V.int.inj (of_decide_eq_true c)
    have := z.2.2.1
    omega
  have o1 : 1 ≤ b.outs.length := by
    have c' : ¬ V.int ((os.length : Nat) : Int) = V.int 0 := fun z => c1 (decide_eq_true z)
    have : os.length ≠ 0 := fun z => c' (by rw [z]; rfl)
    omega
  refine ⟨_, rfl, _, rfl, _, rfl, ga, _, rfl, .inl (s2.seq hg), _, _, rfl, rfl, oa, _, b.outs, rfl, .inl (by rw [← eo]; exact s2.seq ho), by omega, fun H3 s3 => ?_⟩
  cases e3 : b.outs.all fun n => decide (0 ≤ n ∧ n < b.ins + ((gs.length : Nat) : Int)) with
  | false =>
    refine ⟨_, rfl, iteT (up (fun z => ?_) (s2.trans s3))⟩
    rw [List.all_eq_true.mpr fun o ho => decide_eq_true (by have := z.2.2.2 o ho; rw [lg]; exact this)] at e3
    cases e3
  | true =>
    have good : GoodW b := ⟨i1, fun k g e => gd k g (by have := (List.getElem?_eq_some_iff.mp e).1; omega) e, o1, fun o ho => by
      have := of_decide_eq_true (List.all_eq_true.mp e3 o ho)
      rw [lg] at this
      exact this⟩
    refine ⟨_, rfl, iteF ?_⟩
    have s23 := s2.trans s3
    refine ⟨_, rfl, _, rfl, ga, _, rfl, .inl (s23.seq hg), fun g hgn => ?_⟩
    have k1 := same_upd hgn (.lst gs)
    refine ⟨_, rfl, oa, _, rfl, .inl ((s23.trans k1).seq ho), fun o hon => ?_⟩
    have k2 := same_upd hon (.lst os)
    refine ⟨(by show 3 ≤ sizeLine; decide), fun r hrn => ?_⟩
    have k3 := same_upd hrn (.tup [.int b.ins, .ref g, .ref o])
    have sF := ((s23.trans k1).trans k2).trans k3
    exact q good r _ sF (.tup (.of upd_same) (.cons (.int _) (.cons (.lst (.of ((k2.trans k3) _ _ upd_same)) (rg.mono sF)) (.cons (.lst (.of (k3 _ _ upd_same)) (ro.mono sF)) .nil))))
theorem ok_works_of (T : Txt K mg t) : FnOk P w K mg base CX0 3 t.f_works_of t.fd_works_of ["inputs", "gates", "outputs"] (fun vs H Q _ => sp_woG K vs H Q fun _ _ _ => False) := calmF (okX_works_of T)
theorem sc_read_works : FnScope ["text", "rows", "first", "last", "gates"] ["text"] (defScope s_read_works) := ⟨rfl, rfl, rfl, by decide +kernel, rfl, by decide +kernel, by decide +kernel⟩
theorem okX_read_works (T : Txt K mg t) : FnOk P w K mg base (CXC P w (.ref t.x_NoText)) 4 t.f_read_works t.fd_read_works ["text"] (sp_rdwX K) := by
  refine T.d_read_works.F.okC sc_read_works (fun vs H Q E h => ?_) (fun cdv A outer s H vs Q E hr h => ?_)
  · obtain ⟨z, rfl, _⟩ := h
    rfl
  obtain ⟨z, rfl, tx, q, rz⟩ := h
  have hu64 := hr.units
  have sl : sizeLine = 16777216 := by decide
  have lz := tx.1
  have ez : z.cps.toList.length = z.length := Array.length_toList
  have lp : (cutL 10 z.cps.toList).length ≤ 601 := by
    have := (cut_parts 10 z.cps.toList).2
    omega
  refine ⟨_, (bpss_cons (bps_setCX (k := 1) rfl (N := ["row"]) (n := 1) (cap := []) (blk_of rfl rfl) sc_read_works.nd rfl rfl (bpi_list (bpe_bm PySem.F.plainAttrs_str PySem.F.slot_str_split PySem.F.type_str_split mt_splitA (bpv 0) (bpa_cons bpe_str (bpa_nil)))) (keep_name (by decide)) (fun _ _ _ _ => (bpg_name (k := 0) (show (["row"] : List Str).Nodup by decide +kernel) rfl (Or.inl rfl))) (fun _ _ _ _ => bpts_nil) (fun _ _ _ _ o => (bpe_call (okX_read_row T) (hr.mono (by decide)) rfl T.d_read_row.m T.d_read_row.F.kp T.d_read_row.b .nil (passCompC o) (bpa_cons (bpv 0) (bpa_nil)))) rfl)
    (bpss_cons (bps_set (k := 2) sc_read_works.nd rfl (Or.inl rfl) (bpe_ix ix_list (bpv 1) bpe_int (fun _ _ => rfl)))
    (bpss_cons (bps_set (k := 3) sc_read_works.nd rfl (Or.inl rfl) (bpe_ix ix_list (bpv 1) (bpe_un un_neg bpe_int) (fun _ _ => rfl)))
    (bpss_cons (bps_if (bPW_pt (bpw_or (bpt_cmpR op_ne (bpe_ix ix_tup (bpv 2) bpe_int (fun _ _ => rfl)) bpe_str (nomark _)) (bpw_or1 (bpt_cmpR op_ne (bpe_callB call_len_seq rfl T.z_len PySem.boot_len (bpa_cons (bpe_ix ix_tup (bpv 2) bpe_int (fun _ _ => rfl)) (bpa_nil))) bpe_int (nomark _))))) (bpss_one (bps_raise PySem.F.excBase_ValueError T.k_NoText.ex rfl rfl T.g_NoText raiseC (bpa_cons bpe_str bpa_nil))) bpss_nil)
    (bpss_cons (bps_if (bpt_cmpR op_ne (bpe_ix ix_tup (bpv 3) bpe_int (fun _ _ => rfl)) bpe_str (nomark _)) (bpss_one (bps_raise PySem.F.excBase_ValueError T.k_NoText.ex rfl rfl T.g_NoText raiseC (bpa_cons bpe_str bpa_nil))) bpss_nil)
    (bpss_cons (bps_set (k := 4) sc_read_works.nd rfl (Or.inl rfl) (bpe_slice sl_list (bpv 1) (bpo_some bpe_int) (bpo_some (bpe_un un_neg bpe_int))))
    (bpss_cons (bps_if (bpt_not (bpt_val (bpe_callB (call_allL rfl) rfl T.z_all PyProof.Rows.boot_all (bpa_cons (bpe_comp rfl (N := ["kind", "legs"]) (n := 2) (cap := []) (blk_of rfl rfl) (bpi_list (bpv 4)) (keep_pair (by decide) (by decide)) (fun _ _ _ _ => (bpg_tupK (K := K) (n := 2) rfl (bpgs_cons (bpg_name (k := 0) (show (["kind", "legs"] : List Str).Nodup by decide +kernel) rfl (Or.inl rfl)) (bpgs_cons (bpg_name (k := 1) (show (["kind", "legs"] : List Str).Nodup by decide +kernel) rfl (Or.inl rfl)) bpgs_nil)))) (fun _ _ _ _ => bpts_nil) (fun _ _ _ _ => (bpe_call (ok_is_kind T) (hr.mono (by decide)) rfl T.d_is_kind.m T.d_is_kind.F.kp T.d_is_kind.b .nil pass0 (bpa_cons (bpv 0) (bpa_nil))))) (bpa_nil))))) (bpss_one (bps_raise PySem.F.excBase_ValueError T.k_NoText.ex rfl rfl T.g_NoText raiseC (bpa_cons bpe_str bpa_nil))) bpss_nil)
    (bpss_one (bps_ret (bpe_call (ok_works_of T) (hr.mono (by decide)) rfl T.d_works_of.m T.d_works_of.F.kp T.d_works_of.b .nil pass0 (bpa_cons (bpe_ix ix_tup (bpe_ix ix_tup (bpv 2) bpe_int (fun _ _ => rfl)) bpe_int (fun _ _ => rfl)) ( bpa_cons (bpv 4) ( bpa_cons (bpe_callTy call_list_of rfl T.z_list PyProof.Rows.boot_list (bpa_cons (bpe_ix ix_tup (bpv 3) bpe_int (fun _ _ => rfl)) (bpa_nil))) (bpa_nil)))))))))))))), ?_⟩
  refine ⟨_, rfl, rfl, z, 10, Str.ofString "\n", rfl, rfl, feedA, (by decide +kernel), by omega, fun S hS => ?_⟩
  have kS := same_upd hS (.lst ((cutL 10 z.cps.toList).map fun p => V.str ⟨p.toArray⟩))
  have eS : (upd H S (.lst ((cutL 10 z.cps.toList).map fun p => V.str ⟨p.toArray⟩))) S = some (.lst ((cutL 10 z.cps.toList).map fun p => V.str ⟨p.toArray⟩)) := upd_same
  generalize upd H S (.lst ((cutL 10 z.cps.toList).map fun p => V.str ⟨p.toArray⟩)) = H1 at kS eS
  refine ⟨S, rfl, ⟨_, .of eS⟩, fun D hD => comp_list (K := K) (a := S) (xs := (cutL 10 z.cps.toList).map fun p => V.str ⟨p.toArray⟩)
    (fun j H4 => ∃ (us : List V) (G : Hp) (rs : List TRow), Same H1 G ∧ Off [D] G H4 ∧ H4 D = some (.lst us) ∧ Reps K G us (rs.map fun r => gateD (gateN r)) ∧ allO rowN ((cutL 10 z.cps.toList).take j) = some rs)
    ⟨[], H1, [], Same.refl _, Off.start hD _, upd_same, .nil, rfl⟩ (fun j H4 _ z => by obtain ⟨_, _, _, sG, oG, _⟩ := z; exact .of ((sG.trans oG.same) _ _ eS)) ?_ ?_⟩
  · rintro j y H4 hy ⟨us, G, rs, sG, oG, eD, rus, ers⟩
    rw [List.getElem?_map] at hy
    cases hz : (cutL 10 z.cps.toList)[j]? with
    | none => rw [hz] at hy; cases hy
    | some p =>
      rw [hz] at hy
      cases hy
      have pm := List.mem_of_getElem? hz
      have lj := (List.getElem?_eq_some_iff.mp hz).1
      have lr := allO_len ers
      have lu : us.length = rs.length := by rw [rus.length, List.length_map]
      rw [List.length_take] at lr
      obtain ⟨w, ps, ec⟩ : ∃ w ps, cutL 32 p = w :: ps := by
        cases e : cutL 32 p with
        | nil => exact absurd e (cutL_ne _ _)
        | cons w ps => exact ⟨w, ps, rfl⟩
      refine ⟨_, rfl, ⟨p.toArray⟩, w, ps, rfl, tx.part pm, by rw [tlA]; exact ec, fun ns en r1 q1 H5 s5 nr nq er eq => ?_, fun en => ?_⟩
      · have e1 : rowN p = some (w, ns) := by
          unfold rowN
          rw [ec]
          show (numsL ps).map _ = _
          rw [en]
          rfl
        refine ⟨us, s5 _ _ eD, big (by omega), us ++ [.ref r1], newsOf G H4 H5, rs ++ [(w, ns)], sG.trans (newsOf_same oG.same), (newsOf_off oG s5).write (.head _) _, upd_same, ?_, ?_⟩
        · rw [List.map_append]
          exact (rus.mono (newsOf_same oG.same)).snoc (.tup (.of (by rw [newsOf_new nr]; exact er)) (.cons (.str _) (.cons (.tup (.of (by rw [newsOf_new nq]; exact eq)) (Reps.ints _)) .nil)))
        · rw [List.take_add_one, hz]
          exact allO_snoc e1 ers
      · have e1 : rowN p = none := by
          unfold rowN
          rw [ec]
          show (numsL ps).map _ = _
          rw [en]
          rfl
        exact (rz (by rintro ⟨b, rs, e, _⟩; unfold rowsN at e; rw [allO_bad e1 pm] at e; cases e)).on (kS.trans (sG.trans oG.same))
  rintro H4 ⟨us, G, rs, sG, oG, eD, rus, ers⟩
  rw [List.length_map, List.take_length] at ers
  have lr := allO_len ers
  have s04 := (kS.trans sG).trans oG.same
  have ru := rus.mono oG.same
  have bad : ∀ {H2 : Hp}, Same H4 H2 → (¬ ∃ b, Told rs b) → 1 ≤ sizeLine ∧ ∀ x, H2 x = none → E (.ref x) (some x) H2 := fun s2 h => ⟨(by decide), fun x hx => rz (by rintro ⟨b, rs', e, tb⟩; unfold rowsN at e; rw [ers] at e; cases e; exact h ⟨b, tb⟩) _ x (s04.trans s2) hx⟩
  obtain ⟨v0, ut, r0, rt, rfl, rfl, rv0⟩ : ∃ v0 ut r0 rt, us = v0 :: ut ∧ rs = r0 :: rt ∧ Rep K H4 v0 (gateD (gateN r0)) := by
    cases rs with
    | nil => exact absurd (List.length_eq_zero_iff.mp lr.symm) (cutL_ne _ _)
    | cons r0 rt =>
      cases ru with
      | cons h _ => exact ⟨_, _, _, _, rfl, rfl, h⟩
  obtain ⟨vl, rl, el, elr, rvl⟩ : ∃ vl rl, (v0 :: ut).getLast? = some vl ∧ (r0 :: rt).getLast? = some rl ∧ Rep K H4 vl (gateD (gateN rl)) := by
    have h1 : (v0 :: ut)[(v0 :: ut).length - 1]? = (v0 :: ut).getLast? := by rw [List.getLast?_eq_getElem?]
    have h2 : (r0 :: rt)[(r0 :: rt).length - 1]? = (r0 :: rt).getLast? := by rw [List.getLast?_eq_getElem?]
    have e1 : (v0 :: ut).length = (r0 :: rt).length := by rw [ru.length, List.length_map]
    obtain ⟨rl, erl⟩ : ∃ rl, (r0 :: rt).getLast? = some rl := ⟨_, List.getLast?_eq_some_getLast (List.cons_ne_nil _ _)⟩
    obtain ⟨vl, evl⟩ : ∃ vl, (v0 :: ut).getLast? = some vl := ⟨_, List.getLast?_eq_some_getLast (List.cons_ne_nil _ _)⟩
    obtain ⟨d, hd, rv⟩ := ru.get (h1.trans evl)
    rw [List.getElem?_map, e1, h2, erl] at hd
    cases hd
    exact ⟨vl, rl, evl, erl, rv⟩
  obtain ⟨a0, l0, rfl, h0, hl0⟩ := gate_at rv0
  obtain ⟨al, ll, rfl, hal, hll⟩ := gate_at rvl
  have eD' := eD
  refine ⟨_, rfl, D, _, _, _, rfl, rfl, .of eD, atI_nat (j := 0) rfl, ?_⟩
  refine ⟨_, rfl, _, rfl, D, _, _, _, rfl, rfl, .of eD, atI_lastD el, ?_⟩
  refine ⟨_, rfl, a0, _, _, _, rfl, rfl, h0, rfl, rfl, _, rfl, ite2 (fun c => iteT (bad (Same.refl _) ?_)) (fun c => ?_)⟩
  · rintro ⟨b, i, gs, os, e, _⟩
    have : r0 = (inW, [i]) := (List.cons.inj e).1
    rw [this] at c
    rw [decide_eq_true (show V.str (gateN (inW, [i])).1 = V.str (Str.ofString "in") by rw [in_eq]; rfl)] at c
    cases c
  have ein : r0.1 = inW := strWA.mp (by
    rw [← in_eq]
    exact ndec c)
  refine ⟨_, rfl, a0, _, _, _, rfl, rfl, h0, rfl, l0, _, rfl, .inr hl0, rfl, _, rfl, ite2 (fun c2 => bad (Same.refl _) ?_) (fun c2 => ?_)⟩
  · rintro ⟨b, i, gs, os, e, _⟩
    have : r0 = (inW, [i]) := (List.cons.inj e).1
    rw [this, decide_eq_true (show V.int ((((gateN (inW, [i])).2.map V.int).length : Nat) : Int) = V.int 1 from rfl)] at c2
    cases c2
  have e1n : r0.2.length = 1 := by
    have : V.int ((((gateN r0).2.map V.int).length : Nat) : Int) = V.int 1 := Decidable.byContradiction fun z => c2 (by rw [decide_eq_false z]; rfl)
    have := V.int.inj this
    rw [List.length_map] at this
    show (gateN r0).2.length = 1
    omega
  obtain ⟨i0, ei0⟩ : ∃ i0, r0 = (inW, [i0]) := by
    obtain ⟨x, y⟩ := r0
    cases y with
    | nil => cases e1n
    | cons i0 y =>
      cases y with
      | nil => cases ein; exact ⟨i0, rfl⟩
      | cons _ _ => cases e1n
  subst ei0
  refine ⟨_, rfl, al, _, _, _, rfl, rfl, hal, rfl, rfl, _, rfl, ite2 (fun c3 => bad (Same.refl _) ?_) (fun c3 => ?_)⟩
  · rintro ⟨b, i, gs, os, e, _⟩
    rw [e, ← List.cons_append, List.getLast?_concat] at elr
    cases elr
    rw [decide_eq_true (show V.str (gateN (outW, os)).1 = V.str (Str.ofString "out") by rw [out_eq]; rfl)] at c3
    cases c3
  have eout : rl.1 = outW := strWA.mp (by
    rw [← out_eq]
    exact ndec c3)
  obtain ⟨gs, os, ert⟩ : ∃ gs os, rt = gs ++ [(outW, os)] := by
    cases rt with
    | nil =>
      have : rl = (inW, [i0]) := (Option.some.inj elr).symm
      rw [this] at eout
      exact absurd eout (by decide : ¬ inW = outW)
    | cons r1 rt =>
      rw [List.getLast?_cons_cons] at elr
      refine ⟨(r1 :: rt).dropLast, rl.2, ?_⟩
      have := List.dropLast_concat_getLast (List.cons_ne_nil r1 rt)
      rw [List.getLast?_eq_some_getLast (List.cons_ne_nil _ _)] at elr
      rw [Option.some.inj elr] at this
      rw [← eout]
      exact this.symm
  subst ert
  have erl : rl = (outW, os) := by
    rw [← List.cons_append, List.getLast?_concat] at elr
    exact (Option.some.inj elr).symm
  subst erl
  obtain ⟨vg, rfl, rgs⟩ : ∃ vg, ut = vg ++ [.ref al] ∧ Reps K H4 vg ((gs.map gateN).map gateD) := by
    cases ru with
    | cons _ rt2 =>
      rw [List.map_append] at rt2
      obtain ⟨vg, ys, rfl, h1, h2⟩ := reps_splitA rt2
      cases h2 with
      | cons hv hn =>
        cases hn
        rw [← List.cons_append, List.getLast?_concat] at el
        refine ⟨vg, by rw [Option.some.inj el], ?_⟩
        rw [List.map_map]
        exact h1
  have lvg : vg.length = gs.length := by rw [rgs.length, List.length_map, List.length_map]
  have lgs : gs.length ≤ 600 := by
    rw [List.length_cons, List.length_append, List.length_singleton] at lr
    omega
  refine ⟨_, rfl, _, rfl, _, rfl, _, rfl, D, _, rfl, .of eD, fun Gd hG => ?_⟩
  rw [show (-(1 : Int)) = -1 from rfl, cut_innerA]
  have kG := same_upd hG (.lst vg)
  have eG : (upd H4 Gd (.lst vg)) Gd = some (.lst vg) := upd_same
  have rg5 := rgs.mono kG
  have h05 := kG.seqT h0
  have hl05 := kG.seqT hl0
  have hal5 := kG.seqT hal
  have hll5 := kG.seqT hll
  generalize upd H4 Gd (.lst vg) = H5 at kG eG rg5 h05 hl05 hal5 hll5
  refine ⟨_, rfl, Gd, rfl, ⟨_, .of eG⟩, fun D2 hD2 => comp_list (K := K) (a := Gd) (xs := vg) (fun j H6 => Same H5 H6 ∧ H6 D2 = some (.lst (((gs.take j).map fun g => PyProof.Rows.KTD.inKeys (gateN g).1 tab_LEG_BOUNDS).map V.bl))) ⟨same_upd hD2 _, upd_same⟩ (fun j H6 _ z => .of (z.1 _ _ eG)) ?_ ?_⟩
  · rintro j y H6 hy ⟨s6, eD2⟩
    obtain ⟨dd, hdd, ry⟩ := rg5.get hy
    rw [List.getElem?_map, List.getElem?_map] at hdd
    cases hz : gs[j]? with
    | none => rw [hz] at hdd; cases hdd
    | some g =>
      rw [hz] at hdd
      cases hdd
      obtain ⟨b, la, rfl, hb, hla⟩ := gate_at ry
      have lj : j < gs.length := (List.getElem?_eq_some_iff.mp hz).1
      refine ⟨b, _, rfl, s6.seqT hb, rfl, _, _, rfl, _, _, rfl, rfl, ?_⟩
      refine ⟨_, rfl, (gateN g).1, rfl, ?_⟩
      refine ⟨_, eD2, big (by rw [List.length_map, List.length_map, List.length_take]; omega), s6.write hD2 _, ?_⟩
      rw [upd_same, List.take_add_one, hz, List.map_append, List.map_append]
      rfl
  rintro H6 ⟨s6, eD2⟩
  rw [lvg, List.take_length] at eD2
  refine ⟨D2, _, rfl, .of eD2, _, rfl, ?_⟩
  cases ek : (gs.map fun g => PyProof.Rows.KTD.inKeys (gateN g).1 tab_LEG_BOUNDS).all id with
  | false =>
    refine iteT (bad (kG.trans s6) ?_)
    rintro ⟨b, i, gs2, os2, e, hk, _⟩
    have e1 : os = os2 := by
      have := congrArg List.getLast? (List.cons.inj e).2
      rw [List.getLast?_concat, List.getLast?_concat] at this
      exact (Prod.mk.inj (Option.some.inj this)).2
    subst e1
    have e2 := List.append_cancel_right (List.cons.inj e).2
    subst e2
    rw [List.all_eq_true.mpr fun x hx => by
      obtain ⟨g, hg, rfl⟩ := List.mem_map.mp hx
      obtain ⟨_, _, _, e3, _⟩ := yes_keys (hk g hg)
      exact e3] at ek
    cases ek
  | true =>
    have hk : ∀ g ∈ gs, isKind (gateN g).1 := fun g hg => by
      refine Classical.byContradiction fun z => ?_
      have := List.all_eq_true.mp ek _ (List.mem_map_of_mem (f := fun g => PyProof.Rows.KTD.inKeys (gateN g).1 tab_LEG_BOUNDS) hg)
      rw [no_keys z] at this
      cases this
    have tb : ToldT z ⟨i0, gs.map gateN, os⟩ := ⟨_, ers, i0, gs, os, rfl, hk, rfl⟩
    refine iteF ?_
    obtain ⟨good, q2⟩ := q _ tb
    refine ⟨_, rfl, a0, _, _, _, rfl, rfl, s6.seqT h05, rfl, l0, _, _, _, rfl, rfl, s6.seqT hl05, rfl, _, rfl, _, rfl, al, _, _, _, rfl, rfl, s6.seqT hal5, rfl, ll, _, rfl, .inr (s6.seqT hll5), fun Lo hLo => ?_⟩
    have kLo := same_upd hLo (.lst (os.map V.int))
    refine ⟨⟨i0, gs.map gateN, os⟩, Gd, Lo, vg, os.map V.int, rfl, .of ((s6.trans kLo) _ _ eG), .of upd_same, rg5.mono (s6.trans kLo), Reps.ints _, ?_, ?_, ?_, fun _ r H8 s8 rr => ?_, fun nb => absurd good nb⟩
    · rw [List.length_map]; omega
    · have := rows_small tx ers (outW, os) (.tail _ (List.mem_append_right _ (.head _)))
      show os.length ≤ 1000
      have h : os.length ≤ 601 := this
      omega
    · intro g hg
      obtain ⟨r, hr1, rfl⟩ := List.mem_map.mp hg
      have h : r.2.length ≤ 601 := rows_small tx ers r (.tail _ (List.mem_append_left _ hr1))
      show r.2.length ≤ 1000
      omega
    · exact q2 r H8 ((((s04.trans kG).trans s6).trans kLo).trans s8) rr
theorem sc_law_text : FnScope ["works", "rows", "row", "wire", "kind", "legs", "leg"] ["works"] (defScope s_law_text) := ⟨rfl, rfl, rfl, by decide +kernel, rfl, by decide +kernel, by decide +kernel⟩
theorem ok_law_text (T : Txt K mg t) : FnOk P w K mg base CX0 1 t.f_law_text t.fd_law_text ["works"] (sp_shw K) := by
  refine T.d_law_text.F.okB sc_law_text (fun vs H Q E h => ?_) (fun cdv A outer s H vs Q E hr h => ?_)
  · obtain ⟨x, w, rfl, _⟩ := h
    rfl
  obtain ⟨x, w, rfl, hx, wf, q⟩ := h
  have hu64 := hr.units
  obtain ⟨a, ga, oa, gs, os, rfl, ha, hg, ho, rg, ro⟩ := gates_at hx
  have lg : gs.length = w.gates.length := by rw [rg.length, List.length_map]
  have few := wf.few
  have i1 := wf.i1
  have i6 := wf.i6
  have eos := reps_ints ro
  subst eos
  have sl : sizeLine = 16777216 := by decide
  have b1 : (Str.ofString " ").length = 1 := by rw [blank]; rfl
  have iok := in_ok (i := w.ins) ⟨i1, i6⟩
  have ook := out_ok wf
  have n0 := iok.num w.ins (.head _)
  have nl := numS_len n0
  have ein : Str.ofString "in " ++ numS w.ins = txtW ⟨"in", [w.ins]⟩ := by
    rw [← join_txt iok]
    show _ = Str.ofString "in" ++ Str.ofString " " ++ numS w.ins
    rw [show Str.ofString "in" ++ Str.ofString " " = Str.ofString "in " by decide +kernel]
  refine ⟨_, (bpss_cons (bps_set (k := 1) sc_law_text.nd rfl (Or.inl rfl) (bpe_lst (bpa_cons (bpe_op op_add_str bpe_str (bpe_callTy call_str_int rfl T.z_str PyProof.Rows.boot_str (bpa_cons (bpe_ix ix_tup (bpv 0) bpe_int (fun _ _ => rfl)) (bpa_nil)))) (bpa_nil))))
    (bpss_cons (bps_for PassesOwn.never rfl (bpi_list (bpe_ix ix_tup (bpv 0) bpe_int (fun _ _ => rfl))) (bpg_tup rfl (bpgs_cons (bpg_name (k := 4) sc_law_text.nd rfl (Or.inl rfl)) (bpgs_cons (bpg_name (k := 5) sc_law_text.nd rfl (Or.inl rfl)) bpgs_nil))) (bpss_cons (bps_set (k := 2) sc_law_text.nd rfl (Or.inl rfl) (bpv 4))
    (bpss_cons (bps_for PassesOwn.never rfl (bpi_tup (bpv 5)) (bpg_name (k := 6) sc_law_text.nd rfl (Or.inl rfl)) (bpss_one (bps_set (k := 2) sc_law_text.nd rfl (Or.inl rfl) (bpe_op op_add_str (bpe_op op_add_str (bpv 2) bpe_str) (bpe_callTy call_str_int rfl T.z_str PyProof.Rows.boot_str (bpa_cons (bpv 6) (bpa_nil)))))))
    (bpss_one (bps_expr (bpe_bm PySem.F.plainAttrs_list PySem.F.slot_list_append PySem.F.type_list_append mt_append (bpv 1) (bpa_cons (bpv 2) (bpa_nil))))))))
    (bpss_cons (bps_set (k := 2) sc_law_text.nd rfl (Or.inl rfl) bpe_str)
    (bpss_cons (bps_for PassesOwn.never rfl (bpi_list (bpe_ix ix_tup (bpv 0) bpe_int (fun _ _ => rfl))) (bpg_name (k := 3) sc_law_text.nd rfl (Or.inl rfl)) (bpss_one (bps_set (k := 2) sc_law_text.nd rfl (Or.inl rfl) (bpe_op op_add_str (bpe_op op_add_str (bpv 2) bpe_str) (bpe_callTy call_str_int rfl T.z_str PyProof.Rows.boot_str (bpa_cons (bpv 3) (bpa_nil)))))))
    (bpss_one (bps_ret (bpe_bm PySem.F.plainAttrs_str PySem.F.slot_str_join PySem.F.type_str_join mt_joinA bpe_str (bpa_cons (bpe_op op_cat (bpv 1) (bpe_lst (bpa_cons (bpv 2) (bpa_nil)))) (bpa_nil))))))))), ?_⟩
  refine ⟨_, rfl, a, _, _, _, rfl, rfl, ha, rfl, w.ins, rfl, log_ok n0, _, _, rfl, rfl, ?_, (by show 1 ≤ sizeLine; decide), fun R hR => ?_⟩
  · have : (Str.ofString "in ").length = 3 := by decide +kernel
    show _ + (numS w.ins).length ≤ _
    omega
  have kR : Same H (upd H R (.lst [.str (txtW ⟨"in", [w.ins]⟩)])) := same_upd hR _
  change tSeq _ _ _ _ (upd H R (.lst [.str (Str.ofString "in " ++ numS w.ins)]))
  rw [ein]
  have eR0 : (upd H R (.lst [.str (txtW ⟨"in", [w.ins]⟩)])) R = some (.lst [.str (txtW ⟨"in", [w.ins]⟩)]) := upd_same
  generalize upd H R (.lst [.str (txtW ⟨"in", [w.ins]⟩)]) = H1 at kR eR0
  refine ⟨_, rfl, a, _, _, _, rfl, rfl, kR.seqT ha, rfl, ga, rfl, ⟨_, kR.seq hg⟩, for_list (K := K) (a := ga) (xs := gs)
    (fun j σ H3 => ∃ (o2 o3 o4 o5 o6 : Option V), σ = [some (.ref a), some (.ref R), o2, o3, o4, o5, o6] ∧ Same H H3 ∧ H3 R = some (.lst (.str (txtW ⟨"in", [w.ins]⟩) :: ((gatesR (w.gates.take j)).map txtW).map V.str)))
    ⟨_, _, _, _, _, rfl, kR, eR0⟩ (fun j σ H3 _ z => by obtain ⟨_, _, _, _, _, _, s3, _⟩ := z; exact s3.seq hg) ?_ ?_⟩
  · rintro j y σ H3 hy ⟨o2, o3, o4, o5, o6, rfl, s3, eR⟩
    obtain ⟨dd, hdd, ry⟩ := rg.get hy
    rw [List.getElem?_map] at hdd
    cases hz : w.gates[j]? with
    | none => rw [hz] at hdd; cases hdd
    | some g =>
      rw [hz] at hdd
      cases hdd
      obtain ⟨b, la, rfl, hb, hla⟩ := gate_at ry
      have gok := gate_ok wf hz
      have lj : j < w.gates.length := (List.getElem?_eq_some_iff.mp hz).1
      refine ⟨b, _, rfl, s3.seqT hb, rfl, _, _, rfl, _, _, rfl, rfl, ?_⟩
      refine ⟨_, rfl, _, rfl, la, rfl, ⟨_, s3.seqT hla⟩, for_tup (K := K) (a := la) (xs := g.2.map V.int)
        (fun i σ H4 => ∃ (o6 : Option V), σ = [some (.ref a), some (.ref R), some (.str (someT ⟨g.1, g.2⟩ i)), o3, some (.str g.1), some (.ref la), o6] ∧ H4 = H3)
        ⟨_, rfl, rfl⟩ (fun i σ H4 _ z => by obtain ⟨_, _, rfl⟩ := z; exact s3.seqT hla) ?_ ?_⟩
      · rintro i v σ H4 hv ⟨o6, rfl, rfl⟩
        rw [List.getElem?_map] at hv
        cases hn : g.2[i]? with
        | none => rw [hn] at hv; cases hv
        | some n =>
          rw [hn] at hv
          cases hv
          have nn := gok.num n (List.mem_of_getElem? hn)
          have sl2 := someT_len gok (i := i)
          have nl2 := numS_len nn
          refine ⟨_, rfl, _, _, rfl, rfl, by omega, _, rfl, n, rfl, log_ok nn, _, _, rfl, rfl, ?_, some (.int n), ?_, rfl⟩
          · rw [app_len]
            show _ + (numS n).length ≤ _
            omega
          · rw [someT_next (f := ⟨g.1, g.2⟩) hn]
            rfl
      · rintro σ H4 ⟨o6, rfl, rfl⟩
        refine ⟨_, rfl, .inl ⟨rfl, _, .of eR⟩, _, rfl, R, _, _, rfl, rfl, eR, big (by unfold gatesR; rw [List.length_cons, List.length_map, List.length_map, List.length_map, List.length_take]; omega), _, _, _, _, _, rfl, s3.write hR _, ?_⟩
        have ef : someT ⟨g.1, g.2⟩ (g.2.map V.int).length = txtW ⟨g.1, g.2⟩ := by
          unfold someT
          rw [List.length_map, List.take_length]
          exact join_txt gok
        unfold gatesR
        rw [upd_same, ef, List.take_add_one, hz, List.map_append, List.map_append, List.map_append]
        rfl
  rintro σ H3 ⟨o2, o3, o4, o5, o6, rfl, s3, eR⟩
  rw [lg, List.take_length] at eR
  refine ⟨_, rfl, a, _, _, _, rfl, rfl, s3.seqT ha, rfl, oa, rfl, ⟨_, s3.seq ho⟩, for_list (K := K) (a := oa) (xs := w.outs.map V.int)
    (fun i σ H4 => ∃ (o3 : Option V), σ = [some (.ref a), some (.ref R), some (.str (someT ⟨"out", w.outs⟩ i)), o3, o4, o5, o6] ∧ H4 = H3)
    ⟨_, rfl, rfl⟩ (fun i σ H4 _ z => by obtain ⟨_, _, rfl⟩ := z; exact s3.seq ho) ?_ ?_⟩
  · rintro i v σ H4 hv ⟨o3, rfl, rfl⟩
    rw [List.getElem?_map] at hv
    cases hn : w.outs[i]? with
    | none => rw [hn] at hv; cases hv
    | some n =>
      rw [hn] at hv
      cases hv
      have nn := ook.num n (List.mem_of_getElem? hn)
      have sl2 := someT_len ook (i := i)
      have nl2 := numS_len nn
      refine ⟨_, rfl, _, _, rfl, rfl, by omega, _, rfl, n, rfl, log_ok nn, _, _, rfl, rfl, ?_, some (.int n), ?_, rfl⟩
      · rw [app_len]
        show _ + (numS n).length ≤ _
        omega
      · rw [someT_next (f := ⟨"out", w.outs⟩) hn]
        rfl
  rintro σ H4 ⟨o3, rfl, rfl⟩
  have ef : someT ⟨"out", w.outs⟩ (w.outs.map V.int).length = txtW ⟨"out", w.outs⟩ := by
    unfold someT
    rw [List.length_map, List.take_length]
    exact join_txt ook
  rw [ef]
  refine ⟨rfl, _, rfl, _, rfl, (by show 1 ≤ sizeLine; decide), fun L1 h1 => ?_⟩
  have k1 := same_upd h1 (.lst [.str (txtW ⟨"out", w.outs⟩)])
  have lR : ((gatesR w.gates).map txtW).length ≤ 20 := by unfold gatesR; rw [List.length_map, List.length_map]; exact few
  refine ⟨R, L1, _, _, rfl, rfl, k1 _ _ eR, upd_same, bigE (by rw [List.length_cons, List.length_map]; show _ + 1 ≤ _; omega), fun L2 h2 => ?_⟩
  have ez : (V.str (txtW ⟨"in", [w.ins]⟩) :: ((gatesR w.gates).map txtW).map V.str) ++ [.str (txtW ⟨"out", w.outs⟩)] = ((rowsW w).map txtW).map V.str := by
    unfold rowsW
    rw [List.map_cons, List.map_cons, List.map_append, List.map_append]
    rfl
  rw [ez]
  have k2 := same_upd h2 (.lst (((rowsW w).map txtW).map V.str))
  refine ⟨_, L2, (rowsW w).map txtW, rfl, rfl, upd_same, text_sum wf, ?_⟩
  rw [join_text]
  exact q _ ((s3.trans k1).trans k2)
theorem sc_gate_worth : FnScope ["kind", "worths", "ones", "told", "worth"] ["kind", "worths", "ones"] (defScope s_gate_worth) := ⟨rfl, rfl, rfl, by decide +kernel, rfl, by decide +kernel, by decide +kernel⟩
theorem okG_gate_worth (T : Txt K mg t) : FnOk P w K mg base CX0 1 t.f_gate_worth t.fd_gate_worth ["kind", "worths", "ones"] (sp_gwI K) := by
  refine T.d_gate_worth.F.okB sc_gate_worth (fun vs H Q E h => ?_) (fun cdv A outer s H vs Q E hr h => ?_)
  · obtain ⟨x, p, ns, o, rfl, _⟩ := h
    rfl
  obtain ⟨x, p, ns, o, rfl, hS, lk, q⟩ := h
  refine ⟨_, (bpss_cons (bps_if (bpt_cmpR op_eq (bpv 0) bpe_str (nomark _)) (bpss_one (bps_ret (bpe_op op_xor (bpv 2) (bpe_ix ix_list (bpv 1) bpe_int (fun _ _ => rfl))))) bpss_nil)
    (bpss_cons (bps_if (bpt_cmpR op_eq (bpv 0) bpe_str (nomark _)) (bpss_one (bps_ret (bpe_op op_or (bpe_op op_and (bpe_ix ix_list (bpv 1) bpe_int (fun _ _ => rfl)) (bpe_ix ix_list (bpv 1) bpe_int (fun _ _ => rfl))) (bpe_op op_and (bpe_op op_xor (bpv 2) (bpe_ix ix_list (bpv 1) bpe_int (fun _ _ => rfl))) (bpe_ix ix_list (bpv 1) bpe_int (fun _ _ => rfl)))))) bpss_nil)
    (bpss_cons (bps_set (k := 3) sc_gate_worth.nd rfl (Or.inl rfl) (bpe_ifExp (bpt_cmpR op_in_seq (bpv 0) (bpe_tup (bpa_cons bpe_str ( bpa_cons bpe_str (bpa_nil)))) rfl) (bpv 2) bpe_int))
    (bpss_cons (bps_for PassesOwn.never rfl (bpi_list (bpv 1)) (bpg_name (k := 4) sc_gate_worth.nd rfl (Or.inl rfl)) (bpss_one (bps_if (bpt_cmpR op_eq (bpv 0) bpe_str (nomark _)) (bpss_one (bps_set (k := 3) sc_gate_worth.nd rfl (Or.inl rfl) (bpe_op op_and (bpv 3) (bpv 4)))) (bpss_one (bps_if (bpt_cmpR op_eq (bpv 0) bpe_str (nomark _)) (bpss_one (bps_set (k := 3) sc_gate_worth.nd rfl (Or.inl rfl) (bpe_op op_or (bpv 3) (bpv 4)))) (bpss_one (bps_set (k := 3) sc_gate_worth.nd rfl (Or.inl rfl) (bpe_op op_xor (bpv 3) (bpv 4)))))))))
    (bpss_one (bps_ret (bpv 3))))))), ?_⟩
  by_cases hn : x = "not"
  · subst hn
    have l1 := legs_not lk
    refine ⟨_, rfl, rfl, _, rfl, ifY rfl ⟨_, rfl, _, rfl, p, _, 0, _, rfl, rfl, hS, at_ints (Int.le_refl 0) (by omega), _, _, rfl, rfl, ?_⟩⟩
    rw [gi_not] at q
    exact q H (.refl H)
  refine ⟨_, rfl, rfl, _, rfl, ifN hn ?_⟩
  by_cases hc : x = "choose"
  · subst hc
    have l1 := legs_choose lk
    refine ⟨_, rfl, rfl, _, rfl, ifY rfl ?_⟩
    rw [gi_choose] at q
    exact ⟨_, rfl, p, _, 0, _, rfl, rfl, hS, at_ints (Int.le_refl 0) (by omega), _, rfl, p, _, 1, _, rfl, rfl, hS, at_ints (by decide) (by omega), _, _, rfl, rfl, _, rfl, _, rfl, p, _, 0, _, rfl, rfl, hS, at_ints (Int.le_refl 0) (by omega), _, _, rfl, rfl,
      _, rfl, p, _, 2, _, rfl, rfl, hS, at_ints (by decide) (by omega), _, _, rfl, rfl, _, _, rfl, rfl, q H (.refl H)⟩
  refine ⟨_, rfl, rfl, _, rfl, ifN hc ?_⟩
  rw [gi_fold hn hc] at q
  refine ⟨_, rfl, (by show 2 ≤ sizeLine; decide), fun T1 h1 => ⟨T1, _, rfl, .inr (.of upd_same), rfl, rfl, ?_⟩⟩
  have s1 := same_upd h1 (.tup [.str "and", .str "one"])
  refine ⟨_, rfl, ?_⟩
  have hin : (if false = true then !inV (V.str x) [.str "and", .str "one"] else inV (V.str x) [.str "and", .str "one"]) = decide (x = "and" ∨ x = "one") := in_two x "and" "one"
  rw [hin]
  generalize hf : (fun a b : Int => if x = "and" then Builtin.bitAnd a b else if x = "or" then Builtin.bitOr a b else Builtin.bitXor a b) = f at q
  have hf1 : x = "and" → ∀ a b, f a b = Builtin.bitAnd a b := fun e a b => by rw [← hf]; exact if_pos e
  have hf2 : x ≠ "and" → x = "or" → ∀ a b, f a b = Builtin.bitOr a b := fun e e2 a b => by rw [← hf]; show (if x = "and" then _ else _) = _; rw [if_neg e, if_pos e2]
  have hf3 : x ≠ "and" → x ≠ "or" → ∀ a b, f a b = Builtin.bitXor a b := fun e e2 a b => by rw [← hf]; show (if x = "and" then _ else _) = _; rw [if_neg e, if_neg e2]
  refine ite2 (fun c => ?_) (fun c => ?_)
  · rw [if_pos (of_decide_eq_true c)] at q
    refine ⟨_, rfl, ?_⟩
    refine ⟨_, rfl, p, rfl, ⟨_, s1.seq hS⟩, for_list (K := K) (a := p) (xs := ns.map V.int)
      (fun i σ H3 => ∃ o4 : Option V, σ = [some (.str x), some (.ref p), some (.int o), some (.int ((ns.take i).foldl f o)), o4] ∧ Same H H3) ⟨_, rfl, s1⟩ (fun i σ H3 _ ⟨_, _, s3⟩ => s3.seq hS) ?_ ?_⟩
    · rintro i y σ H3 hy ⟨o4, rfl, s3⟩
      rw [List.getElem?_map] at hy
      cases hz : ns[i]? with
      | none => rw [hz] at hy; cases hy
      | some n =>
        rw [hz] at hy
        cases hy
        have ef : (ns.take (i + 1)).foldl f o = f ((ns.take i).foldl f o) n := by rw [List.take_add_one, hz]; show (ns.take i ++ [n]).foldl f o = _; rw [List.foldl_append]; rfl
        rw [ef]
        refine ⟨_, rfl, rfl, _, rfl, ?_⟩
        by_cases e1 : x = "and"
        · rw [hf1 e1]
          exact ifY e1 ⟨_, rfl, _, rfl, _, _, rfl, rfl, _, rfl, s3⟩
        · refine ifN e1 ⟨_, rfl, rfl, _, rfl, ?_⟩
          by_cases e2 : x = "or"
          · rw [hf2 e1 e2]
            exact ifY e2 ⟨_, rfl, _, rfl, _, _, rfl, rfl, _, rfl, s3⟩
          · rw [hf3 e1 e2]
            exact ifN e2 ⟨_, rfl, _, rfl, _, _, rfl, rfl, _, rfl, s3⟩
    · rintro σ H3 ⟨o4, rfl, s3⟩
      have et : ns.take (ns.map V.int).length = ns := by rw [List.length_map, List.take_length]
      rw [et]
      exact ⟨_, rfl, q H3 s3⟩
  · rw [if_neg (fun z => c (decide_eq_true z))] at q
    refine ⟨_, rfl, p, rfl, ⟨_, s1.seq hS⟩, for_list (K := K) (a := p) (xs := ns.map V.int)
      (fun i σ H3 => ∃ o4 : Option V, σ = [some (.str x), some (.ref p), some (.int o), some (.int ((ns.take i).foldl f 0)), o4] ∧ Same H H3) ⟨_, rfl, s1⟩ (fun i σ H3 _ ⟨_, _, s3⟩ => s3.seq hS) ?_ ?_⟩
    · rintro i y σ H3 hy ⟨o4, rfl, s3⟩
      rw [List.getElem?_map] at hy
      cases hz : ns[i]? with
      | none => rw [hz] at hy; cases hy
      | some n =>
        rw [hz] at hy
        cases hy
        have ef : (ns.take (i + 1)).foldl f 0 = f ((ns.take i).foldl f 0) n := by rw [List.take_add_one, hz]; show (ns.take i ++ [n]).foldl f 0 = _; rw [List.foldl_append]; rfl
        rw [ef]
        refine ⟨_, rfl, rfl, _, rfl, ?_⟩
        by_cases e1 : x = "and"
        · rw [hf1 e1]
          exact ifY e1 ⟨_, rfl, _, rfl, _, _, rfl, rfl, _, rfl, s3⟩
        · refine ifN e1 ⟨_, rfl, rfl, _, rfl, ?_⟩
          by_cases e2 : x = "or"
          · rw [hf2 e1 e2]
            exact ifY e2 ⟨_, rfl, _, rfl, _, _, rfl, rfl, _, rfl, s3⟩
          · rw [hf3 e1 e2]
            exact ifN e2 ⟨_, rfl, _, rfl, _, _, rfl, rfl, _, rfl, s3⟩
    · rintro σ H3 ⟨o4, rfl, s3⟩
      have et : ns.take (ns.map V.int).length = ns := by rw [List.length_map, List.take_length]
      rw [et]
      exact ⟨_, rfl, q H3 s3⟩
theorem ok_gate_worth (T : Txt K mg t) : FnOk P w K mg base CX0 1 t.f_gate_worth t.fd_gate_worth ["kind", "worths", "ones"] (sp_gw K) := (okG_gate_worth T).imp fun vs H Q E ⟨x, p, ns, e, hS, b, lk, q⟩ => ⟨x, p, ns, 1, e, hS, lk, by rw [gateI_one b lk]; exact q⟩
theorem sc_check_row : FnScope ["works", "row"] ["works", "row"] (defScope s_check_row) := ⟨rfl, rfl, rfl, by decide +kernel, rfl, by decide +kernel, by decide +kernel⟩
theorem ok_check_row (T : Txt K mg t) : FnOk P w K mg base CX0 1 t.f_check_row t.fd_check_row ["works", "row"] (sp_cr K) := by
  refine T.d_check_row.F.okB sc_check_row (fun vs H Q E h => ?_) (fun cdv A outer s H vs Q E hr h => ?_)
  · obtain ⟨a, ga, oa, p, i, row, rfl, _⟩ := h
    rfl
  obtain ⟨a, ga, oa, p, i, row, rfl, ha, hS, hl, b, few, q⟩ := h
  refine ⟨_, (bpss_cons (bps_if (bpt_cmpR op_ne (bpe_callB call_len_seq rfl T.z_len PySem.boot_len (bpa_cons (bpv 1) (bpa_nil))) (bpe_ix ix_tup (bpv 0) bpe_int (fun _ _ => rfl)) (nomark _)) (bpss_one bps_never) bpss_nil)
    (bpss_one (bps_if (bpt_not (bpt_val (bpe_callB (call_allL rfl) rfl T.z_all PyProof.Rows.boot_all (bpa_cons (bpe_comp rfl (N := ["worth"]) (n := 1) (cap := []) (blk_of rfl rfl) (bpi_list (bpv 1)) (keep_name (by decide)) (fun _ _ _ _ => (bpg_name (k := 0) (show (["worth"] : List Str).Nodup by decide +kernel) rfl (Or.inl rfl))) (fun _ _ _ _ => bpts_nil) (fun _ _ _ _ => (bpe_cmpR (op_in_seqK (K := K)) (bpv 0) (bpe_tup (bpa_cons bpe_int ( bpa_cons bpe_int (bpa_nil)))) rfl))) (bpa_nil))))) (bpss_one bps_never) bpss_nil))), ?_⟩
  have el : (((row.map V.int).length : Nat) : Int) = i := by rw [List.length_map]; exact hl
  refine ⟨_, rfl, p, _, rfl, .inl hS, _, rfl, a, _, _, _, rfl, rfl, ha, rfl, rfl, _, rfl, iteNS (congrArg V.int el) ?_⟩
  refine ⟨_, rfl, p, rfl, ⟨_, hS⟩, fun D hD => comp_list (K := K) (a := p) (xs := row.map V.int) (fun j H2 => Same H H2 ∧ H2 D = some (.lst ((List.replicate j true).map V.bl))) ⟨same_upd hD _, upd_same⟩
    (fun j H2 _ z => z.1.seq hS) ?_ ?_⟩
  · rintro j x H2 hx ⟨s2, eD⟩
    obtain ⟨n, hn, rfl⟩ : ∃ n, n ∈ row ∧ x = .int n := by
      obtain ⟨n, h1, h2⟩ := List.mem_map.mp (List.mem_of_getElem? hx)
      exact ⟨n, h1, h2.symm⟩
    have hj : j < (row.map V.int).length := (List.getElem?_eq_some_iff.mp hx).1
    rw [List.length_map] at hj
    refine ⟨_, rfl, (by show 2 ≤ sizeLine; decide), fun T1 h1 => ⟨T1, _, rfl, .inr (.of upd_same), rfl, rfl, ?_⟩⟩
    have dT : D ≠ T1 := ne_of_none eD h1
    refine ⟨_, by rw [upd_ne dT]; exact eD, big (by simp; omega), (s2.upd h1 _).write hD _, ?_⟩
    have e1 : (if false = true then !inV (V.int n) [.int 0, .int 1] else inV (V.int n) [.int 0, .int 1]) = true := by
      rcases b n hn with e | e <;> (rw [e]; decide)
    rw [upd_same, e1, List.replicate_succ', List.map_append]
    rfl
  · rintro H2 ⟨s2, eD⟩
    refine ⟨D, List.replicate (row.map V.int).length true, rfl, .of eD, _, rfl, ?_⟩
    have e2 : (List.replicate (row.map V.int).length true).all id = true := by
      refine List.all_eq_true.mpr fun z hz => ?_
      rw [(List.mem_replicate.mp hz).2]
      rfl
    rw [e2]
    exact iteF (q H2 s2)
theorem sc_wire_worths : FnScope ["works", "row", "worths", "kind", "legs"] ["works", "row"] (defScope s_wire_worths) := ⟨rfl, rfl, rfl, by decide +kernel, rfl, by decide +kernel, by decide +kernel⟩
theorem ok_wire_worths (T : Txt K mg t) : FnOk P w K mg base CX0 2 t.f_wire_worths t.fd_wire_worths ["works", "row"] (sp_ww K) := by
  refine T.d_wire_worths.F.okB sc_wire_worths (fun vs H Q E h => ?_) (fun cdv A outer s H vs Q E hr h => ?_)
  · obtain ⟨x, p, w, row, rfl, _⟩ := h
    rfl
  obtain ⟨x, p, w, row, rfl, hx, wf, hS, hl, b, q⟩ := h
  obtain ⟨a, ga, oa, gs, os, rfl, ha, hg, ho, rg, ro⟩ := gates_at hx
  have lg : gs.length = w.gates.length := by rw [rg.length, List.length_map]
  have i1 := wf.i1
  have i6 := wf.i6
  have few := wf.few
  refine ⟨_, (bpss_cons (bps_expr (bpe_call (ok_check_row T) (hr.mono (by decide)) rfl T.d_check_row.m T.d_check_row.F.kp T.d_check_row.b .nil pass0 (bpa_cons (bpv 0) ( bpa_cons (bpv 1) (bpa_nil)))))
    (bpss_cons (bps_set (k := 2) sc_wire_worths.nd rfl (Or.inr rfl) (bpe_callTy call_list_of rfl T.z_list PyProof.Rows.boot_list (bpa_cons (bpv 1) (bpa_nil))))
    (bpss_cons (bps_for PassesOwn.never rfl (bpi_list (bpe_ix ix_tup (bpv 0) bpe_int (fun _ _ => rfl))) (bpg_tup rfl (bpgs_cons (bpg_name (k := 3) sc_wire_worths.nd rfl (Or.inl rfl)) (bpgs_cons (bpg_name (k := 4) sc_wire_worths.nd rfl (Or.inl rfl)) bpgs_nil))) (bpss_one (bps_expr (bpe_bm PySem.F.plainAttrs_list PySem.F.slot_list_append PySem.F.type_list_append mt_append (bpv 2) (bpa_cons (bpe_call (ok_gate_worth T) (hr.mono (by decide)) rfl T.d_gate_worth.m T.d_gate_worth.F.kp T.d_gate_worth.b1 dflt1 pass0 (bpa_cons (bpv 3) ( bpa_cons (bpe_comp rfl (N := ["leg", "worths"]) (n := 1) (cap := [2]) (blk_of rfl rfl) (bpi_tup (bpv 4)) (keep_name (by decide)) (fun _ _ _ _ => (bpg_name (k := 0) (show (["leg", "worths"] : List Str).Nodup by decide +kernel) rfl (Or.inl rfl))) (fun _ _ _ _ => bpts_nil) (fun _ _ _ _ => (bpe_ix (ix_listK (K := K)) (bpv 1) (bpv 0) (fun _ _ => rfl)))) (bpa_nil)))) (bpa_nil))))))
    (bpss_one (bps_ret (bpv 2)))))), ?_⟩
  refine ⟨_, rfl, _, rfl, a, ga, oa, p, w.ins, row, rfl, ha, hS, hl, b, by omega, fun H1 s1 => ?_⟩
  refine ⟨_, rfl, p, _, rfl, .inl (s1.seq hS), fun r hr1 => ?_⟩
  have hr0 : H r = none := s1.free hr1
  have s2 : Same H (upd H1 r (.lst (row.map V.int))) := s1.upd hr1 _
  refine ⟨_, rfl, a, _, _, _, rfl, rfl, s2.seqT ha, rfl, ga, rfl, ⟨_, s2.seq hg⟩, for_list (K := K) (a := ga) (xs := gs)
    (fun i σ H3 => ∃ (o3 o4 : Option V), σ = [some (.ref a), some (.ref p), some (.ref r), o3, o4] ∧ Same H H3 ∧ H3 r = some (.lst ((wiresV w.gates row i).map V.int)))
    ⟨_, _, rfl, s2, upd_same⟩ (fun i σ H3 _ ⟨_, _, _, s3, _⟩ => s3.seq hg) ?_ ?_⟩
  · rintro i x σ H3 hx ⟨o3, o4, rfl, s3, e3⟩
    have hi : i < gs.length := (List.getElem?_eq_some_iff.mp hx).1
    obtain ⟨g, hgk⟩ : ∃ g, w.gates[i]? = some g := ⟨_, List.getElem?_eq_getElem (by omega)⟩
    obtain ⟨d, hd, rv⟩ := rg.get hx
    rw [List.getElem?_map, hgk] at hd
    cases hd
    obtain ⟨a1, la, rfl, hA, hL⟩ := gate_at rv
    obtain ⟨lk, lb⟩ := wf.legs i g hgk
    have bw := wiresV_bits wf hl b i (by omega)
    have lw := wiresV_len w.gates row i
    refine ⟨a1, _, rfl, s3.seqT hA, rfl, _, _, rfl, _, _, rfl, rfl, ?_⟩
    refine ⟨_, rfl, .inl ⟨rfl, _, .of e3⟩, _, rfl, ?_⟩
    refine ⟨_, rfl, la, rfl, ⟨_, s3.seqT hL⟩, fun D hD => comp_tup (K := K) (a := la) (xs := g.2.map V.int)
      (fun j H4 => Same H3 H4 ∧ H4 D = some (.lst (((g.2.take j).map fun l => (wiresV w.gates row i).getD l.toNat 0).map V.int))) ⟨same_upd hD _, upd_same⟩ (fun j H4 _ z => (s3.trans z.1).seqT hL) ?_ ?_⟩
    · rintro j y H4 hy ⟨s4, eD⟩
      rw [List.getElem?_map] at hy
      cases hz : g.2[j]? with
      | none => rw [hz] at hy; cases hy
      | some l =>
        rw [hz] at hy
        cases hy
        have lj : j < g.2.length := (List.getElem?_eq_some_iff.mp hz).1
        have bl := lb l (List.mem_of_getElem? hz)
        have l4 := lk.le
        refine ⟨_, rfl, _, rfl, r, _, _, _, rfl, rfl, .of (s4 _ _ e3), at_ints bl.1 (by rw [lw]; omega), ?_⟩
        refine ⟨_, eD, big (by simp; omega), s4.write hD _, ?_⟩
        rw [upd_same, List.take_add_one, hz]
        simp
    · rintro H4 ⟨s4, eD⟩
      have et : g.2.take (g.2.map V.int).length = g.2 := by rw [List.length_map, List.take_length]
      rw [et] at eD
      refine ⟨g.1, D, g.2.map fun l => (wiresV w.gates row i).getD l.toNat 0, rfl, .of eD, fun z hz => ?_, by rw [List.length_map]; exact lk, fun H5 s5 => ?_⟩
      · obtain ⟨l, hl', rfl⟩ := List.mem_map.mp hz
        exact getD_bit bw (by rw [lw]; have := lb l hl'; omega)
      · refine ⟨r, _, _, rfl, rfl, s5 _ _ (s4 _ _ e3), big (by rw [List.length_map, lw]; omega), _, _, rfl, ((s3.trans s4).trans s5).write hr0 _, ?_⟩
        rw [upd_same, wiresV, hgk, List.map_append]
        rfl
  · rintro σ H3 ⟨o3, o4, rfl, s3, e3⟩
    rw [lg] at e3
    exact ⟨_, rfl, q r H3 s3 hr0 e3⟩
theorem sc_law_gate : FnScope ["kind", "some", "ones", "told"] ["kind", "some"] (defScope s_law_gate) := ⟨rfl, rfl, rfl, by decide +kernel, rfl, by decide +kernel, by decide +kernel⟩
theorem ok_law_gate (T : Txt K mg t) : FnOk P w K mg base CX0 1 t.f_law_gate t.fd_law_gate ["kind", "some"] (sp_lg K) := by
  refine T.d_law_gate.F.okB sc_law_gate (fun vs H Q E h => ?_) (fun cdv A outer s H vs Q E hr h => ?_)
  · obtain ⟨x, p, ns, rfl, _⟩ := h
    rfl
  obtain ⟨x, p, ns, rfl, hS, b, lk, q⟩ := h
  have hu1 := hu_of hr
  have l4 := lk.le
  refine ⟨_, (bpss_cons (bps_set (k := 2) sc_law_gate.nd rfl (Or.inl rfl) (bpe_callB call_len_seq rfl T.z_len PySem.boot_len (bpa_cons (bpe_comp rfl (N := ["worth"]) (n := 1) (cap := []) (blk_of rfl rfl) (bpi_list (bpv 1)) (keep_name (by decide)) (fun _ _ _ _ => (bpg_name (k := 0) (show (["worth"] : List Str).Nodup by decide +kernel) rfl (Or.inl rfl))) (fun _ _ _ _ => (bpts_one (bpt_cmpR op_eq (bpv 0) bpe_int (nomark _)))) (fun _ _ _ _ => (bpv 0))) (bpa_nil))))
    (bpss_cons (bps_if (bpt_cmpR op_eq (bpv 0) bpe_str (nomark _)) (bpss_one (bps_ret (bpe_ix ix_list (bpe_lst (bpa_cons (bpe_ix ix_list (bpv 1) bpe_int (fun _ _ => rfl)) ( bpa_cons (bpe_ix ix_list (bpv 1) bpe_int (fun _ _ => rfl)) (bpa_nil)))) (bpe_ix ix_list (bpv 1) bpe_int (fun _ _ => rfl)) (fun _ _ => rfl)))) bpss_nil)
    (bpss_cons (bps_set (k := 3) sc_law_gate.nd rfl (Or.inl rfl) (bpe_disp (bpps_cons bpe_str (bpe_callTy call_int1 rfl T.z_int PyProof.Rows.boot_int (bpa_cons (bpe_cmpR op_eq (bpv 2) (bpe_callB call_len_seq rfl T.z_len PySem.boot_len (bpa_cons (bpv 1) (bpa_nil))) (nomark _)) (bpa_nil))) (bpps_cons bpe_str (bpe_callTy call_int1 rfl T.z_int PyProof.Rows.boot_int (bpa_cons (bpe_cmpR op_gt (bpv 2) bpe_int (nomark _)) (bpa_nil))) (bpps_cons bpe_str (bpe_op op_mod (bpv 2) bpe_int) (bpps_cons bpe_str (bpe_op op_sub bpe_int (bpe_callB (call_min2 rfl) rfl T.z_min PyProof.Rows.boot_min (bpa_cons bpe_int ( bpa_cons (bpv 2) (bpa_nil))))) bpps_nil)))) rfl rfl (by simp) (by decide)))
    (bpss_one (bps_ret (bpe_dget2 hu1 (bpv 3) (bpv 0) (bpe_callTy call_int1 rfl T.z_int PyProof.Rows.boot_int (bpa_cons (bpe_cmpR op_eq (bpv 0) bpe_str (nomark _)) (bpa_nil))) ⟨rfl, rfl, rfl, rfl⟩)))))), ?_⟩
  refine ⟨_, rfl, p, rfl, ⟨_, hS⟩, fun D hD => comp_list (K := K) (a := p) (xs := ns.map V.int) (fun j H2 => Same H H2 ∧ H2 D = some (.lst (((ns.take j).filter (· == 1)).map V.int))) ⟨same_upd hD _, upd_same⟩ (fun j H2 _ z => z.1.seq hS) ?_ ?_⟩
  · rintro j y H2 hy ⟨s2, eD⟩
    rw [List.getElem?_map] at hy
    cases hz : ns[j]? with
    | none => rw [hz] at hy; cases hy
    | some n =>
      rw [hz] at hy
      cases hy
      have es := ones_snoc hz
      refine ⟨_, rfl, rfl, _, rfl, ite2 (fun c => ?_) (fun c => ?_)⟩
      · have c' : n = 1 := V.int.inj (of_decide_eq_true c)
        rw [if_pos c'] at es
        refine ⟨_, rfl, _, eD, big ?_, s2.write hD _, ?_⟩
        · have := List.length_filter_le (· == 1) (ns.take j)
          rw [List.length_take] at this
          rw [List.length_map]
          omega
        · rw [upd_same, es, List.map_append]
          rfl
      · have c' : ¬ n = 1 := fun z => c (decide_eq_true (congrArg V.int z))
        rw [if_neg c', List.append_nil] at es
        exact ⟨s2, by rw [es]; exact eD⟩
  rintro H2 ⟨s2, eD⟩
  have et : ns.take (ns.map V.int).length = ns := by rw [List.length_map, List.take_length]
  rw [et] at eD
  refine ⟨D, _, rfl, .inl (.of eD), ?_⟩
  by_cases hx : x = "choose"
  · subst hx
    have l3 : ns.length = 3 := by
      rcases lk with ⟨h | h | h, _⟩ | ⟨h, _⟩ | ⟨h, l⟩ | ⟨h | h, _⟩
      · exact absurd h (by decide +kernel)
      · exact absurd h (by decide +kernel)
      · exact absurd h (by decide +kernel)
      · exact absurd h (by decide +kernel)
      · exact l
      · exact absurd h (by decide +kernel)
      · exact absurd h (by decide +kernel)
    have hS2 := s2.seq hS
    refine ⟨_, rfl, rfl, _, rfl, ifY rfl ⟨_, rfl, p, _, 2, _, rfl, rfl, hS2, at_ints (by decide) (by omega), _, rfl, p, _, 1, _, rfl, rfl, hS2, at_ints (by decide) (by omega), (by show 2 ≤ sizeLine; decide), fun L hL => ?_⟩⟩
    have hS3 := (same_upd hL (.lst [.int (ns.getD (2 : Int).toNat 0), .int (ns.getD (1 : Int).toNat 0)])).seq hS2
    have q' := q _ (s2.upd hL (.lst [.int (ns.getD (2 : Int).toNat 0), .int (ns.getD (1 : Int).toNat 0)]))
    rw [gv_choose] at q'
    refine ⟨_, rfl, p, _, 0, _, rfl, rfl, hS3, at_ints (Int.le_refl 0) (by omega), L, _, _, .int (if ns.getD 0 0 = 1 then ns.getD 1 0 else ns.getD 2 0), rfl, rfl, .of upd_same, ?_, q'⟩
    rcases getD_bit b (i := 0) (by omega) with e | e
    · show atI _ (ns.getD 0 0) = _
      rw [e]
      rfl
    · show atI _ (ns.getD 0 0) = _
      rw [e]
      rfl
  · refine ⟨_, rfl, rfl, _, rfl, ifN hx ?_⟩
    have hS2 := s2.seq hS
    intro d hd
    have hS3 := (same_upd hd (.dK [])).seq hS2
    refine ⟨_, rfl, _, rfl, p, _, rfl, .inl hS3, rfl, .inr ⟨_, rfl, _, rfl, _, _, rfl, rfl, .inr ⟨_, rfl, _, rfl, _, _, rfl, rfl, (by show (0 : Int) < 2; decide), _, rfl, _, _, rfl, _, _, rfl, rfl, upd_same,
      [(Sum.inr "and", _), (Sum.inr "or", _), (Sum.inr "odd", _), (Sum.inr "not", _)], rfl, (by show 4 ≤ 15; decide), ?_⟩⟩⟩
    have hd0 : H d = none := s2.free hd
    refine ⟨_, rfl, d, rfl, .inl ⟨_, .inl upd_same⟩, _, rfl, _, rfl, rfl, .inr ⟨_, rfl, _, DGet.k (k := Sum.inr x) upd_same, ?_⟩⟩
    have fin : ∀ v : V, v = .int (gateV x ns) → Q v (upd (upd H2 d (.dK [])) d (.dK (mergeK [] [(Sum.inr "and", V.int (if (decide (V.int ((((ns.filter (· == 1)).map V.int).length : Nat) : Int) = V.int (((ns.map V.int).length : Nat) : Int))) = true then (1 : Int) else 0)), (Sum.inr "or", V.int (if (decide ((0 : Int) < ((((ns.filter (· == 1)).map V.int).length : Nat) : Int))) = true then (1 : Int) else 0)), (Sum.inr "odd", V.int (((((ns.filter (· == 1)).map V.int).length : Nat) : Int) % 2)), (Sum.inr "not", V.int (1 - (if ((((ns.filter (· == 1)).map V.int).length : Nat) : Int) < 1 then ((((ns.filter (· == 1)).map V.int).length : Nat) : Int) else 1)))]))) := fun v e => by
      rw [e]
      exact q _ ((s2.upd hd _).write hd0 _)
    refine fin _ ?_
    rcases lk with ⟨h | h | h, _⟩ | ⟨h, l1⟩ | ⟨h, _⟩ | ⟨h | h, _⟩
    · subst h; rw [← k_and]; kernel_rfl
    · subst h; rw [← k_or]; kernel_rfl
    · subst h; rw [← k_odd b]; kernel_rfl
    · subst h; rw [← k_not b l1]; kernel_rfl
    · exact absurd h hx
    · subst h; rw [gv_zero]; kernel_rfl
    · subst h; rw [gv_one]; kernel_rfl
theorem sc_law_worths : FnScope ["works", "stuck", "row", "found", "wire", "inputs", "gates", "outputs", "worth", "some", "place", "kind", "legs"] ["works", "stuck", "row"] (defScope s_law_worths) := ⟨rfl, rfl, rfl, by decide +kernel, rfl, by decide +kernel, by decide +kernel⟩
theorem ok_law_worths (T : Txt K mg t) : FnOk P w K mg base CX0 2 t.f_law_worths t.fd_law_worths ["works", "stuck", "row"] (sp_lw K) := by
  refine T.d_law_worths.F.okB sc_law_worths (fun vs H Q E h => ?_) (fun cdv A outer s H vs Q E hr h => ?_)
  · obtain ⟨x, d, p, w, row, rfl, _⟩ := h
    rfl
  obtain ⟨x, d, p, w, row, rfl, hx, wf, hdT, hS, hl, b, q⟩ := h
  obtain ⟨a, ga, oa, gs, os, rfl, ha, hg, ho, rg, ro⟩ := gates_at hx
  have hu1 := hu_of hr
  have lg : gs.length = w.gates.length := by rw [rg.length, List.length_map]
  have i1 := wf.i1
  have i6 := wf.i6
  have few := wf.few
  refine ⟨_, (bpss_cons (bps_asg (bpv 0) (bpg_tup rfl (bpgs_cons (bpg_name (k := 5) sc_law_worths.nd rfl (Or.inl rfl)) (bpgs_cons (bpg_name (k := 6) sc_law_worths.nd rfl (Or.inl rfl)) (bpgs_cons (bpg_name (k := 7) sc_law_worths.nd rfl (Or.inl rfl)) bpgs_nil)))))
    (bpss_cons (bps_set (k := 3) sc_law_worths.nd rfl (Or.inl rfl) (bpe_lst bpa_nil))
    (bpss_cons (bps_for PassesOwn.never rfl (bpi_range1 rfl T.z_range (bpa_cons (bpe_op op_add (bpv 5) (bpe_callB call_len_seq rfl T.z_len PySem.boot_len (bpa_cons (bpv 6) (bpa_nil)))) (bpa_nil))) (bpg_name (k := 4) sc_law_worths.nd rfl (Or.inl rfl)) (bpss_cons (bps_set (k := 8) sc_law_worths.nd rfl (Or.inl rfl) bpe_int)
    (bpss_cons (bps_if (bpt_cmpR op_lt (bpv 4) (bpv 5) (nomark _)) (bpss_one (bps_set (k := 8) sc_law_worths.nd rfl (Or.inl rfl) (bpe_ix ix_list (bpv 2) (bpv 4) (fun _ _ => rfl)))) (bpss_cons (bps_asg (bpe_ix ix_list (bpv 6) (bpe_op op_sub (bpv 4) (bpv 5)) (fun _ _ => rfl)) (bpg_tup rfl (bpgs_cons (bpg_name (k := 11) sc_law_worths.nd rfl (Or.inl rfl)) (bpgs_cons (bpg_name (k := 12) sc_law_worths.nd rfl (Or.inl rfl)) bpgs_nil))))
    (bpss_cons (bps_set (k := 9) sc_law_worths.nd rfl (Or.inl rfl) (bpe_lst bpa_nil))
    (bpss_cons (bps_for PassesOwn.never rfl (bpi_range1 rfl T.z_range (bpa_cons (bpe_callB call_len_seq rfl T.z_len PySem.boot_len (bpa_cons (bpv 12) (bpa_nil))) (bpa_nil))) (bpg_name (k := 10) sc_law_worths.nd rfl (Or.inl rfl)) (bpss_one (bps_expr (bpe_bm PySem.F.plainAttrs_list PySem.F.slot_list_append PySem.F.type_list_append mt_append (bpv 9) (bpa_cons (bpe_dget2 hu1 (bpv 1) (bpe_tup (bpa_cons bpe_str ( bpa_cons (bpe_op op_sub (bpv 4) (bpv 5)) ( bpa_cons (bpv 10) (bpa_nil))))) (bpe_ix ix_list (bpv 3) (bpe_ix ix_tup (bpv 12) (bpv 10) (fun _ _ => rfl)) (fun _ _ => rfl)) ⟨rfl, rfl, rfl, rfl⟩) (bpa_nil))))))
    (bpss_one (bps_set (k := 8) sc_law_worths.nd rfl (Or.inl rfl) (bpe_call (ok_law_gate T) (hr.mono (by decide)) rfl T.d_law_gate.m T.d_law_gate.F.kp T.d_law_gate.b .nil pass0 (bpa_cons (bpv 11) ( bpa_cons (bpv 9) (bpa_nil))))))))))
    (bpss_one (bps_expr (bpe_bm PySem.F.plainAttrs_list PySem.F.slot_list_append PySem.F.type_list_append mt_append (bpv 3) (bpa_cons (bpe_dget2 hu1 (bpv 1) (bpe_tup (bpa_cons bpe_str ( bpa_cons (bpv 4) (bpa_nil)))) (bpv 8) ⟨rfl, rfl, rfl, rfl⟩) (bpa_nil))))))))
    (bpss_one (bps_ret (bpv 3)))))), ?_⟩
  refine ⟨_, rfl, a, _, rfl, ha, rfl, _, _, rfl, _, _, rfl, _, _, rfl, rfl, (by show 0 ≤ sizeLine; decide), fun f hf => ?_⟩
  have s1 := same_upd hf (.lst [])
  refine ⟨_, rfl, _, rfl, ga, _, rfl, .inl (s1.seq hg), _, _, rfl, rfl, _, rfl, by omega, by omega, ?_⟩
  refine for_range (fun i σ H2 => ∃ (o4 o8 o9 o10 o11 o12 : Option V), σ = [some (.ref a), some (.ref d), some (.ref p), some (.ref f), o4, some (.int w.ins), some (.ref ga), some (.ref oa), o8, o9, o10, o11, o12] ∧ Same H H2 ∧ H2 f = some (.lst ((upto w.gates row i).map V.int)))
    ⟨_, _, _, _, _, _, rfl, s1, by rw [upto_zero]; exact upd_same⟩ ?_ ?_
  · rintro i σ H2 hi ⟨o4, o8, o9, o10, o11, o12, rfl, s2, e2⟩
    rw [Int.zero_add]
    refine ⟨_, rfl, _, rfl, _, _, rfl, rfl, _, rfl, ite2 (fun c => ?_) (fun c => ?_)⟩
    · have c' : (i : Int) < w.ins := of_decide_eq_true c
      refine ⟨_, rfl, _, rfl, p, _, _, _, rfl, rfl, s2.seq hS, at_ints (by omega) (by omega), ?_⟩
      refine ⟨_, rfl, .inl ⟨rfl, _, .of e2⟩, _, rfl, d, rfl, .inr ⟨_, .inl (s2 _ _ hdT)⟩, _, rfl, (by show 2 ≤ sizeLine; decide), fun T1 h1 => ?_⟩
      have fT : f ≠ T1 := ne_of_none e2 h1
      refine ⟨_, rfl, none, DGet.t (k := [Sum.inr "wire", Sum.inl (i : Int)]) (kvs := []) ((s2.upd h1 _) _ _ hdT) upd_same, ?_⟩
      refine ⟨f, _, _, rfl, rfl, by rw [upd_ne fT]; exact e2, big (by rw [List.length_map, upto_len]; omega), _, _, _, _, _, _, rfl, (s2.upd h1 _).write hf _, ?_⟩
      rw [upd_same, upto_row (by omega), List.map_append]
      rfl
    · have c' : ¬ (i : Int) < w.ins := fun z => c (decide_eq_true z)
      obtain ⟨n, rfl⟩ : ∃ n, i = row.length + n := ⟨i - row.length, by omega⟩
      have hn : n < w.gates.length := by omega
      rw [upto_gate] at e2
      obtain ⟨g, hgk⟩ : ∃ g, w.gates[n]? = some g := ⟨_, List.getElem?_eq_getElem hn⟩
      obtain ⟨v, hv, rv⟩ := rg.getD (i := n) (d := gateD g) (by rw [List.getElem?_map, hgk]; rfl)
      obtain ⟨a1, la, rfl, hA, hL⟩ := gate_at rv
      obtain ⟨lk, lb⟩ := wf.legs n g hgk
      have bw := wiresV_bits wf hl b n (by omega)
      have lw := wiresV_len w.gates row n
      have l4 := lk.le
      have ei : (((row.length + n : Nat)) : Int) - w.ins = (n : Int) := by omega
      refine ⟨_, rfl, _, rfl, _, rfl, _, _, rfl, rfl, ga, gs, _, .ref a1, rfl, rfl, s2.seq hg, by rw [ei]; exact atI_nat hv, a1, _, rfl, s2.seqT hA, rfl, _, _, rfl, _, _, rfl, rfl, ?_⟩
      refine ⟨(by show 0 ≤ sizeLine; decide), fun m hm => ?_⟩
      have s3 := s2.upd hm (.lst [])
      have fm : f ≠ m := ne_of_none e2 hm
      refine ⟨_, rfl, la, _, rfl, .inr (s3.seqT hL), _, rfl, by rw [List.length_map]; omega, by rw [List.length_map]; omega, ?_⟩
      refine for_range (fun j σ H4 => ∃ (o10 : Option V), σ = [some (.ref a), some (.ref d), some (.ref p), some (.ref f), some (.int ((row.length + n : Nat) : Int)), some (.int w.ins), some (.ref ga), some (.ref oa), some (.int 0), some (.ref m), o10, some (.str g.1), some (.ref la)] ∧ Same H2 H4 ∧
          H4 m = some (.lst (((g.2.take j).map fun l => (wiresV w.gates row n).getD l.toNat 0).map V.int))) ⟨_, rfl, same_upd hm _, upd_same⟩ ?_ ?_
      · rintro j σ H4 hj ⟨o10, rfl, s4, e4⟩
        rw [Int.zero_add]
        have hj' : j < g.2.length := by rw [List.length_map] at hj; omega
        have s24 := s2.trans s4
        refine ⟨_, rfl, .inl ⟨rfl, _, .of e4⟩, _, rfl, d, rfl, .inr ⟨_, .inl (s24 _ _ hdT)⟩, _, rfl, _, rfl, _, _, rfl, rfl, _, rfl, (by show 3 ≤ sizeLine; decide), fun T1 h1 => ?_⟩
        have s5 := s24.upd h1 (.tup [.str "leg", .int (((row.length + n : Nat) : Int) - w.ins), .int j])
        have mT : m ≠ T1 := ne_of_none e4 h1
        have bl := lb g.2[j] (List.getElem_mem hj')
        refine ⟨_, rfl, _, rfl, _, rfl, la, _, _, .int g.2[j], rfl, rfl, s5.seqT hL, atI_nat (by rw [List.getElem?_map, List.getElem?_eq_getElem hj'] <;> rfl), f, _, _, _, rfl, rfl, .of ((s4.upd h1 _) _ _ e2), at_ints bl.1 (by rw [lw]; omega), ?_⟩
        refine ⟨none, DGet.t (k := [Sum.inr "leg", Sum.inl (((row.length + n : Nat) : Int) - w.ins), Sum.inl (j : Int)]) (kvs := []) (s5 _ _ hdT) upd_same, ?_⟩
        refine ⟨m, _, _, rfl, rfl, by rw [upd_ne mT]; exact e4, big (by simp; omega), _, rfl, (s4.upd h1 _).write hm _, ?_⟩
        have et2 : g.2.take (j + 1) = g.2.take j ++ [g.2[j]] := by rw [List.take_add_one, List.getElem?_eq_getElem hj']; rfl
        rw [upd_same, et2, List.map_append, List.map_append]
        rfl
      · rintro σ H4 ⟨o10, rfl, s4, e4⟩
        have et : g.2.take (((g.2.map V.int).length : Nat) : Int).toNat = g.2 := by rw [Int.toNat_natCast, List.length_map, List.take_length]
        rw [et] at e4
        refine ⟨_, rfl, _, rfl, g.1, m, g.2.map fun l => (wiresV w.gates row n).getD l.toNat 0, rfl, .of e4, fun z hz => ?_, by rw [List.length_map]; exact lk, fun H5 s5 => ?_⟩
        · obtain ⟨l, hl', rfl⟩ := List.mem_map.mp hz
          exact getD_bit bw (by rw [lw]; have := lb l hl'; omega)
        · have s25 := s4.trans s5
          refine ⟨_, rfl, .inl ⟨rfl, _, .of (s25 _ _ e2)⟩, _, rfl, d, rfl, .inr ⟨_, .inl ((s2.trans s25) _ _ hdT)⟩, _, rfl, (by show 2 ≤ sizeLine; decide), fun T1 h1 => ?_⟩
          have fT : f ≠ T1 := ne_of_none (s25 _ _ e2) h1
          refine ⟨_, rfl, none, DGet.t (k := [Sum.inr "wire", Sum.inl ((row.length + n : Nat) : Int)]) (kvs := []) (((s2.trans s25).upd h1 _) _ _ hdT) upd_same, ?_⟩
          refine ⟨f, _, _, rfl, rfl, by rw [upd_ne fT]; exact s25 _ _ e2, big (by rw [List.length_map, lw]; omega), _, _, _, _, _, _, rfl, ((s2.trans s25).upd h1 _).write hf _, ?_⟩
          have e6 : row.length + n + 1 = row.length + (n + 1) := by omega
          rw [upd_same, e6, upto_gate, wiresV, hgk, List.map_append]
          rfl
  · rintro σ H2 ⟨o4, o8, o9, o10, o11, o12, rfl, s2, e2⟩
    have e3 : (w.ins + (gs.length : Int)).toNat = row.length + w.gates.length := by omega
    rw [e3, upto_gate] at e2
    exact ⟨_, rfl, q f H2 s2 hf e2⟩
theorem sc_outputs_at : FnScope ["works", "row", "worths"] ["works", "row"] (defScope s_outputs_at) := ⟨rfl, rfl, rfl, by decide +kernel, rfl, by decide +kernel, by decide +kernel⟩
theorem ok_outputs_at (T : Txt K mg t) : FnOk P w K mg base CX0 3 t.f_outputs_at t.fd_outputs_at ["works", "row"] (sp_oa K) := by
  refine T.d_outputs_at.F.okB sc_outputs_at (fun vs H Q E h => ?_) (fun cdv A outer s H vs Q E hr h => ?_)
  · obtain ⟨x, p, w, row, rfl, _⟩ := h
    rfl
  obtain ⟨x, p, w, row, rfl, hx, wf, hS, hl, b, q⟩ := h
  refine ⟨_, (bpss_cons (bps_set (k := 2) sc_outputs_at.nd rfl (Or.inr rfl) (bpe_call (ok_wire_worths T) (hr.mono (by decide)) rfl T.d_wire_worths.m T.d_wire_worths.F.kp T.d_wire_worths.b .nil pass0 (bpa_cons (bpv 0) ( bpa_cons (bpv 1) (bpa_nil)))))
    (bpss_one (bps_ret (bpe_comp rfl (N := ["wire", "worths"]) (n := 1) (cap := [2]) (blk_of rfl rfl) (bpi_list (bpe_ix ix_tup (bpv 0) bpe_int (fun _ _ => rfl))) (keep_name (by decide)) (fun _ _ _ _ => (bpg_name (k := 0) (show (["wire", "worths"] : List Str).Nodup by decide +kernel) rfl (Or.inl rfl))) (fun _ _ _ _ => bpts_nil) (fun _ _ _ _ => (bpe_ix (ix_listK (K := K)) (bpv 1) (bpv 0) (fun _ _ => rfl))))))), ?_⟩
  refine ⟨_, rfl, _, rfl, x, p, w, row, rfl, hx, wf, hS, hl, b, fun r H1 s1 n1 e1 => ?_⟩
  obtain ⟨a, ga, oa, gs, os, rfl, ha, hg, ho, rg, ro⟩ := gates_at (hx.mono s1)
  have eo := reps_ints ro
  subst eo
  have lw := wiresV_len w.gates row w.gates.length
  have o3 := wf.o3
  refine ⟨_, rfl, a, _, _, _, rfl, rfl, ha, rfl, oa, rfl, ⟨_, ho⟩, fun D hD => comp_list (K := K) (a := oa) (xs := w.outs.map V.int)
      (fun j H4 => Same H1 H4 ∧ H4 D = some (.lst (((w.outs.take j).map fun o => (wiresV w.gates row w.gates.length).getD o.toNat 0).map V.int))) ⟨same_upd hD _, upd_same⟩ (fun j H4 _ z => z.1.seq ho) ?_ ?_⟩
  · rintro j y H4 hy ⟨s4, eD⟩
    rw [List.getElem?_map] at hy
    cases hz : w.outs[j]? with
    | none => rw [hz] at hy; cases hy
    | some o =>
      rw [hz] at hy
      cases hy
      have lj : j < w.outs.length := (List.getElem?_eq_some_iff.mp hz).1
      have bo := wf.outs o (List.mem_of_getElem? hz)
      refine ⟨_, rfl, _, rfl, r, _, _, _, rfl, rfl, .of (s4 _ _ e1), at_ints bo.1 (by rw [lw]; omega), ?_⟩
      refine ⟨_, eD, big (by simp; omega), s4.write hD _, ?_⟩
      rw [upd_same, List.take_add_one, hz]
      simp
  · rintro H4 ⟨s4, eD⟩
    have et : w.outs.take (w.outs.map V.int).length = w.outs := by rw [List.length_map, List.take_length]
    rw [et] at eD
    exact q D H4 (s1.trans s4) (s1.free hD) eD
theorem sc_law_row : FnScope ["deck", "works"] ["deck", "works"] (defScope s_law_row) := ⟨rfl, rfl, rfl, by decide +kernel, rfl, by decide +kernel, by decide +kernel⟩
theorem ok_law_row (T : Txt K mg t) : FnOk P w K mg base CX0 2 t.f_law_row t.fd_law_row ["deck", "works"] (sp_row K) := by
  refine T.d_law_row.F.okB sc_law_row (fun vs H Q E h => ?_) (fun cdv A outer s H vs Q E hr h => ?_)
  · obtain ⟨pd, a, ga, oa, n, i, rfl, _⟩ := h
    rfl
  obtain ⟨pd, a, ga, oa, n, i, rfl, hd, ha, h0, h6, q⟩ := h
  refine ⟨_, (bpss_one (bps_ret (bpe_comp rfl (N := ["k", "deck"]) (n := 1) (cap := [0]) (blk_of rfl rfl) (bpi_range1 rfl T.z_range (bpa_cons (bpe_ix ix_tup (bpv 1) bpe_int (fun _ _ => rfl)) (bpa_nil))) (keep_name (by decide)) (fun _ _ _ _ => (bpg_name (k := 0) (show (["k", "deck"] : List Str).Nodup by decide +kernel) rfl (Or.inl rfl))) (fun _ _ _ _ => bpts_nil) (fun _ _ _ _ => (bpe_call (ok_law_take T) (hr.mono (by decide)) rfl T.d_law_take.m T.d_law_take.F.kp T.d_law_take.b .nil pass0 (bpa_cons (bpv 1) ( bpa_cons bpe_int (bpa_nil)))))))), ?_⟩
  refine ⟨_, rfl, a, _, _, _, rfl, rfl, ha, rfl, _, rfl, by omega, by omega, fun D hD => ?_⟩
  have dp : D ≠ pd := Ne.symm (ne_of_none hd hD)
  refine comp_range (fun j H2 => ∃ (row : List Int) (n' : Int), SameB pd H H2 ∧ row.length = j ∧ Bits row ∧ H2 D = some (.lst (row.map V.int)) ∧ H2 pd = some (.lst [.int n']))
    ⟨[], n, (same_upd hD _).b pd, rfl, (fun _ z => nomatch z), upd_same, by rw [upd_ne (Ne.symm dp)]; exact hd⟩ ?_ ?_
  · rintro j H2 hj ⟨row, n', s2, lr, br, eD, ep⟩
    refine ⟨_, rfl, pd, n', 2, rfl, ep, by decide, by decide, fun c n'' c0 c1 => ?_⟩
    refine ⟨_, by rw [upd_ne dp]; exact eD, big (by rw [List.length_map]; omega), row ++ [c], n'', ?_, by simp [lr], fun z hz => ?_, by rw [upd_same, List.map_append]; rfl, by rw [upd_ne (Ne.symm dp), upd_same]⟩
    · intro z u nz e
      rw [upd_ne (ne_of_none e hD), upd_ne nz]
      exact s2 z u nz e
    · rcases List.mem_append.mp hz with hz | hz
      · exact br z hz
      · rw [List.mem_singleton.mp hz]
        omega
  · rintro H2 ⟨row, n', s2, lr, br, eD, ep⟩
    exact q D row n' H2 s2 hD eD ep (by omega) br
theorem sc_Desk___init__ : FnScope ["self"] ["self"] (defScope s_Desk___init__) := ⟨rfl, rfl, rfl, by decide +kernel, rfl, by decide +kernel, by decide +kernel⟩
theorem ok_Desk___init__ (T : Txt K mg t) : FnOk P w K mg base CX0 1 t.f_Desk___init__ t.fd_Desk___init__ ["self"] (sp_init t.x_Desk) := by
  refine T.d_Desk___init__.F.okB sc_Desk___init__ (fun vs H Q E h => ?_) (fun cdv A outer s H vs Q E hr h => ?_)
  · obtain ⟨x, dx, rfl, _⟩ := h
    rfl
  obtain ⟨x, dx, rfl, hx, q⟩ := h
  refine ⟨_, (bpss_cons (bps_fld (bpv 0) (bpe_lst bpa_nil) rfl)
    (bpss_one (bps_fld (bpv 0) (bpe_lst bpa_nil) rfl))), ?_⟩
  refine ⟨Nat.zero_le _, fun r hr0 => ?_⟩
  have xr : x ≠ r := ne_of_none hx hr0
  refine ⟨_, rfl, x, _, dx, _, rfl, by rw [upd_ne xr]; exact hx, T.cl_Desk, T.na_rows, (by show 0 < 1000; decide), ?_⟩
  refine ⟨Nat.zero_le _, fun a ha => ?_⟩
  have xa : x ≠ a := ne_of_none upd_same ha
  have ra : r ≠ a := ne_of_none (by rw [upd_ne (Ne.symm xr), upd_same]) ha
  refine ⟨_, rfl, x, _, dx, _, rfl, by rw [upd_ne xa, upd_same], T.cl_Desk, T.na_answers, (by show 1 < 1000; decide), ?_⟩
  refine q _ (fun b o nb e => ?_) ⟨dx, r, a, by rw [upd_same]; rfl, by rw [upd_ne (Ne.symm xr), upd_ne ra, upd_ne (Ne.symm xr), upd_same]; rfl⟩
  have br : b ≠ r := ne_of_none e hr0
  have ba : b ≠ a := ne_of_none (by rw [upd_ne nb, upd_ne br]; exact e) ha
  rw [upd_ne nb, upd_ne ba, upd_ne nb, upd_ne br]
  exact e
theorem sc_Desk_keep_rows : FnScope ["self", "rows", "count"] ["self", "rows"] (defScope s_Desk_keep_rows) := ⟨rfl, rfl, rfl, by decide +kernel, rfl, by decide +kernel, by decide +kernel⟩
theorem ok_Desk_keep_rows (T : Txt K mg t) : FnOk P w K mg base CX0 1 t.f_Desk_keep_rows t.fd_Desk_keep_rows ["self", "rows"] (sp_keep t.x_Desk) := by
  refine T.d_Desk_keep_rows.F.okB sc_Desk_keep_rows (fun vs H Q E h => ?_) (fun cdv A outer s H vs Q E hr h => ?_)
  · obtain ⟨d, dx, r, v1, v2, zs, rfl, _⟩ := h
    rfl
  obtain ⟨d, dx, r, v1, v2, zs, rfl, hd, hr0, hz, q⟩ := h
  have dr : d ≠ r := ne_of hd hr0 (by intro z; cases z)
  refine ⟨_, (bpss_cons (bps_fld (bpv 0) (bpv 1) rfl)
    (bpss_cons (bps_fld (bpv 0) (bpe_lst bpa_nil) rfl)
    (bpss_cons (bps_set (k := 2) sc_Desk_keep_rows.nd rfl (Or.inl rfl) (bpe_callB call_len_seq rfl T.z_len PySem.boot_len (bpa_cons (bpv 1) (bpa_nil))))
    (bpss_one (bps_ret (bpe_fstr (bpv 2))))))), ?_⟩
  refine ⟨_, rfl, _, rfl, d, _, dx, _, rfl, hd, T.cl_Desk, T.na_rows, (by show 2 < 1000; decide), ?_⟩
  refine ⟨Nat.zero_le _, fun a ha => ?_⟩
  have da : d ≠ a := ne_of_none upd_same ha
  have ra : r ≠ a := ne_of_none (by rw [upd_ne (Ne.symm dr)]; exact hr0) ha
  refine ⟨_, rfl, d, _, dx, _, rfl, by rw [upd_ne da, upd_same], T.cl_Desk, T.na_answers, (by show 2 < 1000; decide), ?_⟩
  have er : (upd (upd (upd H d (.ins t.x_Desk dx (putF "rows" (.ref r) [("rows", v1), ("answers", v2)]))) a (.lst [])) d (.ins t.x_Desk dx (putF "answers" (.ref a) (putF "rows" (.ref r) [("rows", v1), ("answers", v2)])))) r = some (.lst (zs.map V.str)) := by
    rw [upd_ne (Ne.symm dr), upd_ne ra, upd_ne (Ne.symm dr)]
    exact hr0
  refine ⟨_, rfl, r, _, rfl, .inl (.of er), ?_⟩
  refine ⟨_, rfl, _, rfl, num_fits (by rw [List.length_map]; exact hz), ?_, ?_⟩
  · have := numS_small hz
    rw [List.length_map]
    exact Nat.le_trans this (by decide)
  rw [List.length_map]
  refine q _ (fun b o nb e => ?_) ⟨dx, r, a, by rw [upd_same]; rfl, er⟩
  have ba : b ≠ a := ne_of_none (by rw [upd_ne nb]; exact e) ha
  rw [upd_ne nb, upd_ne ba, upd_ne nb]
  exact e
theorem sc_shown : FnScope ["worths"] ["worths"] (defScope s_shown) := ⟨rfl, rfl, rfl, by decide +kernel, rfl, by decide +kernel, by decide +kernel⟩
theorem ok_shown (T : Txt K mg t) : FnOk P w K mg base CX0 1 t.f_shown t.fd_shown ["worths"] (sp_shn K) := by
  refine T.d_shown.F.okB sc_shown (fun vs H Q E h => ?_) (fun cdv A outer s H vs Q E hr h => ?_)
  · obtain ⟨p, ns, rfl, _⟩ := h
    rfl
  obtain ⟨p, ns, rfl, hp, hb, hn, q⟩ := h
  refine ⟨_, (bpss_one (bps_ret (bpe_bm PySem.F.plainAttrs_str PySem.F.slot_str_join PySem.F.type_str_join mt_joinA bpe_str (bpa_cons (bpe_comp rfl (N := ["worth"]) (n := 1) (cap := []) (blk_of rfl rfl) (bpi_list (bpv 0)) (keep_name (by decide)) (fun _ _ _ _ => (bpg_name (k := 0) (show (["worth"] : List Str).Nodup by decide +kernel) rfl (Or.inl rfl))) (fun _ _ _ _ => bpts_nil) (fun _ _ _ _ => (bpe_callTy call_str_int rfl T.z_str PyProof.Rows.boot_str (bpa_cons (bpv 0) (bpa_nil))))) (bpa_nil))))), ?_⟩
  refine ⟨rfl, _, rfl, p, rfl, ⟨_, hp⟩, fun D hD => comp_list (K := K) (a := p) (xs := ns.map V.int)
    (fun j H4 => Same H H4 ∧ H4 D = some (.lst (((ns.take j).map numS).map V.str))) ⟨same_upd hD _, upd_same⟩ (fun j H4 _ z => z.1.seq hp) ?_ ?_⟩
  · rintro j y H4 hy ⟨s4, eD⟩
    rw [List.getElem?_map] at hy
    cases hz : ns[j]? with
    | none => rw [hz] at hy; cases hy
    | some n =>
      rw [hz] at hy
      cases hy
      have hn1 : n.natAbs.log2 < 1920 := by
        rcases hb n (List.mem_of_getElem? hz) with rfl | rfl <;> decide
      refine ⟨_, rfl, n, rfl, hn1, _, eD, big (by rw [List.length_map, List.length_map, List.length_take]; omega), s4.write hD _, ?_⟩
      rw [upd_same, List.take_add_one, hz, List.map_append, List.map_append]
      rfl
  rintro H4 ⟨s4, eD⟩
  rw [List.length_map, List.take_length] at eD
  refine ⟨_, D, ns.map numS, rfl, rfl, eD, ?_, ?_⟩
  · have hs := sum_le (g := fun z : Str => z.length) (k := 1) (l := ns.map numS) fun z hz => by
      obtain ⟨n, hn, rfl⟩ := List.mem_map.mp hz
      rw [numS_bit (hb n hn)]
      exact Nat.le_refl _
    rw [List.length_map] at hs ⊢
    rw [emptyA]
    show _ + ns.length * 0 ≤ 100000
    omega
  · rw [join_fig hb]
    exact q _ s4
theorem sc_law_figures : FnScope ["worths"] ["worths"] (defScope s_law_figures) := ⟨rfl, rfl, rfl, by decide +kernel, rfl, by decide +kernel, by decide +kernel⟩
theorem ok_law_figures (T : Txt K mg t) : FnOk P w K mg base CX0 1 t.f_law_figures t.fd_law_figures ["worths"] (sp_shn K) := by
  refine T.d_law_figures.F.okB sc_law_figures (fun vs H Q E h => ?_) (fun cdv A outer s H vs Q E hr h => ?_)
  · obtain ⟨p, ns, rfl, _⟩ := h
    rfl
  obtain ⟨p, ns, rfl, hp, hb, hn, q⟩ := h
  refine ⟨_, (bpss_one (bps_ret (bpe_bm PySem.F.plainAttrs_str PySem.F.slot_str_join PySem.F.type_str_join mt_joinA bpe_str (bpa_cons (bpe_comp rfl (N := ["worth"]) (n := 1) (cap := []) (blk_of rfl rfl) (bpi_list (bpv 0)) (keep_name (by decide)) (fun _ _ _ _ => (bpg_name (k := 0) (show (["worth"] : List Str).Nodup by decide +kernel) rfl (Or.inl rfl))) (fun _ _ _ _ => bpts_nil) (fun _ _ _ _ => (bpe_callTy call_str_int rfl T.z_str PyProof.Rows.boot_str (bpa_cons (bpv 0) (bpa_nil))))) (bpa_nil))))), ?_⟩
  refine ⟨rfl, _, rfl, p, rfl, ⟨_, hp⟩, fun D hD => comp_list (K := K) (a := p) (xs := ns.map V.int)
    (fun j H4 => Same H H4 ∧ H4 D = some (.lst (((ns.take j).map numS).map V.str))) ⟨same_upd hD _, upd_same⟩ (fun j H4 _ z => z.1.seq hp) ?_ ?_⟩
  · rintro j y H4 hy ⟨s4, eD⟩
    rw [List.getElem?_map] at hy
    cases hz : ns[j]? with
    | none => rw [hz] at hy; cases hy
    | some n =>
      rw [hz] at hy
      cases hy
      have hn1 : n.natAbs.log2 < 1920 := by
        rcases hb n (List.mem_of_getElem? hz) with rfl | rfl <;> decide
      refine ⟨_, rfl, n, rfl, hn1, _, eD, big (by rw [List.length_map, List.length_map, List.length_take]; omega), s4.write hD _, ?_⟩
      rw [upd_same, List.take_add_one, hz, List.map_append, List.map_append]
      rfl
  rintro H4 ⟨s4, eD⟩
  rw [List.length_map, List.take_length] at eD
  refine ⟨_, D, ns.map numS, rfl, rfl, eD, ?_, ?_⟩
  · have hs := sum_le (g := fun z : Str => z.length) (k := 1) (l := ns.map numS) fun z hz => by
      obtain ⟨n, hn, rfl⟩ := List.mem_map.mp hz
      rw [numS_bit (hb n hn)]
      exact Nat.le_refl _
    rw [List.length_map] at hs ⊢
    rw [emptyA]
    show _ + ns.length * 0 ≤ 100000
    omega
  · rw [join_fig hb]
    exact q _ s4
theorem sc_read_worths : FnScope ["text"] ["text"] (defScope s_read_worths) := ⟨rfl, rfl, rfl, by decide +kernel, rfl, by decide +kernel, by decide +kernel⟩
theorem ok_read_worths (T : Txt K mg t) : FnOk P w K mg base CX0 1 t.f_read_worths t.fd_read_worths ["text"] sp_rws := by
  refine T.d_read_worths.F.okB sc_read_worths (fun vs H Q E h => ?_) (fun cdv A outer s H vs Q E hr h => ?_)
  · obtain ⟨ns, rfl, _⟩ := h
    rfl
  obtain ⟨ns, rfl, hb, hne, hn, q⟩ := h
  have ec : (figS ns).cps.toList = figL ns := tl _
  have el : (figL ns).length = ns.length := List.length_map _
  have hin := figL_in hb
  have asc : (figS ns).cps.all (· < 128) = true := by
    rw [← Array.all_toList, ec, List.all_eq_true]
    intro c hc
    rcases hin c hc with rfl | rfl <;> rfl
  have nz : ¬ (decide (V.str (figS ns) = V.str (Str.ofString "")) = true) := fun z => by
    have := V.str.inj (of_decide_eq_true z)
    have e2 := congrArg (fun x : Str => x.cps.toList) this
    rw [emptyA] at e2
    have e3 : figL ns = [] := ec.symm.trans e2
    exact hne (List.map_eq_nil_iff.mp e3)
  refine ⟨_, (bpss_cons (bps_if (bPW_pt (bpw_or (bpt_cmpR op_eq (bpv 0) bpe_str (nomark _)) (bpw_or1 (bpt_not (bpt_val (bpe_callB (call_allL rfl) rfl T.z_all PyProof.Rows.boot_all (bpa_cons (bpe_comp rfl (N := ["sign"]) (n := 1) (cap := []) (blk_of rfl rfl) (bpi_str (bpv 0)) (keep_name (by decide)) (fun _ _ _ _ => (bpg_name (k := 0) (show (["sign"] : List Str).Nodup by decide +kernel) rfl (Or.inl rfl))) (fun _ _ _ _ => bpts_nil) (fun _ _ _ _ => (bpe_cmpR op_in_str (bpv 0) bpe_str rfl))) (bpa_nil)))))))) (bpss_one bps_never) bpss_nil)
    (bpss_one (bps_ret (bpe_comp rfl (N := ["sign"]) (n := 1) (cap := []) (blk_of rfl rfl) (bpi_str (bpv 0)) (keep_name (by decide)) (fun _ _ _ _ => (bpg_name (k := 0) (show (["sign"] : List Str).Nodup by decide +kernel) rfl (Or.inl rfl))) (fun _ _ _ _ => bpts_nil) (fun _ _ _ _ => (bpe_callTy call_intT rfl T.z_int PyProof.Rows.boot_int (bpa_cons (bpv 0) (bpa_nil)))))))), ?_⟩
  refine ⟨_, rfl, rfl, _, rfl, ?_⟩
  refine PySem.W.ite_neg nz ?_
  refine ⟨_, rfl, _, rfl, asc, fun C hC => comp_str (fun i H5 => Same H H5 ∧ H5 C = some (.lst ((List.replicate i true).map V.bl)))
    ⟨same_upd hC _, upd_same⟩ ?_ ?_⟩
  · rintro i c H5 hi ⟨s5, eC⟩
    have ci : i < ns.length := by have := (List.getElem?_eq_some_iff.mp hi).1; rw [ec, el] at this; exact this
    have cm : c ∈ figL ns := by rw [← ec]; exact List.mem_of_getElem? hi
    have yes : (!(Builtin.Str.occurrences (Str.ofString "01") ⟨#[c]⟩ 0 (Str.ofString "01").length 1).isEmpty) = true := by
      rcases hin c cm with rfl | rfl <;> decide +kernel
    refine ⟨_, rfl, _, _, rfl, rfl, _, eC, big (by rw [List.length_map, List.length_replicate]; omega), s5.write hC _, ?_⟩
    rw [upd_same, yes, List.replicate_succ', List.map_append]
    rfl
  rintro H5 ⟨s5, eC⟩
  refine ⟨C, _, rfl, .of eC, _, rfl, ?_⟩
  rw [show (List.replicate (figS ns).cps.toList.length true).all id = true by simp]
  refine PySem.W.ite_neg (by decide) ?_
  refine ⟨_, rfl, _, rfl, asc, fun D hD => comp_str (fun i H6 => Same H5 H6 ∧ H6 D = some (.lst ((ns.take i).map V.int)))
    ⟨same_upd hD _, upd_same⟩ ?_ ?_⟩
  · rintro i c H6 hi ⟨s6, eD⟩
    have ci : i < ns.length := by have := (List.getElem?_eq_some_iff.mp hi).1; rw [ec, el] at this; exact this
    obtain ⟨n, hn1⟩ : ∃ n, ns[i]? = some n := ⟨_, List.getElem?_eq_getElem ci⟩
    have hc : c = (48 + n).toNat := by
      rw [ec] at hi
      unfold figL at hi
      rw [List.getElem?_map, hn1] at hi
      exact (Option.some.inj hi).symm
    have b := hb n (List.mem_of_getElem? hn1)
    refine ⟨_, rfl, ⟨#[c]⟩, rfl, ?_, (fun z => by cases z), (by show 1 ≤ 640; decide), _, eD, big (by rw [List.length_map, List.length_take]; omega), s6.write hD _, ?_⟩
    · intro d hd
      have : d = c := by simpa using hd
      rw [this, hc]
      rcases b with rfl | rfl <;> decide
    · rw [upd_same, List.take_add_one, hn1, List.map_append]
      have e : ((([c] : List Nat).foldl (fun a c => a * 10 + (c - 48)) 0 : Nat) : Int) = n := by
        rw [hc]
        rcases b with rfl | rfl <;> rfl
      show some (HO.lst (_ ++ [V.int ((([c] : List Nat).foldl (fun a c => a * 10 + (c - 48)) 0 : Nat) : Int)])) = _
      rw [e]
      rfl
  rintro H6 ⟨s6, eD⟩
  rw [ec, el, List.take_length] at eD
  exact q D H6 (s5.trans s6) eD
theorem sc_read_things : FnScope ["word", "text"] ["word", "text"] (defScope s_read_things) := ⟨rfl, rfl, rfl, by decide +kernel, rfl, by decide +kernel, by decide +kernel⟩
theorem ok_read_things (T : Txt K mg t) : FnOk P w K mg base CX0 2 t.f_read_things t.fd_read_things ["word", "text"] sp_rth := by
  refine T.d_read_things.F.okB sc_read_things (fun vs H Q E h => ?_) (fun cdv A outer s H vs Q E hr h => ?_)
  · rcases h with ⟨u, rfl, _⟩ | ⟨ns, rfl, _⟩
    · rfl
    · rfl
  refine ⟨_, (bpss_cons (bps_if (bpt_cmpR op_eq (bpv 0) bpe_str (nomark _)) (bpss_one (bps_ret (bpe_tup (bpa_cons (bpv 1) (bpa_nil))))) bpss_nil)
    (bpss_cons (bps_if (bpt_cmpR op_eq (bpv 0) bpe_str (nomark _)) (bpss_one (bps_ret (bpe_tup (bpa_cons (bpe_call (ok_read_worths T) (hr.mono (by decide)) rfl T.d_read_worths.m T.d_read_worths.F.kp T.d_read_worths.b .nil pass0 (bpa_cons (bpv 1) (bpa_nil))) (bpa_nil))))) bpss_nil)
    (bpss_cons (bps_if (bpt_cmpR op_eq (bpv 0) bpe_str (nomark _)) (bpss_one bps_dead) bpss_nil)
    (bpss_cons (bps_if (bpt_cmpR op_eq (bpv 0) bpe_str (nomark _)) (bpss_one bps_dead) bpss_nil)
    (bpss_cons (bps_if (bpt_cmpR op_eq (bpv 0) bpe_str (nomark _)) (bpss_one bps_dead) bpss_nil)
    (bpss_one bps_never)))))), ?_⟩
  rcases h with ⟨u, rfl, q⟩ | ⟨ns, rfl, hb, hne, hn, q⟩
  · refine ⟨_, rfl, rfl, _, rfl, ?_⟩
    refine PySem.W.ite_pos (by decide +kernel) ?_
    refine ⟨_, rfl, (by show 1 ≤ sizeLine; decide), fun D hD => ?_⟩
    exact q D _ (same_upd hD _) upd_same
  · refine ⟨_, rfl, rfl, _, rfl, ?_⟩
    refine PySem.W.ite_neg (by decide +kernel) ?_
    refine ⟨_, rfl, rfl, _, rfl, ?_⟩
    refine PySem.W.ite_pos (by decide +kernel) ?_
    refine ⟨_, rfl, ns, rfl, hb, hne, hn, fun p H1 s1 e1 => ?_⟩
    refine ⟨(by show 1 ≤ sizeLine; decide), fun D hD => ?_⟩
    exact q D p _ (s1.trans (same_upd hD _)) upd_same (by rw [upd_ne (ne_of_none e1 hD)]; exact e1)
theorem sc_read_order : FnScope ["row", "parts"] ["row"] (defScope s_read_order) := ⟨rfl, rfl, rfl, by decide +kernel, rfl, by decide +kernel, by decide +kernel⟩
theorem ok_read_order (T : Txt K mg t) : FnOk P w K mg base CX0 3 t.f_read_order t.fd_read_order ["row"] sp_rdo := by
  refine T.d_read_order.F.okB sc_read_order (fun vs H Q E h => ?_) (fun cdv A outer s H vs Q E hr h => ?_)
  · obtain ⟨o, rfl, _⟩ := h
    rfl
  obtain ⟨o, rfl, ok, q⟩ := h
  refine ⟨_, (bpss_cons (bps_if (bPW_pt (bpw_or (bpt_not (bpt_val (bpe_callB call_isI rfl T.z_isinstance PyProof.Rows.boot_isinstance (bpa_cons (bpv 0) ( bpa_cons (bpe_bltn (v := .ty "str") rfl T.z_str PyProof.Rows.boot_str rfl) (bpa_nil)))))) (bpw_or1 (bpt_cmpR op_in_str bpe_str (bpv 0) rfl)))) (bpss_one bps_never) bpss_nil)
    (bpss_cons (bps_if (bpt_cmpR op_in_seq (bpv 0) (bpe_glob (v := .ref t.c_WORDS_ALONE) rfl T.g_WORDS_ALONE rfl) rfl) (bpss_one (bps_ret (bpe_tup (bpa_cons (bpv 0) (bpa_nil))))) bpss_nil)
    (bpss_cons (bps_set (k := 1) sc_read_order.nd rfl (Or.inl rfl) (bpe_bm PySem.F.plainAttrs_str PySem.F.slot_str_partition PySem.F.type_str_partition mt_partA (bpv 0) (bpa_cons bpe_str (bpa_nil))))
    (bpss_cons (bps_if (bpt_cmpR op_eq (bpe_ix ix_tup (bpv 1) bpe_int (fun _ _ => rfl)) bpe_str (nomark _)) (bpss_one bps_never) bpss_nil)
    (bpss_one (bps_ret (bpe_op op_catT (bpe_tup (bpa_cons (bpe_ix ix_tup (bpv 1) bpe_int (fun _ _ => rfl)) (bpa_nil))) (bpe_call (ok_read_things T) (hr.mono (by decide)) rfl T.d_read_things.m T.d_read_things.F.kp T.d_read_things.b .nil pass0 (bpa_cons (bpe_ix ix_tup (bpv 1) bpe_int (fun _ _ => rfl)) ( bpa_cons (bpe_ix ix_tup (bpv 1) bpe_int (fun _ _ => rfl)) (bpa_nil))))))))))), ?_⟩
  have nf : 10 ∉ o.text.cps.toList := by
    cases o with
    | clear => decide +kernel
    | put u =>
      rw [putT]
      intro z
      rcases List.mem_append.mp z with z | z
      · exact absurd z (by decide)
      · rcases List.mem_cons.mp z with z | z
        · cases z
        · exact ok.1 10 z rfl
    | run ns =>
      rw [runT]
      intro z
      rcases List.mem_append.mp z with z | z
      · exact absurd z (by decide)
      · rcases List.mem_cons.mp z with z | z
        · cases z
        · rcases figL_in ok.1 10 z with z | z <;> cases z
  have sl : sizeLine = 16777216 := by decide
  have ll : o.text.length ≤ sizeLine := by
    have e : o.text.length = o.text.cps.toList.length := Array.length_toList.symm
    rw [e]
    cases o with
    | clear => decide +kernel
    | put u =>
      rw [putT]
      simp only [List.length_append, List.length_cons, List.length_nil]
      have e2 : u.cps.toList.length = u.length := Array.length_toList
      have := ok.2
      omega
    | run ns =>
      rw [runT]
      simp only [List.length_append, List.length_cons, List.length_nil]
      have e2 : (figL ns).length = ns.length := List.length_map _
      have := ok.2.2
      omega
  refine ⟨_, rfl, _, _, _, _, rfl, .of (.str _), rfl, _, rfl, ?_⟩
  refine PySem.W.ite_neg (by decide) ?_
  refine ⟨_, rfl, _, _, rfl, rfl, _, rfl, ?_⟩
  rw [no_feed nf]
  refine PySem.W.ite_neg (by decide) ?_
  refine ⟨_, rfl, _, alone.map V.str, rfl, .inr (T.k_WORDS_ALONE.sq (by decide)), rfl, rfl, _, rfl, ?_⟩
  cases o with
  | clear =>
    refine PySem.W.ite_pos (by decide +kernel) ?_
    refine ⟨_, rfl, (by show 1 ≤ sizeLine; decide), fun D hD => ?_⟩
    exact q D _ (same_upd hD _) upd_same
  | put u =>
    have hb : 32 ∈ (Ord.put u).text.cps.toList := by rw [putT]; exact List.mem_append_right _ (.head _)
    refine PySem.W.ite_neg (by rw [alone_no hb]; decide) ?_
    refine ⟨_, rfl, rfl, _, _, 32, rfl, rfl, blankA, ll, fun a b e na D hD => ?_, fun z => absurd hb z⟩
    obtain ⟨rfl, rfl⟩ := blank_uniq ((putT u).symm.trans e) (by decide) na
    rw [show (⟨[112, 117, 116].toArray⟩ : Str) = Str.ofString "put" from put_eq.symm, show (⟨u.cps.toList.toArray⟩ : Str) = u from (str_of rfl).symm]
    have kD := same_upd hD (.tup [.str (Str.ofString "put"), .str (Str.ofString " "), .str u])
    have eD : SqT K (upd H D (.tup [.str (Str.ofString "put"), .str (Str.ofString " "), .str u])) D [.str (Str.ofString "put"), .str (Str.ofString " "), .str u] := .of upd_same
    generalize upd H D (.tup [.str (Str.ofString "put"), .str (Str.ofString " "), .str u]) = H1 at kD eD
    refine ⟨_, rfl, D, _, _, _, rfl, rfl, eD, rfl, rfl, _, rfl, ?_⟩
    refine PySem.W.ite_neg (by decide +kernel) ?_
    refine ⟨_, rfl, D, _, _, _, rfl, rfl, eD, rfl, (by show 1 ≤ sizeLine; decide), fun F hF => ?_⟩
    have kF := same_upd hF (.tup [.str (Str.ofString "put")])
    refine ⟨_, rfl, D, _, _, _, rfl, rfl, kF.seqT eD, rfl, _, rfl, D, _, _, _, rfl, rfl, kF.seqT eD, rfl, ?_⟩
    refine .inl ⟨u, rfl, fun G H2 s2 e2 => ?_⟩
    have eF : H2 F = some (.tup [.str (Str.ofString "put")]) := s2 _ _ upd_same
    refine ⟨F, G, _, _, rfl, rfl, .of eF, .of e2, (fun z => by cases z), (by show 2 ≤ sizeLine; decide), fun z => (by cases z), fun _ R hR => ?_⟩
    exact q R _ (((kD.trans kF).trans s2).trans (same_upd hR _)) upd_same
  | run ns =>
    have hb : 32 ∈ (Ord.run ns).text.cps.toList := by rw [runT]; exact List.mem_append_right _ (.head _)
    refine PySem.W.ite_neg (by rw [alone_no hb]; decide) ?_
    refine ⟨_, rfl, rfl, _, _, 32, rfl, rfl, blankA, ll, fun a b e na D hD => ?_, fun z => absurd hb z⟩
    obtain ⟨rfl, rfl⟩ := blank_uniq ((runT ns).symm.trans e) (by decide) na
    rw [show (⟨[114, 117, 110].toArray⟩ : Str) = Str.ofString "run" from run_eq.symm, show (⟨(figL ns).toArray⟩ : Str) = figS ns from (str_of (tl _)).symm]
    have kD := same_upd hD (.tup [.str (Str.ofString "run"), .str (Str.ofString " "), .str (figS ns)])
    have eD : SqT K (upd H D (.tup [.str (Str.ofString "run"), .str (Str.ofString " "), .str (figS ns)])) D [.str (Str.ofString "run"), .str (Str.ofString " "), .str (figS ns)] := .of upd_same
    generalize upd H D (.tup [.str (Str.ofString "run"), .str (Str.ofString " "), .str (figS ns)]) = H1 at kD eD
    refine ⟨_, rfl, D, _, _, _, rfl, rfl, eD, rfl, rfl, _, rfl, ?_⟩
    refine PySem.W.ite_neg (by decide +kernel) ?_
    refine ⟨_, rfl, D, _, _, _, rfl, rfl, eD, rfl, (by show 1 ≤ sizeLine; decide), fun F hF => ?_⟩
    have kF := same_upd hF (.tup [.str (Str.ofString "run")])
    refine ⟨_, rfl, D, _, _, _, rfl, rfl, kF.seqT eD, rfl, _, rfl, D, _, _, _, rfl, rfl, kF.seqT eD, rfl, ?_⟩
    refine .inr ⟨ns, rfl, ok.1, ok.2.1, ok.2.2, fun G p H2 s2 e2 e3 => ?_⟩
    have eF : H2 F = some (.tup [.str (Str.ofString "run")]) := s2 _ _ upd_same
    refine ⟨F, G, _, _, rfl, rfl, .of eF, .of e2, (fun z => by cases z), (by show 2 ≤ sizeLine; decide), fun z => (by cases z), fun _ R hR => ?_⟩
    exact q R _ (((kD.trans kF).trans s2).trans (same_upd hR _)) ⟨p, upd_same, by rw [upd_ne (ne_of_none e3 hR)]; exact e3⟩
theorem sc_told_of : FnScope ["works", "order", "word"] ["works", "order"] (defScope s_told_of) := ⟨rfl, rfl, rfl, by decide +kernel, rfl, by decide +kernel, by decide +kernel⟩
theorem ok_told_of (T : Txt K mg t) : FnOk P w K mg base CX0 4 t.f_told_of t.fd_told_of ["works", "order"] (sp_tof K) := by
  refine T.d_told_of.F.okB sc_told_of (fun vs H Q E h => ?_) (fun cdv A outer s H vs Q E hr h => ?_)
  · obtain ⟨x, D, w, ns, rfl, _⟩ := h
    rfl
  obtain ⟨x, D, w, ns, rfl, hx, wf, ⟨p, hD, hp⟩, hl, hb, q⟩ := h
  have sl : sizeLine = 16777216 := by decide
  refine ⟨_, (bpss_cons (bps_set (k := 2) sc_told_of.nd rfl (Or.inl rfl) (bpe_ix ix_tup (bpv 1) bpe_int (fun _ _ => rfl)))
    (bpss_cons (bps_if (bpt_cmpR op_eq (bpv 2) bpe_str (nomark _)) (bpss_one (bps_ret (bpe_call (ok_shown T) (hr.mono (by decide)) rfl T.d_shown.m T.d_shown.F.kp T.d_shown.b .nil pass0 (bpa_cons (bpe_call (ok_outputs_at T) (hr.mono (by decide)) rfl T.d_outputs_at.m T.d_outputs_at.F.kp T.d_outputs_at.b .nil pass0 (bpa_cons (bpv 0) ( bpa_cons (bpe_ix ix_tup (bpv 1) bpe_int (fun _ _ => rfl)) (bpa_nil)))) (bpa_nil))))) bpss_nil)
    (bpss_cons (bps_if (bpt_cmpR op_eq (bpv 2) bpe_str (nomark _)) (bpss_one bps_dead) bpss_nil)
    (bpss_cons (bps_if (bpt_cmpR op_eq (bpv 2) bpe_str (nomark _)) (bpss_one bps_dead) bpss_nil)
    (bpss_cons (bps_if (bpt_cmpR op_eq (bpv 2) bpe_str (nomark _)) (bpss_one bps_dead) bpss_nil)
    (bpss_one bps_dead)))))), ?_⟩
  refine ⟨_, rfl, D, _, _, _, rfl, rfl, .of hD, rfl, _, rfl, rfl, _, rfl, ?_⟩
  refine PySem.W.ite_pos (by decide +kernel) ?_
  refine ⟨_, rfl, _, rfl, D, _, _, _, rfl, rfl, .of hD, rfl, x, p, w, ns, rfl, hx, wf, .of hp, hl, hb, fun r H1 s1 n1 e1 => ?_⟩
  refine ⟨r, _, rfl, .of e1, outs_bits wf hl hb, ?_, fun H2 s2 => q _ (s1.trans s2)⟩
  show (w.outs.map _).length ≤ 100
  rw [List.length_map]
  have := wf.o3
  omega
theorem sc_Desk_say : FnScope ["self", "row", "order", "word", "works"] ["self", "row"] (defScope s_Desk_say) := ⟨rfl, rfl, rfl, by decide +kernel, rfl, by decide +kernel, by decide +kernel⟩
theorem okX_Desk_say (T : Txt K mg t) : FnOk P w K mg base (CXC P w (.ref t.x_NoText)) 5 t.f_Desk_say t.fd_Desk_say ["self", "row"] (sp_say t.x_Desk) := by
  refine T.d_Desk_say.F.okC sc_Desk_say (fun vs H Q E h => ?_) (fun cdv A outer s H vs Q E hr h => ?_)
  · obtain ⟨d, o, zs, rfl, _⟩ := h
    rfl
  obtain ⟨d, o, zs, rfl, ok, ⟨dx, r, a, hd, hr0⟩, hz, q⟩ := h
  have sl : sizeLine = 16777216 := by decide
  refine ⟨_, (bpss_cons (bps_set (k := 2) sc_Desk_say.nd rfl (Or.inl rfl) (bpe_call (ok_read_order T) (hr.mono (by decide)) rfl T.d_read_order.m T.d_read_order.F.kp T.d_read_order.b .nil pass0 (bpa_cons (bpv 1) (bpa_nil))))
    (bpss_cons (bps_set (k := 3) sc_Desk_say.nd rfl (Or.inl rfl) (bpe_ix ix_tup (bpv 2) bpe_int (fun _ _ => rfl)))
    (bpss_cons (bps_if (bpt_cmpR op_eq (bpv 3) bpe_str (nomark _)) (bpss_one (bps_ret (bpe_meth (bpv 0) T.cl_Desk T.d_Desk_keep_rows.m (ok_Desk_keep_rows T) (hr.mono (by decide)) T.d_Desk_keep_rows.b .nil pass0 (bpa_cons (bpe_op op_cat (bpe_fld (bpv 0) rfl) (bpe_lst (bpa_cons (bpe_ix ix_tup (bpv 2) bpe_int (fun _ _ => rfl)) (bpa_nil)))) (bpa_nil))))) bpss_nil)
    (bpss_cons (bps_if (bpt_cmpR op_eq (bpv 3) bpe_str (nomark _)) (bpss_one (bps_ret (bpe_meth (bpv 0) T.cl_Desk T.d_Desk_keep_rows.m (ok_Desk_keep_rows T) (hr.mono (by decide)) T.d_Desk_keep_rows.b .nil pass0 (bpa_cons (bpe_lst bpa_nil) (bpa_nil))))) bpss_nil)
    (bpss_cons (bps_set (k := 4) sc_Desk_say.nd rfl (Or.inl rfl) (bpe_call (okX_read_works T) (hr.mono (by decide)) rfl T.d_read_works.m T.d_read_works.F.kp T.d_read_works.b .nil passC (bpa_cons (bpe_bm PySem.F.plainAttrs_str PySem.F.slot_str_join PySem.F.type_str_join mt_joinA bpe_str (bpa_cons (bpe_fld (bpv 0) rfl) (bpa_nil))) (bpa_nil))))
    (bpss_cons (bps_if (bpt_cmpR op_eq (bpv 3) bpe_str (nomark _)) (bpss_one bps_dead) bpss_nil)
    (bpss_cons (bps_if (bpt_cmpR op_eq (bpv 3) bpe_str (nomark _)) (bpss_one bps_dead) bpss_nil)
    (bpss_cons (bps_if (bpt_cmpR op_eq (bpv 3) bpe_str (nomark _)) (bpss_one bps_dead) bpss_nil)
    (bpss_one (bps_ret (bpe_call (ok_told_of T) (hr.mono (by decide)) rfl T.d_told_of.m T.d_told_of.F.kp T.d_told_of.b .nil pass0 (bpa_cons (bpv 4) ( bpa_cons (bpv 2) (bpa_nil)))))))))))))), ?_⟩
  refine ⟨_, rfl, o, rfl, ok, fun D H1 s1 e1 => ?_⟩
  have hd1 := s1 _ _ hd
  have hr1 := s1 _ _ hr0
  cases o with
  | clear =>
    refine ⟨_, rfl, D, _, _, _, rfl, rfl, .of e1, rfl, _, rfl, rfl, _, rfl, ?_⟩
    refine PySem.W.ite_neg (by decide +kernel) ?_
    refine ⟨_, rfl, rfl, _, rfl, ?_⟩
    refine PySem.W.ite_pos (by decide +kernel) ?_
    refine ⟨_, rfl, d, dx, _, rfl, hd1, rfl, (by show 0 ≤ sizeLine; decide), fun L hL => ?_⟩
    have dL : d ≠ L := ne_of_none hd1 hL
    refine ⟨d, dx, L, _, _, [], rfl, by rw [upd_ne dL]; exact hd1, upd_same, Nat.zero_le _, fun H2 s2 e2 => ?_⟩
    exact q H2 (fun b u nb e => s2 b u nb (same_upd hL _ _ _ (s1 _ _ e))) e2
  | put u =>
    refine ⟨_, rfl, D, _, _, _, rfl, rfl, .of e1, rfl, _, rfl, rfl, _, rfl, ?_⟩
    refine PySem.W.ite_pos (by decide +kernel) ?_
    refine ⟨_, rfl, d, dx, _, rfl, hd1, rfl, _, rfl, d, _, dx, _, _, rfl, hd1, T.cl_Desk, T.na_rows, rfl, ?_⟩
    refine ⟨_, rfl, D, _, _, _, rfl, rfl, .of e1, rfl, (by show 1 ≤ sizeLine; decide), fun L hL => ?_⟩
    have kL := same_upd hL (.lst [.str u])
    refine ⟨r, L, _, _, rfl, rfl, kL _ _ hr1, upd_same, (by rw [List.length_map]; show _ + 1 ≤ _; omega), fun M hM => ?_⟩
    have kM := same_upd hM (.lst (zs.map V.str ++ [.str u]))
    have eM : (upd (upd H1 L (.lst [.str u])) M (.lst (zs.map V.str ++ [.str u]))) M = some (.lst ((zs ++ [u]).map V.str)) := by rw [upd_same, List.map_append]; rfl
    refine ⟨d, dx, M, _, _, zs ++ [u], rfl, kM _ _ (kL _ _ hd1), eM, by rw [List.length_append]; show _ + 1 ≤ _; omega, fun H2 s2 e2 => ?_⟩
    rw [List.length_append, List.length_singleton]
    exact q H2 (fun b v nb e => s2 b v nb (kM _ _ (kL _ _ (s1 _ _ e)))) e2
  | run ns =>
    obtain ⟨p, e2, e3⟩ := e1
    obtain ⟨tx, lz, q⟩ := q
    refine ⟨_, rfl, D, _, _, _, rfl, rfl, .of e2, rfl, _, rfl, rfl, _, rfl, ?_⟩
    refine PySem.W.ite_neg (by decide +kernel) ?_
    refine ⟨_, rfl, rfl, _, rfl, ?_⟩
    refine PySem.W.ite_neg (by decide +kernel) ?_
    refine ⟨rfl, _, rfl, d, _, dx, _, _, rfl, hd1, T.cl_Desk, T.na_rows, rfl, _, r, zs, rfl, rfl, hr1, ?_, ?_⟩
    · rw [feedA]
      show _ + zs.length * 1 ≤ 100000
      omega
    refine ⟨_, rfl, tx, fun b tb => ?_, fun nt => ?_⟩
    · rcases q with ⟨w, tw, wf, hl, gw, q⟩ | ⟨nt, _⟩
      · obtain rfl := told_uniq tb tw
        refine ⟨gw, fun x H2 s2 rx => ?_⟩
        refine ⟨_, rfl, rfl, _, rfl, ?_⟩
        refine PySem.W.ite_neg (by decide +kernel) ?_
        refine ⟨_, rfl, rfl, _, rfl, ?_⟩
        refine PySem.W.ite_neg (by decide +kernel) ?_
        refine ⟨_, rfl, rfl, _, rfl, ?_⟩
        refine PySem.W.ite_neg (by decide +kernel) ?_
        refine ⟨_, rfl, _, rfl, _, D, b, ns, rfl, rx, wf, ⟨p, s2 _ _ e2, s2 _ _ e3⟩, hl, ok.1, fun H3 s3 => ?_⟩
        exact q H3 ((s1.trans s2).trans s3)
      · exact absurd ⟨b, tb⟩ nt
    · rcases q with ⟨w, tw, _⟩ | ⟨_, rz⟩
      · exact absurd ⟨w, tw⟩ nt
      · exact rz.on s1
theorem sc_law_told : FnScope ["desk", "row", "caught", "found", "e", "kinds"] ["desk", "row"] (defScope s_law_told) := ⟨rfl, rfl, rfl, by decide +kernel, rfl, by decide +kernel, by decide +kernel⟩
theorem ok_law_told (T : Txt K mg t) : FnOk P w K mg base CX0 6 t.f_law_told t.fd_law_told ["desk", "row"] (sp_ltd t.x_Desk) := by
  refine T.d_law_told.F.okB sc_law_told (fun vs H Q E h => ?_) (fun cdv A outer s H vs Q E hr h => ?_)
  · obtain ⟨d, o, zs, rfl, _⟩ := h
    rfl
  obtain ⟨d, o, zs, rfl, ok, dk, hz, q⟩ := h
  have sl : sizeLine = 16777216 := by decide
  refine ⟨_, (bpss_cons (bps_set (k := 2) sc_law_told.nd rfl (Or.inl rfl) bpe_non)
    (bpss_cons (bps_set (k := 3) sc_law_told.nd rfl (Or.inl rfl) bpe_non)
    (bpss_cons (bps_tryM (bpv 0) T.cl_Desk T.d_Desk_say.m (okX_Desk_say T) (hr.mono (by decide)) T.d_Desk_say.b .nil (bpa_cons (bpv 1) (bpa_nil)) rfl rfl rfl rfl T.g_StuckError T.k_NoText.ex T.k_StuckError.ex (by decide) T.i_aboveNoText sc_law_told.nd (k := 3) rfl (Or.inl rfl) (Or.inr rfl) (j := 4) rfl rfl (fun x => unB (bpss_one (bps_set (k := 2) sc_law_told.nd rfl (Or.inl rfl) (bpv 4)))))
    (bpss_cons (bps_if (bpt_cmp (bpc_isN (bpv 2))) (bpss_one (bps_ret (bpe_ix ix_list (bpe_lst (bpa_cons (bpv 3) ( bpa_cons bpe_str (bpa_nil)))) (bpe_callTy call_int1 rfl T.z_int PyProof.Rows.boot_int (bpa_cons (bpe_not (bpe_callB call_isI rfl T.z_isinstance PyProof.Rows.boot_isinstance (bpa_cons (bpv 3) ( bpa_cons (bpe_bltn (v := .ty "str") rfl T.z_str PyProof.Rows.boot_str rfl) (bpa_nil))))) (bpa_nil))) (fun _ _ => rfl)))) bpss_nil)
    (bpss_cons (bps_set (k := 5) sc_law_told.nd rfl (Or.inl rfl) (bpe_lst (bpa_cons (bpe_callB (call_isXk T.k_NoText rfl) rfl T.z_isinstance PyProof.Rows.boot_isinstance (bpa_cons (bpv 2) (bpa_cons (bpe_glob (v := .ref t.x_NoOrder) rfl T.g_NoOrder rfl) bpa_nil))) ( bpa_cons (bpe_callB (call_isXk T.k_NoText rfl) rfl T.z_isinstance PyProof.Rows.boot_isinstance (bpa_cons (bpv 2) (bpa_cons (bpe_glob (v := .ref t.x_NoText) rfl T.g_NoText rfl) bpa_nil))) ( bpa_cons (bpe_callB (call_isXk T.k_NoText rfl) rfl T.z_isinstance PyProof.Rows.boot_isinstance (bpa_cons (bpv 2) (bpa_cons (bpe_glob (v := .ref t.x_NoWorks) rfl T.g_NoWorks rfl) bpa_nil))) (bpa_nil))))))
    (bpss_cons (bps_set (k := 5) sc_law_told.nd rfl (Or.inl rfl) (bpe_op op_cat (bpv 5) (bpe_lst (bpa_cons (bpe_callB (call_isXk T.k_NoText rfl) rfl T.z_isinstance PyProof.Rows.boot_isinstance (bpa_cons (bpv 2) (bpa_cons (bpe_glob (v := .ref t.x_NoRow) rfl T.g_NoRow rfl) bpa_nil))) ( bpa_cons (bpe_callB (call_isXk T.k_NoText rfl) rfl T.z_isinstance PyProof.Rows.boot_isinstance (bpa_cons (bpv 2) (bpa_cons (bpe_glob (v := .ref t.x_NoFault) rfl T.g_NoFault rfl) bpa_nil))) ( bpa_cons (bpe_callB (call_isXk T.k_NoText rfl) rfl T.z_isinstance PyProof.Rows.boot_isinstance (bpa_cons (bpv 2) (bpa_cons (bpe_glob (v := .ref t.x_TooMany) rfl T.g_TooMany rfl) bpa_nil))) (bpa_nil)))))))
    (bpss_cons (bps_if (bPW_pt (bpw_or (bpt_not (bpt_val (bpe_callB (call_isXTk T.k_NoText rfl) rfl T.z_isinstance PyProof.Rows.boot_isinstance (bpa_cons (bpv 2) (bpa_cons (bpe_bltn (v := .ty "ValueError") rfl T.z_ValueError boot_VE rfl) bpa_nil))))) (bpw_or1 (bpt_cmpR op_ne (bpe_bm PySem.F.plainAttrs_list PySem.F.slot_list_count PySem.F.type_list_count mt_countB (bpv 5) (bpa_cons bpe_bl (bpa_nil))) bpe_int (nomark _))))) (bpss_one (bps_ret bpe_str)) bpss_nil)
    (bpss_one (bps_ret (bpe_ix ix_list (bpe_lst (bpa_cons bpe_str ( bpa_cons bpe_str ( bpa_cons bpe_str ( bpa_cons bpe_str ( bpa_cons bpe_str ( bpa_cons bpe_str (bpa_nil)))))))) (bpe_bm PySem.F.plainAttrs_list PySem.F.slot_list_index PySem.F.type_list_index mt_indexB (bpv 5) (bpa_cons bpe_bl (bpa_nil))) (fun _ _ => rfl))))))))))), ?_⟩
  obtain ⟨dx, r, a, hd, hr0⟩ := dk
  refine ⟨_, rfl, d, dx, _, rfl, hd, rfl, _, rfl, d, o, zs, rfl, ok, ⟨dx, r, a, hd, hr0⟩, hz, ?_⟩
  refine saidG_on q (fun z H2 k => ?_) fun qn H2 x s2 hx => ?_
  · refine ⟨_, rfl, _, rfl, iteT ?_⟩
    refine ⟨_, rfl, (by show 2 ≤ sizeLine; decide), fun L hL => ?_⟩
    refine ⟨_, rfl, _, _, _, _, rfl, .of (.str _), rfl, _, rfl, ?_⟩
    refine .inr ⟨_, rfl, L, _, _, _, rfl, rfl, .of upd_same, rfl, ?_⟩
    exact k _ (same_upd hL _)
  · intro x2 e hx2
    cases e
    have k1 := s2.upd hx (excO x t.x_NoText)
    have ex : (upd H2 x (excO x t.x_NoText)) x = some (excO x t.x_NoText) := upd_same
    generalize upd H2 x (excO x t.x_NoText) = H3 at k1 ex
    refine ⟨_, rfl, ?_⟩
    refine ⟨_, rfl, _, rfl, iteF ?_⟩
    refine ⟨_, rfl, x, t.x_NoOrder, false, rfl, ex, T.i_TOrder, _, rfl, x, t.x_NoText, true, rfl, ex, T.i_TText, _, rfl, x, t.x_NoWorks, false, rfl, ex, T.i_TWorks, (by show 3 ≤ sizeLine; decide), fun L hL => ?_⟩
    have kL := same_upd hL (.lst [.bl false, .bl true, .bl false])
    have eL := at_new (o := .lst [.bl false, .bl true, .bl false]) hL
    have ex2 := kL _ _ ex
    generalize upd H3 L (.lst [.bl false, .bl true, .bl false]) = H4 at kL eL ex2
    refine ⟨_, rfl, _, rfl, x, t.x_NoRow, false, rfl, ex2, T.i_TRow, _, rfl, x, t.x_NoFault, false, rfl, ex2, T.i_TFault, _, rfl, x, t.x_TooMany, false, rfl, ex2, T.i_ToMany, (by show 3 ≤ sizeLine; decide), fun M hM => ?_⟩
    have kM := same_upd hM (.lst [.bl false, .bl false, .bl false])
    have eM := at_new (o := .lst [.bl false, .bl false, .bl false]) hM
    have ex3 := kM _ _ ex2
    have eL2 := kM _ _ eL
    generalize upd H4 M (.lst [.bl false, .bl false, .bl false]) = H5 at kM eM ex3 eL2
    refine ⟨L, M, _, _, rfl, rfl, eL2, eM, (by show 6 ≤ sizeLine; decide), fun N hN => ?_⟩
    have kN := same_upd hN (.lst ([.bl false, .bl true, .bl false] ++ [.bl false, .bl false, .bl false]))
    have eN := at_new (o := .lst ([.bl false, .bl true, .bl false] ++ [.bl false, .bl false, .bl false])) hN
    have ex4 := kN _ _ ex3
    generalize upd H5 N (.lst ([.bl false, .bl true, .bl false] ++ [.bl false, .bl false, .bl false])) = H6 at kN eN ex4
    have eN2 : H6 N = some (.lst ([false, true, false, false, false, false].map V.bl)) := eN
    refine ⟨_, rfl, x, "ValueError", true, rfl, ex4, T.i_valueT, _, rfl, iteF ?_⟩
    refine ⟨_, rfl, .inl ⟨rfl, _, .of eN2⟩, N, _, true, rfl, rfl, eN2, rfl, _, rfl, ?_⟩
    refine PySem.W.ite_neg (by decide +kernel) ?_
    refine ⟨(by show 6 ≤ sizeLine; decide), fun R hR => ?_⟩
    have kR := same_upd hR (.lst [.str "NoOrder", .str "NoText", .str "NoWorks", .str "NoRow", .str "NoFault", .str "TooMany"])
    refine ⟨_, rfl, .inl ⟨rfl, _, .of (kR _ _ eN2)⟩, N, _, true, 1, rfl, rfl, kR _ _ eN2, (by decide), rfl, (by decide), R, _, _, _, rfl, rfl, .of upd_same, rfl, ?_⟩
    exact qn _ ((((k1.trans kL).trans kM).trans kN).trans kR)
theorem sc_law_put : FnScope ["desk", "text", "rows", "told"] ["desk", "text"] (defScope s_law_put) := ⟨rfl, rfl, rfl, by decide +kernel, rfl, by decide +kernel, by decide +kernel⟩
theorem ok_law_put (T : Txt K mg t) : FnOk P w K mg base CX0 7 t.f_law_put t.fd_law_put ["desk", "text"] (sp_lput t.x_Desk) := by
  refine T.d_law_put.F.okB sc_law_put (fun vs H Q E h => ?_) (fun cdv A outer s H vs Q E hr h => ?_)
  · obtain ⟨d, zs, rfl, _⟩ := h
    rfl
  obtain ⟨d, zs, rfl, ne, rok, l100, dk, q⟩ := h
  have hu64 := hr.units
  have sl : sizeLine = 16777216 := by decide
  refine ⟨_, (bpss_cons (bps_set (k := 2) sc_law_put.nd rfl (Or.inl rfl) (bpe_bm PySem.F.plainAttrs_str PySem.F.slot_str_split PySem.F.type_str_split mt_splitA (bpv 1) (bpa_cons bpe_str (bpa_nil))))
    (bpss_cons (bps_setC (k := 3) rfl (N := ["row", "desk"]) (n := 1) (cap := [0]) (blk_of rfl rfl) sc_law_put.nd rfl rfl (bpi_list (bpv 2)) (keep_name (by decide)) (fun _ _ _ _ => (bpg_name (k := 0) (show (["row", "desk"] : List Str).Nodup by decide +kernel) rfl (Or.inl rfl))) (fun _ _ _ _ => bpts_nil) (fun _ _ _ _ => (bpe_call (ok_law_told T) (hr.mono (by decide)) rfl T.d_law_told.m T.d_law_told.F.kp T.d_law_told.b .nil pass0 (bpa_cons (bpv 1) ( bpa_cons (bpe_op op_add_str bpe_str (bpv 0)) (bpa_nil))))) rfl)
    (bpss_one (bps_ret (bpe_cmpR (op_eqD hu64) (bpv 3) (bpe_comp rfl (N := ["k"]) (n := 1) (cap := []) (blk_of rfl rfl) (bpi_range1 rfl T.z_range (bpa_cons (bpe_callB call_len_seq rfl T.z_len PySem.boot_len (bpa_cons (bpv 2) (bpa_nil))) (bpa_nil))) (keep_name (by decide)) (fun _ _ _ _ => (bpg_name (k := 0) (show (["k"] : List Str).Nodup by decide +kernel) rfl (Or.inl rfl))) (fun _ _ _ _ => bpts_nil) (fun _ _ _ _ => (bpe_op op_add_str bpe_str (bpe_callTy call_str_int rfl T.z_str PyProof.Rows.boot_str (bpa_cons (bpe_op op_add (bpv 0) bpe_int) (bpa_nil)))))) (nomark _)))))), ?_⟩
  refine ⟨_, rfl, rfl, _, 10, _, rfl, rfl, feedA, by rw [feedA]; decide +kernel, feed_len l100 fun z hz => (rok z hz).2, fun R hR => ?_⟩
  rw [feedJ_cut ne fun z hz h => (rok z hz).1 10 h rfl]
  have kR := same_upd hR (.lst (zs.map V.str))
  have eR := at_new (o := .lst (zs.map V.str)) hR
  have dk1 := dk.on kR
  generalize upd H R (.lst (zs.map V.str)) = H1 at kR eR dk1
  obtain ⟨dx0, r0, a0, hd0, _⟩ := id dk1
  have dR : R ≠ d := ne_of eR hd0 (by intro z; cases z)
  refine ⟨_, rfl, R, rfl, ⟨_, .of eR⟩, fun D hD => comp_list (K := K) (a := R) (xs := zs.map V.str)
    (fun j H4 => SameB d H1 H4 ∧ DkAt t.x_Desk H4 d (zs.take j) ∧ H4 D = some (.lst ((List.range j).map fun k => V.str (Str.ofString "rows " ++ numS ((k + 1 : Nat) : Int))))) ?_ (fun j H4 _ z => .of (z.1 _ _ dR eR)) ?_ ?_⟩
  · exact ⟨(same_upd hD _).b d, dk1.on (same_upd hD _), upd_same⟩
  · rintro j y H4 hy ⟨s4, d4, eD⟩
    rw [List.getElem?_map] at hy
    cases hz : zs[j]? with
    | none => rw [hz] at hy; cases hy
    | some u =>
      rw [hz] at hy
      cases hy
      have lj := (List.getElem?_eq_some_iff.mp hz).1
      obtain ⟨r1, r2⟩ := rok u (List.mem_of_getElem? hz)
      have nD : D ≠ d := fun e => by rw [e, hd0] at hD; cases hD
      have lt : (zs.take j).length = j := by rw [List.length_take]; omega
      refine ⟨_, rfl, _, rfl, _, _, rfl, rfl, ?_, d, .put u, zs.take j, rfl, ⟨r1, r2⟩, d4, by omega, fun H5 s5 e5 => ?_⟩
      · have e : (Str.ofString "put ").length = 4 := by decide +kernel
        rw [e]
        omega
      refine ⟨_, s5 D _ nD eD, big (by rw [List.length_map, List.length_range]; omega), ?_, ?_, ?_⟩
      · exact fun b o nb e => by rw [upd_ne (ne_of_none e hD)]; exact s5 b o nb (s4 b o nb e)
      · have := e5
        rw [List.take_add_one, hz]
        obtain ⟨dx, r, a, h1, h2⟩ := e5
        refine ⟨dx, r, a, by rw [upd_ne (Ne.symm nD)]; exact h1, ?_⟩
        by_cases eq : r = D
        · exfalso
          rw [eq, s5 D _ nD eD] at h2
          have := congrArg List.length (HO.lst.inj (Option.some.inj h2))
          rw [List.length_map, List.length_map, List.length_range, List.length_append, lt] at this
          exact absurd this (by show ¬ (j = j + 1); omega)
        · rw [upd_ne eq]
          exact h2
      · rw [upd_same, List.range_succ, List.map_append, lt]
        rfl
  rintro H4 ⟨s4, d4, eD⟩
  rw [List.length_map] at d4 eD
  rw [List.take_length] at d4
  have eR4 := s4 _ _ dR eR
  refine ⟨_, rfl, _, rfl, R, _, rfl, .inl (.of eR4), _, rfl, by rw [List.length_map]; omega, by rw [List.length_map]; omega, fun F hF => ?_⟩
  rw [List.length_map]
  refine comp_range (fun j H5 => Same H4 H5 ∧ H5 F = some (.lst ((List.range j).map fun k => V.str (Str.ofString "rows " ++ numS ((k + 1 : Nat) : Int)))))
    ⟨same_upd hF _, upd_same⟩ ?_ ?_
  · rintro j H5 hj ⟨s5, eF⟩
    have ej : (0 + (j : Int) + 1) = ((j + 1 : Nat) : Int) := by omega
    refine ⟨_, rfl, _, _, rfl, rfl, _, rfl, ?_, ?_⟩
    · rw [ej]
      exact num_fits (by omega)
    rw [ej]
    refine ⟨_, _, rfl, rfl, ?_, _, eF, big (by rw [List.length_map, List.length_range]; omega), s5.write hF _, ?_⟩
    · have := numS_small (n := j + 1) (by omega)
      rw [len_app] at this
      exact Nat.le_trans this (by decide)
    · rw [upd_same, List.range_succ, List.map_append]
      rfl
  rintro H5 ⟨s5, eF⟩
  have er : ∀ n : Nat, ((List.range n).map fun k => V.str (Str.ofString "rows " ++ numS ((k + 1 : Nat) : Int))) = (rowsI n).map V.str := fun n => by
    unfold rowsI
    rw [List.map_map]
    rfl
  rw [er] at eF eD
  refine ⟨_, _, .lst (.of (s5 _ _ eD)) (reps_strs _), .lst (.of eF) (reps_strs _), rowsI_ok (by omega), rowsI_ok (by omega), fun _ => ?_, fun z => absurd rfl z⟩
  exact q H5 (fun b o nb e => s5 _ _ (s4 b o nb (kR _ _ e))) (d4.on s5)
theorem sc_law_runs : FnScope ["deck", "desk", "works", "turn", "row", "worths", "due"] ["deck", "desk", "works"] (defScope s_law_runs) := ⟨rfl, rfl, rfl, by decide +kernel, rfl, by decide +kernel, by decide +kernel⟩
theorem ok_law_runs (T : Txt K mg t) : FnOk P w K mg base CX0 7 t.f_law_runs t.fd_law_runs ["deck", "desk", "works"] (sp_lruns K t.x_Desk) := by
  refine T.d_law_runs.F.okB sc_law_runs (fun vs H Q E h => ?_) (fun cdv A outer s H vs Q E hr h => ?_)
  · obtain ⟨pd, d, x, n, w, zs, G, rfl, _⟩ := h
    rfl
  obtain ⟨pd, d, x, n, w, zs, G, rfl, hpd, sG, gp, rx, wf, gw, dk, lz, tx, sz, tw, q⟩ := h
  have hu64 := hr.units
  have sl : sizeLine = 16777216 := by decide
  obtain ⟨a, ga, oa, gs, os, rfl, ha, hg, ho, rg, ro⟩ := gates_at rx
  have eo := reps_ints ro
  subst eo
  have i1 := wf.i1
  have i6 := wf.i6
  have o3 := wf.o3
  refine ⟨_, (bpss_cons (bps_for PassesOwn.never rfl (bpi_range1 rfl T.z_range (bpa_cons bpe_int (bpa_nil))) (bpg_name (k := 3) sc_law_runs.nd rfl (Or.inl rfl)) (bpss_cons (bps_set (k := 4) sc_law_runs.nd rfl (Or.inl rfl) (bpe_call (ok_law_row T) (hr.mono (by decide)) rfl T.d_law_row.m T.d_law_row.F.kp T.d_law_row.b .nil pass0 (bpa_cons (bpv 0) ( bpa_cons (bpv 2) (bpa_nil)))))
    (bpss_cons (bps_set (k := 5) sc_law_runs.nd rfl (Or.inr rfl) (bpe_call (ok_law_worths T) (hr.mono (by decide)) rfl T.d_law_worths.m T.d_law_worths.F.kp T.d_law_worths.b .nil pass0 (bpa_cons (bpv 2) ( bpa_cons bpe_dnewT ( bpa_cons (bpv 4) (bpa_nil))))))
    (bpss_cons (bps_set (k := 6) sc_law_runs.nd rfl (Or.inl rfl) (bpe_call (ok_law_figures T) (hr.mono (by decide)) rfl T.d_law_figures.m T.d_law_figures.F.kp T.d_law_figures.b .nil pass0 (bpa_cons (bpe_comp rfl (N := ["wire", "worths"]) (n := 1) (cap := [5]) (blk_of rfl rfl) (bpi_list (bpe_ix ix_tup (bpv 2) bpe_int (fun _ _ => rfl))) (keep_name (by decide)) (fun _ _ _ _ => (bpg_name (k := 0) (show (["wire", "worths"] : List Str).Nodup by decide +kernel) rfl (Or.inl rfl))) (fun _ _ _ _ => bpts_nil) (fun _ _ _ _ => (bpe_ix (ix_listK (K := K)) (bpv 1) (bpv 0) (fun _ _ => rfl)))) (bpa_nil))))
    (bpss_one (bps_if (bpt_cmpR op_ne (bpe_call (ok_law_told T) (hr.mono (by decide)) rfl T.d_law_told.m T.d_law_told.F.kp T.d_law_told.b .nil pass0 (bpa_cons (bpv 1) ( bpa_cons (bpe_op op_add_str bpe_str (bpe_call (ok_law_figures T) (hr.mono (by decide)) rfl T.d_law_figures.m T.d_law_figures.F.kp T.d_law_figures.b .nil pass0 (bpa_cons (bpv 4) (bpa_nil)))) (bpa_nil)))) (bpv 6) (nomark _)) (bpss_one (bps_ret bpe_bl)) bpss_nil))))))
    (bpss_one (bps_ret bpe_bl))), ?_⟩
  refine ⟨8, rfl, by decide, by decide, for_range (n := 8) (fun i σ H3 => ∃ (o3 o4 o5 o6 : Option V) (n3 : Int), σ = [some (.ref pd), some (.ref d), some (.ref a), o3, o4, o5, o6] ∧ SameB pd H H3 ∧ H3 pd = some (.lst [.int n3])) ⟨_, _, _, _, n, rfl, SameB.refl _ _, hpd⟩ ?_ ?_⟩
  · rintro i σ H3 hi ⟨o3, o4, o5, o6, n3, rfl, s3, e3⟩
    have g3 := SameB.same sG gp s3
    refine ⟨_, rfl, _, rfl, pd, a, ga, oa, n3, w.ins, rfl, e3, g3.seqT ha, by omega, i6, fun r row n4 H4 s4 nr er e4 lr br => ?_⟩
    have g4 := SameB.same g3 gp s4
    have s34 := s3.trans s4
    refine ⟨_, rfl, fun dd hdd => ?_⟩
    have kd := same_upd hdd (.dT [])
    refine ⟨_, rfl, _, dd, r, w, row, rfl, rx.mono (g4.trans kd), wf, upd_same, .of (kd _ _ er), lr, br, fun wr H5 s5 nw ew => ?_⟩
    have k5 := kd.trans s5
    have g5 := g4.trans k5
    have lw := wiresV_len w.gates row w.gates.length
    refine ⟨_, rfl, a, _, _, _, rfl, rfl, g5.seqT ha, rfl, oa, rfl, ⟨_, g5.seq ho⟩, fun D hD => comp_list (K := K) (a := oa) (xs := w.outs.map V.int)
      (fun j H6 => Same H5 H6 ∧ H6 D = some (.lst (((w.outs.take j).map fun o => (wiresV w.gates row w.gates.length).getD o.toNat 0).map V.int))) ⟨same_upd hD _, upd_same⟩ (fun j H6 _ z => z.1.seq (g5.seq ho)) ?_ ?_⟩
    · rintro j y H6 hy ⟨s6, eD⟩
      rw [List.getElem?_map] at hy
      cases hz : w.outs[j]? with
      | none => rw [hz] at hy; cases hy
      | some o =>
        rw [hz] at hy
        cases hy
        have lj : j < w.outs.length := (List.getElem?_eq_some_iff.mp hz).1
        have bo := wf.outs o (List.mem_of_getElem? hz)
        refine ⟨_, rfl, _, rfl, wr, _, _, _, rfl, rfl, .of (s6 _ _ ew), at_ints bo.1 (by rw [lw]; omega), ?_⟩
        refine ⟨_, eD, big (by simp; omega), s6.write hD _, ?_⟩
        rw [upd_same, List.take_add_one, hz]
        simp
    rintro H6 ⟨s6, eD⟩
    rw [List.length_map, List.take_length] at eD
    refine ⟨D, _, rfl, .of eD, outs_bits wf lr br, ?_, fun H7 s7 => ?_⟩
    · rw [List.length_map]
      omega
    have k7 := (k5.trans s6).trans s7
    refine ⟨_, rfl, _, rfl, r, row, rfl, .of (k7 _ _ er), br, by omega, fun H8 s8 => ?_⟩
    have k8 := k7.trans s8
    have g8 := g4.trans k8
    refine ⟨_, _, rfl, rfl, ?_, d, .run row, zs, rfl, ⟨br, fun z => by rw [z] at lr; simp at lr; omega, by omega⟩, dk.on g8, lz, tx, sz, .inl ⟨w, tw, wf, lr, gw, fun H9 s9 => ?_⟩⟩
    · have e1 : (Str.ofString "run ").length = 4 := by decide +kernel
      have e2 : (figS row).length = row.length := by
        show (figL row).toArray.size = _
        rw [List.size_toArray]
        exact List.length_map _
      rw [e1, e2]
      omega
    refine ⟨_, rfl, rfl, _, rfl, ?_⟩
    refine PySem.W.ite_neg (fun z => by simp [outsV] at z) ?_
    exact ⟨_, _, _, _, n4, rfl, fun b o nb e => s9 _ _ (k8 _ _ (s34 b o nb e)), s9 _ _ (k8 _ _ e4)⟩
  · rintro σ H3 ⟨o3, o4, o5, o6, n3, rfl, s3, e3⟩
    exact q n3 H3 s3 e3
theorem sc_law : FnScope ["script", "desks", "kept", "cell", "deck", "works", "at", "rows", "k"] ["script"] (defScope s_law) := ⟨rfl, rfl, rfl, by decide +kernel, rfl, by decide +kernel, by decide +kernel⟩
theorem ok_law (T : Txt K mg t) : FnOk P w K mg base CX0 8 t.f_law t.fd_law ["script"] (sp_law K) := by
  refine T.d_law.F.okB sc_law (fun vs H Q E h => ?_) (fun cdv A outer s H vs Q E hr h => ?_)
  · obtain ⟨a, ns, rfl, _⟩ := h
    rfl
  obtain ⟨a, ns, rfl, hS, h63, q⟩ := h
  have hu64 := hr.units
  have sl : sizeLine = 16777216 := by decide
  refine ⟨_, (bpss_cons (bps_set (k := 1) sc_law.nd rfl (Or.inl rfl) (bpe_lst (bpa_cons (bpe_make0 T.mk_Desk (ok_Desk___init__ T) (hr.mono (by decide)) rfl T.g_Desk T.d_Desk___init__.b .nil pass0) ( bpa_cons (bpe_make0 T.mk_Desk (ok_Desk___init__ T) (hr.mono (by decide)) rfl T.g_Desk T.d_Desk___init__.b .nil pass0) (bpa_nil)))))
    (bpss_cons (bps_set (k := 2) sc_law.nd rfl (Or.inl rfl) (bpe_lst (bpa_cons bpe_non ( bpa_cons bpe_non (bpa_nil)))))
    (bpss_cons (bps_for PassesOwn.never rfl (bpi_list (bpe_op op_cat (bpe_lst (bpa_cons (bpe_op op_pow bpe_int bpe_int) (bpa_nil))) (bpe_slice sl_list (bpv 0) bpo_none (bpo_some bpe_int)))) (bpg_name (k := 3) sc_law.nd rfl (Or.inl rfl)) (bpss_cons (bps_set (k := 4) sc_law.nd rfl (Or.inl rfl) (bpe_call (ok_law_deck T) (hr.mono (by decide)) rfl T.d_law_deck.m T.d_law_deck.F.kp T.d_law_deck.b .nil pass0 (bpa_cons (bpv 3) (bpa_nil))))
    (bpss_cons (bps_set (k := 5) sc_law.nd rfl (Or.inl rfl) (bpe_call (ok_law_works T) (hr.mono (by decide)) rfl T.d_law_works.m T.d_law_works.F.kp T.d_law_works.b .nil pass0 (bpa_cons (bpv 4) ( bpa_cons bpe_int (bpa_nil)))))
    (bpss_cons (bps_set (k := 6) sc_law.nd rfl (Or.inl rfl) (bpe_call (ok_law_take T) (hr.mono (by decide)) rfl T.d_law_take.m T.d_law_take.F.kp T.d_law_take.b .nil pass0 (bpa_cons (bpv 4) ( bpa_cons bpe_int (bpa_nil)))))
    (bpss_cons (bps_set (k := 7) sc_law.nd rfl (Or.inl rfl) (bpe_bm PySem.F.plainAttrs_str PySem.F.slot_str_split PySem.F.type_str_split mt_splitA (bpe_call (ok_law_text T) (hr.mono (by decide)) rfl T.d_law_text.m T.d_law_text.F.kp T.d_law_text.b .nil pass0 (bpa_cons (bpv 5) (bpa_nil))) (bpa_cons bpe_str (bpa_nil))))
    (bpss_cons (bps_if (bPW_pt (bpw_or (bpt_cmpR op_ne (bpe_call (ok_law_told T) (hr.mono (by decide)) rfl T.d_law_told.m T.d_law_told.F.kp T.d_law_told.b .nil pass0 (bpa_cons (bpe_ix ix_list (bpv 1) (bpv 6) (fun _ _ => rfl)) ( bpa_cons bpe_str (bpa_nil)))) bpe_str (nomark _)) (bpw_or1 (bpt_not (bpt_val (bpe_call (ok_law_put T) (hr.mono (by decide)) rfl T.d_law_put.m T.d_law_put.F.kp T.d_law_put.b .nil pass0 (bpa_cons (bpe_ix ix_list (bpv 1) (bpv 6) (fun _ _ => rfl)) ( bpa_cons (bpe_bm PySem.F.plainAttrs_str PySem.F.slot_str_join PySem.F.type_str_join mt_joinA bpe_str (bpa_cons (bpe_slice sl_list (bpv 7) bpo_none (bpo_some (bpe_un un_neg bpe_int))) (bpa_nil))) (bpa_nil))))))))) (bpss_one (bps_ret bpe_bl)) bpss_nil)
    (bpss_cons (bps_if (bpt_cmpR op_ne (bpe_call (ok_law_told T) (hr.mono (by decide)) rfl T.d_law_told.m T.d_law_told.F.kp T.d_law_told.b .nil pass0 (bpa_cons (bpe_ix ix_list (bpv 1) (bpv 6) (fun _ _ => rfl)) ( bpa_cons (bpe_op op_add_str bpe_str (bpe_op op_mulC bpe_str (bpe_ix ix_tup (bpv 5) bpe_int (fun _ _ => rfl)))) (bpa_nil)))) bpe_str (nomark _)) (bpss_one (bps_ret bpe_bl)) bpss_nil)
    (bpss_cons (bps_if (bPW_pt (bpw_or (bpt_cmpR op_ne (bpe_call (ok_law_told T) (hr.mono (by decide)) rfl T.d_law_told.m T.d_law_told.F.kp T.d_law_told.b .nil pass0 (bpa_cons (bpe_ix ix_list (bpv 1) (bpv 6) (fun _ _ => rfl)) ( bpa_cons (bpe_op op_add_str bpe_str (bpe_ix ix_list (bpv 7) (bpe_un un_neg bpe_int) (fun _ _ => rfl))) (bpa_nil)))) (bpe_op op_add_str bpe_str (bpe_callTy call_str_int rfl T.z_str PyProof.Rows.boot_str (bpa_cons (bpe_callB call_len_seq rfl T.z_len PySem.boot_len (bpa_cons (bpv 7) (bpa_nil))) (bpa_nil)))) (nomark _)) (bpw_or1 (bpt_not (bpt_val (bpe_call (ok_law_runs T) (hr.mono (by decide)) rfl T.d_law_runs.m T.d_law_runs.F.kp T.d_law_runs.b .nil pass0 (bpa_cons (bpv 4) ( bpa_cons (bpe_ix ix_list (bpv 1) (bpv 6) (fun _ _ => rfl)) ( bpa_cons (bpv 5) (bpa_nil)))))))))) (bpss_one (bps_ret bpe_bl)) bpss_nil)
    (bpss_cons (bps_asg (bpv 5) (bpg_sub (bpv 2) (bpv 6) set_list))
    (bpss_cons (bps_for PassesOwn.never rfl (bpi_range1 rfl T.z_range (bpa_cons bpe_int (bpa_nil))) (bpg_name (k := 8) sc_law.nd rfl (Or.inl rfl)) (bpss_one (bps_if (bPW_pt (bpw_and (bpt_cmp (bpc_notN (bpe_ix ix_list (bpv 2) (bpv 8) (fun _ _ => rfl)))) (bpw_and1 (bpt_not (bpt_val (bpe_call (ok_law_runs T) (hr.mono (by decide)) rfl T.d_law_runs.m T.d_law_runs.F.kp T.d_law_runs.b .nil pass0 (bpa_cons (bpv 4) ( bpa_cons (bpe_ix ix_list (bpv 1) (bpv 8) (fun _ _ => rfl)) ( bpa_cons (bpe_ix ix_list (bpv 2) (bpv 8) (fun _ _ => rfl)) (bpa_nil)))))))))) (bpss_one (bps_ret bpe_bl)) bpss_nil)))
    (bpss_one (bps_if (bpt_cmpR op_eq (bpe_call (ok_law_take T) (hr.mono (by decide)) rfl T.d_law_take.m T.d_law_take.F.kp T.d_law_take.b .nil pass0 (bpa_cons (bpv 4) ( bpa_cons bpe_int (bpa_nil)))) bpe_int (nomark _)) (bpss_cons (bps_asg bpe_non (bpg_sub (bpv 2) (bpv 6) set_list))
    (bpss_cons (bps_if (bpt_cmpR op_ne (bpe_call (ok_law_told T) (hr.mono (by decide)) rfl T.d_law_told.m T.d_law_told.F.kp T.d_law_told.b .nil pass0 (bpa_cons (bpe_ix ix_list (bpv 1) (bpv 6) (fun _ _ => rfl)) ( bpa_cons bpe_str (bpa_nil)))) (bpe_op op_add_str bpe_str (bpe_callTy call_str_int rfl T.z_str PyProof.Rows.boot_str (bpa_cons (bpe_op op_add (bpe_callB call_len_seq rfl T.z_len PySem.boot_len (bpa_cons (bpv 7) (bpa_nil))) bpe_int) (bpa_nil)))) (nomark _)) (bpss_one (bps_ret bpe_bl)) bpss_nil)
    (bpss_one (bps_if (bpt_cmpR op_ne (bpe_call (ok_law_told T) (hr.mono (by decide)) rfl T.d_law_told.m T.d_law_told.F.kp T.d_law_told.b .nil pass0 (bpa_cons (bpe_ix ix_list (bpv 1) (bpv 6) (fun _ _ => rfl)) ( bpa_cons (bpe_op op_add_str bpe_str (bpe_op op_mulC bpe_str (bpe_ix ix_tup (bpv 5) bpe_int (fun _ _ => rfl)))) (bpa_nil)))) bpe_str (nomark _)) (bpss_one (bps_ret bpe_bl)) bpss_nil)))) bpss_nil))))))))))))
    (bpss_one (bps_ret bpe_bl))))), ?_⟩
  refine fun d0 dx0 n0 nx0 ne0 => ⟨d0, dx0, rfl, upd_same, fun H1 s1 e1 => ⟨rfl, ?_⟩⟩
  have k1 : Same H H1 := fun b o e => s1 b o (ne_of_none e n0) (by rw [upd_ne (ne_of_none e n0), upd_ne (ne_of_none e nx0)]; exact e)
  refine fun d1 dx1 n1 nx1 ne1 => ⟨d1, dx1, rfl, upd_same, fun H2 s2 e2 => ⟨rfl, ?_⟩⟩
  have k2 : Same H1 H2 := fun b o e => s2 b o (ne_of_none e n1) (by rw [upd_ne (ne_of_none e n1), upd_ne (ne_of_none e nx1)]; exact e)
  have e1' := e1.on k2
  refine ⟨(by show 2 ≤ sizeLine; decide), fun DL hDL => ?_⟩
  have kD := same_upd hDL (.lst [.ref d0, .ref d1])
  have eDL := at_new (o := .lst [.ref d0, .ref d1]) hDL
  have e1' := e1'.on kD
  have e2 := e2.on kD
  have kHD := (k1.trans k2).trans kD
  generalize upd H2 DL (.lst [.ref d0, .ref d1]) = H3 at kD eDL e1' e2 kHD
  refine ⟨(by show 2 ≤ sizeLine; decide), fun KL hKL => ?_⟩
  have kK := same_upd hKL (.lst [.non, .non])
  have eKL := at_new (o := .lst [.non, .non]) hKL
  have e1' := e1'.on kK
  have e2 := e2.on kK
  have eDL := kK _ _ eDL
  have kHK := kHD.trans kK
  generalize upd H3 KL (.lst [.non, .non]) = H4 at kK eKL e1' e2 eDL kHK
  refine ⟨_, _, rfl, rfl, ⟨by decide, by decide, by decide⟩, (by show 1 ≤ sizeLine; decide), fun p1 h1 => ?_⟩
  have t1 := same_upd h1 (.lst [.int (10 ^ (18 : Int).toNat)])
  refine ⟨_, rfl, _, rfl, a, _, rfl, (kHK.trans t1).seq hS, fun p2 h2 => ?_⟩
  obtain ⟨ms, em, lm⟩ := cutI ns none (some 4)
  have p12 : p1 ≠ p2 := ne_of_none upd_same h2
  have t2 := same_upd h2 (.lst (cutV (ns.map V.int) none (some 4)))
  refine ⟨p1, p2, _, _, rfl, rfl, by rw [upd_ne p12, upd_same], upd_same, bigE (by rw [List.length_singleton, em, List.length_map]; omega), fun p3 h3 => ?_⟩
  have t12 := t1.trans t2
  generalize upd (upd H4 p1 (.lst [.int (10 ^ (18 : Int).toNat)])) p2 (.lst (cutV (ns.map V.int) none (some 4))) = H5 at h3 t12
  rw [em]
  have t3 := same_upd h3 (.lst ([.int (10 ^ (18 : Int).toNat)] ++ ms.map V.int))
  have ep3 := at_new (o := .lst ([.int (10 ^ (18 : Int).toNat)] ++ ms.map V.int)) h3
  have t4 := t12.trans t3
  have e1' := e1'.on t4
  have e2 := e2.on t4
  have eDL := t4 _ _ eDL
  have np3 : ∀ {b : Addr} {o : HO}, H4 b = some o → b ≠ p3 := fun e => ne_of_none (t12 _ _ e) h3
  have p3K : p3 ≠ KL := Ne.symm (np3 eKL)
  have eKL := t4 _ _ eKL
  generalize upd H5 p3 (.lst ([.int (10 ^ (18 : Int).toNat)] ++ ms.map V.int)) = H6 at t3 ep3 t4 e1' e2 eDL eKL
  have d01 : d0 ≠ d1 := by
    obtain ⟨_, _, _, z, _⟩ := e1
    exact ne_of_none z n1
  obtain ⟨x0, r0, a0, i0, l0⟩ := e1'
  obtain ⟨x1, r1, a1, i1, l1⟩ := e2
  have d0K : d0 ≠ KL := ne_of i0 eKL (by intro z; cases z)
  have d1K : d1 ≠ KL := ne_of i1 eKL (by intro z; cases z)
  have lstM : ∀ {b : Addr} {xs : List V}, H6 b = some (.lst xs) → b ≠ KL → b ∉ [KL, d0, d1] := fun {b xs} e nb z => by
    rcases List.mem_cons.mp z with z | z
    · exact nb z
    · rcases List.mem_cons.mp z with z | z
      · rw [z, i0] at e; cases e
      · rw [List.mem_singleton.mp z, i1] at e; cases e
  have off0 : Off [KL, d0, d1] (outH [KL, d0, d1] H6) H6 := off_out fun m hm => by
    rcases List.mem_cons.mp hm with rfl | hm
    · exact ⟨_, eKL⟩
    · rcases List.mem_cons.mp hm with rfl | hm
      · exact ⟨_, i0⟩
      · rw [List.mem_singleton.mp hm]; exact ⟨_, i1⟩
  have gDL := out_get (lstM eDL (fun z => by rw [z, eKL] at eDL; cases eDL)) eDL
  have gp3 := out_get (lstM ep3 p3K) ep3
  have gr0 := out_get (lstM l0 (fun z => by rw [z, eKL] at l0; cases l0)) l0
  have gr1 := out_get (lstM l1 (fun z => by rw [z, eKL] at l1; cases l1)) l1
  generalize outH [KL, d0, d1] H6 = G0 at off0 gDL gp3 gr0 gr1
  refine ⟨p3, rfl, ⟨_, .of ep3⟩, for_list (K := K) (a := p3) (xs := [.int (10 ^ (18 : Int).toNat)] ++ ms.map V.int)
    (fun i σ H7 => ∃ (o3 o4 o5 o6 o7 o8 : Option V) (G : Hp) (v : Nat → V) (z : Nat → List Str), σ = [some (.ref a), some (.ref DL), some (.ref KL), o3, o4, o5, o6, o7, o8] ∧ Off [KL, d0, d1] G H7 ∧ Same G0 G ∧ H7 KL = some (.lst [v 0, v 1]) ∧
      ∀ k, k < 2 → DkG t.x_Desk G H7 (if k = 0 then d0 else d1) (z k) ∧ (z k).length ≤ 20 ∧ KeptG K G (v k) (z k))
    ⟨_, _, _, _, _, _, G0, fun _ => .non, fun _ => [], rfl, off0, Same.refl _, eKL, fun k hk => ?_⟩ (fun i σ H7 _ z => by obtain ⟨_, _, _, _, _, _, G, _, _, _, f, sG, _⟩ := z; exact .of (f.same _ _ (sG _ _ gp3))) ?_ ?_⟩
  · refine ⟨?_, Nat.zero_le _, .inl rfl⟩
    rcases (by omega : k = 0 ∨ k = 1) with rfl | rfl
    · exact ⟨x0, r0, a0, i0, gr0⟩
    · exact ⟨x1, r1, a1, i1, gr1⟩
  · rintro i x σ H7 hx ⟨o3, o4, o5, o6, o7, o8, G, v, z, rfl, f0, s0, eK7, ks⟩
    obtain ⟨cc, rfl⟩ : ∃ cc, x = .int cc := by
      have hm := List.mem_of_getElem? hx
      rcases List.mem_append.mp hm with hm | hm
      · exact ⟨_, List.mem_singleton.mp hm⟩
      · obtain ⟨y, _, e⟩ := List.mem_map.mp hm
        exact ⟨y, e.symm⟩
    refine ⟨_, rfl, cc, rfl, fun pd n hpd => ?_⟩
    have f1 := f0.opn hpd (.lst [.int n])
    refine ⟨_, rfl, pd, n, 12, rfl, upd_same, by decide, fun w rw_ m G' H8 wf h3 sb8 e8 sG' gp' gn rr => ?_⟩
    have f2 := f1.sb (.head _) sb8 e8
    have g2 : Off (pd :: [KL, d0, d1]) G' H8 := by
      refine ⟨sG', fun b hb => ?_, f2.there⟩
      cases e : G' b with
      | none => rfl
      | some o =>
        obtain ⟨o2, h2⟩ := f1.there b hb
        rw [gn b o e] at h2
        cases h2
    obtain ⟨G2, f3, j1, j2⟩ := f2.join g2
    have wf2 : WF 20 w := wf_up wf (by decide)
    refine ⟨_, rfl, pd, m, 2, rfl, e8, by decide, by decide, fun at_ m2 at0 at1 => ?_⟩
    obtain ⟨k0, rfl⟩ := Int.eq_ofNat_of_zero_le at0
    have k02 : k0 < 2 := by omega
    have f4 := f3.write (.head _) (.lst [.int m2])
    have s79 : SameB pd H7 (upd H8 pd (.lst [.int m2])) := fun b o nb e => by
      rw [upd_ne nb]
      exact sb8 b o nb (by rw [upd_ne nb]; exact e)
    have e9 : (upd H8 pd (.lst [.int m2])) pd = some (.lst [.int m2]) := upd_same
    generalize upd H8 pd (.lst [.int m2]) = H9 at f4 s79 e9
    refine ⟨_, rfl, _, w, rfl, (rr.mono j2).mono f4.same, wf2, fun HA sA => ?_⟩
    have eT : textW w = feedJ (rowsS w) := (join_text w).symm
    obtain ⟨rsm, rl14⟩ := rows_little wf h3
    have short : ShortR (rowsS w) := rsm
    have rne : rowsS w ≠ [] := fun y => by rw [rowsS_eq] at y; simp at y
    refine ⟨rfl, _, 10, _, rfl, rfl, feedA, by rw [feedA]; decide +kernel, ?_, fun R hR => ?_⟩
    · rw [eT]
      exact feed_len (by omega) fun y hy => by have := (rsm y hy).1; omega
    rw [eT, feedJ_cut rne (rowsS_clean wf2)]
    have f5 := f4.grow sA
    have f6 := f5.lay hR (.lst ((rowsS w).map V.str))
    have jR := f5.add hR (.lst ((rowsS w).map V.str))
    have gR : (upd G2 R (.lst ((rowsS w).map V.str))) R = some (.lst ((rowsS w).map V.str)) := upd_same
    have s7B : SameB pd H7 (upd HA R (.lst ((rowsS w).map V.str))) := s79.trans (((sA.trans (same_upd hR _))).b pd)
    have eB : (upd HA R (.lst ((rowsS w).map V.str))) pd = some (.lst [.int m2]) := same_upd hR _ _ _ (sA _ _ e9)
    have gw := (rr.mono j2).mono jR
    have j3 := (s0.trans j1).trans jR
    have j4 := j1.trans jR
    generalize upd G2 R (.lst ((rowsS w).map V.str)) = G3 at f6 jR gR gw j3 j4
    generalize upd HA R (.lst ((rowsS w).map V.str)) = HB at f6 s7B eB
    have npd : ∀ {b : Addr} {o : HO}, H7 b = some o → b ≠ pd := fun e => ne_of_none e hpd
    have dM : ∀ k : Nat, k < 2 → (if k = 0 then d0 else d1) ∈ pd :: [KL, d0, d1] := fun k _ => by split <;> simp
    have dkB : ∀ k : Nat, k < 2 → DkAt t.x_Desk HB (if k = 0 then d0 else d1) (z k) := fun k hk => by
      obtain ⟨⟨dx, r, a, h1, h2⟩, _⟩ := ks k hk
      exact ⟨dx, r, a, s7B _ _ (npd h1) h1, f6.same _ _ (j4 _ _ h2)⟩
    have eKB : HB KL = some (.lst [v 0, v 1]) := s7B _ _ (npd eK7) eK7
    have ix : ∀ k : Nat, k < 2 → atI [V.ref d0, V.ref d1] (k : Int) = some (.ref (if k = 0 then d0 else d1)) := fun k hk => by
      rcases (by omega : k = 0 ∨ k = 1) with rfl | rfl <;> rfl
    have gDL3 := j3 _ _ gDL
    obtain ⟨d, hd⟩ : ∃ d, d = if k0 = 0 then d0 else d1 := ⟨_, rfl⟩
    have dMk : d ∈ pd :: [KL, d0, d1] := by rw [hd]; exact dM k0 k02
    have ixd : atI [V.ref d0, V.ref d1] (k0 : Int) = some (.ref d) := by rw [hd]; exact ix k0 k02
    have dk0 : DkAt t.x_Desk HB d (z k0) := by rw [hd]; exact dkB k0 k02
    have z0 := (ks k0 k02).2.1
    refine ⟨_, rfl, _, rfl, DL, _, _, _, rfl, rfl, .of (f6.same _ _ gDL3), ixd, d, .clear, z k0, rfl, trivial, dk0, by omega, fun HC sC eC => ?_⟩
    refine ⟨rfl, _, rfl, ?_⟩
    refine PySem.W.ite_neg (by decide +kernel) ?_
    obtain ⟨cx, cr, ca, ci, cl⟩ := id eC
    have f7 := f6.sb dMk sC ci
    refine ⟨_, rfl, _, rfl, DL, _, _, _, rfl, rfl, .of (f7.same _ _ gDL3), ixd, ?_⟩
    have eRS : (rowsS w).map V.str = (rowsA w).map V.str ++ [.str (txtW ⟨"out", w.outs⟩)] := by rw [rowsS_eq, List.map_append]; rfl
    refine ⟨rfl, _, rfl, _, rfl, _, rfl, R, _, rfl, .of (f7.same _ _ gR), fun L hL => ?_⟩
    rw [eRS, cut_lastV]
    have kL := same_upd hL (.lst ((rowsA w).map V.str))
    have eL := at_new (o := .lst ((rowsA w).map V.str)) hL
    have eC := eC.on kL
    have f8 := f7.grow kL
    have sL : SameB d HB (upd HC L (.lst ((rowsA w).map V.str))) := sC.trans (kL.b d)
    generalize upd HC L (.lst ((rowsA w).map V.str)) = HD at kL eL eC f8 sL
    have shA : ShortR (rowsA w) := fun y hy => rsm y (by rw [rowsS_eq]; exact List.mem_append_left _ hy)
    have lA : (rowsA w).length ≤ 13 := by rw [rowsS_eq, List.length_append, List.length_singleton] at rl14; omega
    have nA : rowsA w ≠ [] := fun y => by cases y
    obtain ⟨txA, szA⟩ := short_tx shA (by omega)
    refine ⟨_, L, rowsA w, rfl, rfl, eL, ?_, ?_⟩
    · rw [feedA]
      show _ + _ * 1 ≤ 100000
      omega
    refine ⟨d, rowsA w, rfl, nA, fun y hy => ⟨fun c hc => ((shA y hy).2 c hc).1, by have := (shA y hy).1; omega⟩, by omega, eC, fun HE sE eE => ?_⟩
    refine ⟨_, rfl, ?_⟩
    refine PySem.W.ite_neg (by decide) ?_
    obtain ⟨_, _, _, ciE, _⟩ := id eE
    have f9 := f8.sb dMk sE ciE
    have sBE := sL.trans sE
    obtain ⟨_, ga, oa, gs, os, er, ha, _, _, _, _⟩ := gates_at gw
    cases er
    have i1 := wf.i1
    have i6 := wf.i6
    have zne : List.replicate w.ins.toNat (0 : Int) ≠ [] := fun y => by
      have := congrArg List.length y
      rw [List.length_replicate] at this
      exact absurd this (by show ¬ w.ins.toNat = 0; omega)
    have zl : (List.replicate w.ins.toNat (0 : Int)).length ≤ 100 := by rw [List.length_replicate]; omega
    refine ⟨_, rfl, _, rfl, DL, _, _, _, rfl, rfl, .of (f9.same _ _ gDL3), ixd, _, rfl, rw_, _, _, _, rfl, rfl, f9.same.seqT ha, rfl, _, 48, w.ins, rfl, zeroA, rfl, i1, by omega, _, _, rfl, rfl, run_len (by omega), ?_⟩
    refine ⟨d, .run (List.replicate w.ins.toNat 0), rowsA w, by show _ = [V.ref d, V.str (Str.ofString "run " ++ figS _)]; rw [fig_zero]; rfl, ⟨bits_zero _, zne, zl⟩, eE, by omega, txA, szA, .inr ⟨none_cut wf2, fun HF sF => ?_⟩⟩
    refine ⟨rfl, _, rfl, ?_⟩
    refine PySem.W.ite_neg (not_ne rfl) ?_
    have fA := f9.grow sF
    have eF := eE.on sF
    have sBF := sBE.trans (sF.b d)
    have lastOk : (∀ c ∈ (txtW ⟨"out", w.outs⟩).cps.toList, c ≠ 10) ∧ (txtW ⟨"out", w.outs⟩).length ≤ 600 := by
      have := rsm (txtW ⟨"out", w.outs⟩) (by rw [rowsS_eq]; exact List.mem_append_right _ (.head _))
      exact ⟨fun c hc => (this.2 c hc).1, by have := this.1; omega⟩
    have lrs : ((rowsS w).map V.str).length = (rowsA w).length + 1 := by rw [List.length_map, rowsS_eq, List.length_append, List.length_singleton]
    refine ⟨_, rfl, _, rfl, DL, _, _, _, rfl, rfl, .of (fA.same _ _ gDL3), ixd, _, rfl, _, rfl, R, _, _, _, rfl, rfl, .of (fA.same _ _ gR), atI_lastD (v := .str (txtW ⟨"out", w.outs⟩)) (by rw [eRS, List.getLast?_concat]), _, _, rfl, rfl, ?_, ?_⟩
    · have e4 : (Str.ofString "put ").length = 4 := by decide +kernel
      have := lastOk.2
      rw [e4]
      omega
    refine ⟨d, .put (txtW ⟨"out", w.outs⟩), rowsA w, rfl, lastOk, eF, by omega, fun HG sG eG => ?_⟩
    obtain ⟨_, _, _, ciG, _⟩ := id eG
    have fB := fA.sb dMk sG ciG
    have sBG := sBF.trans sG
    rw [← rowsS_eq] at eG
    refine ⟨_, rfl, R, _, rfl, .inl (.of (fB.same _ _ gR)), _, rfl, ?_, ?_⟩
    · rw [lrs]
      exact num_fits (by omega)
    rw [lrs]
    refine ⟨_, _, rfl, rfl, ?_, rfl, _, rfl, ?_⟩
    · have := numS_small (n := (rowsA w).length + 1) (by omega)
      rw [len_app] at this
      exact Nat.le_trans this (by decide)
    refine PySem.W.ite_neg (not_ne rfl) ?_
    obtain ⟨txS, szS⟩ := short_tx short (by omega)
    have dpd : d ≠ pd := by
      obtain ⟨_, _, _, y, _⟩ := id dk0
      intro e
      rw [e, eB] at y
      cases y
    have pdG : HG pd = some (.lst [.int m2]) := sBG _ _ (Ne.symm dpd) eB
    refine ⟨_, rfl, _, rfl, _, rfl, DL, _, _, _, rfl, rfl, .of (fB.same _ _ gDL3), ixd, _, rfl, ?_⟩
    refine ⟨pd, d, _, m2, w, rowsS w, outH [pd] HG, rfl, pdG, out_sub.1, out_sub.2, gw.mono (out_same fB.same (fB.out pd (.head _))), wf2, wf_good wf2, eG.hole pdG, by omega, txS, szS, told_rows wf2, fun n5 HH sH eH => ?_⟩
    refine ⟨_, rfl, ?_⟩
    refine PySem.W.ite_neg (by decide) ?_
    have fC := fB.sb (.head _) sH eH
    have eGH := eG.sb sH dpd pdG strs_int
    have KLpd : KL ≠ pd := npd eK7
    have KLd : KL ≠ d := by rw [hd]; split; exact Ne.symm d0K; exact Ne.symm d1K
    have dkne : ∀ k : Nat, k < 2 → k ≠ k0 → (if k = 0 then d0 else d1) ≠ d := fun k hk nk => by
      rw [hd]
      rcases (by omega : k = 0 ∨ k = 1) with rfl | rfl
      · rw [if_pos rfl, if_neg (by omega)]; exact d01
      · rw [if_neg (by decide), if_pos (by omega)]; exact Ne.symm d01
    have dkK : ∀ k : Nat, (if k = 0 then d0 else d1) ≠ KL := fun k => by split; exact d0K; exact d1K
    have dkpd : ∀ k : Nat, k < 2 → (if k = 0 then d0 else d1) ≠ pd := fun k hk => by
      obtain ⟨⟨_, _, _, y, _⟩, _⟩ := ks k hk
      exact npd y
    have dkH : ∀ k : Nat, k < 2 → DkAt t.x_Desk HH (if k = 0 then d0 else d1) (if k = k0 then rowsS w else z k) := fun k hk => by
      by_cases e : k = k0
      · rw [if_pos e, e, ← hd]
        exact eGH
      · rw [if_neg e]
        obtain ⟨_, _, _, y, _⟩ := id dk0
        exact ((dkB k hk).sb sBG (dkne k hk e) y (fun c => by cases c)).sb sH (dkpd k hk) pdG strs_int
    have eKH : HH KL = some (.lst [v 0, v 1]) := sH _ _ KLpd (sBG _ _ KLd eKB)
    have v0s : ∀ y, v 0 ≠ .str y := fun y => (ks 0 (by decide)).2.2.str y
    have setK : ∀ u : V, [v 0, v 1].set k0 u = [if 0 = k0 then u else v 0, if 1 = k0 then u else v 1] := fun u => by
      rcases (by omega : k0 = 0 ∨ k0 = 1) with rfl | rfl <;> rfl
    have ixK : ∀ u u' : V, ixN [u, u'].length (k0 : Int) = some k0 := fun u u' => by
      rcases (by omega : k0 = 0 ∨ k0 = 1) with rfl | rfl <;> rfl
    have KLM : KL ∈ pd :: [KL, d0, d1] := by simp
    have fin : ∀ (HZ : Hp) (u : V) (zz : List Str), Off (pd :: [KL, d0, d1]) G3 HZ → HZ KL = some (.lst [if 0 = k0 then u else v 0, if 1 = k0 then u else v 1]) → (∀ k : Nat, k < 2 → DkAt t.x_Desk HZ (if k = 0 then d0 else d1) (if k = k0 then zz else z k)) → zz.length ≤ 20 → KeptG K G3 u zz →
        ∃ (G : Hp) (v : Nat → V) (z : Nat → List Str), Off [KL, d0, d1] G HZ ∧ Same G0 G ∧ HZ KL = some (.lst [v 0, v 1]) ∧ ∀ k, k < 2 → DkG t.x_Desk G HZ (if k = 0 then d0 else d1) (z k) ∧ (z k).length ≤ 20 ∧ KeptG K G (v k) (z k) := fun HZ u zz fz ez dz lz kz => by
      have g3z : Same G3 (outH [KL, d0, d1] HZ) := fun b o e => out_get (fun y => by rw [fz.out b (.tail _ y)] at e; cases e) (fz.same _ _ e)
      have us : ∀ y, (if 0 = k0 then u else v 0) ≠ .str y := fun y => by
        split
        · exact kz.str y
        · exact v0s y
      refine ⟨outH [KL, d0, d1] HZ, fun k => if k = k0 then u else v k, fun k => if k = k0 then zz else z k, off_out fz.drop.there, j3.trans g3z, ez, fun k hk => ⟨?_, ?_, ?_⟩⟩
      · obtain ⟨dx, r, a, h1, h2⟩ := dz k hk
        refine ⟨dx, r, a, h1, out_get (fun y => ?_) h2⟩
        rcases List.mem_cons.mp y with y | y
        · rw [y, ez] at h2
          exact strs_kept us (Option.some.inj h2)
        · obtain ⟨_, _, _, q0, _⟩ := dz 0 (by decide)
          obtain ⟨_, _, _, q1, _⟩ := dz 1 (by decide)
          rcases List.mem_cons.mp y with y | y
          · rw [y] at h2; exact absurd (q0.symm.trans h2) (fun c => by cases c)
          · rw [List.mem_singleton.mp y] at h2; exact absurd (q1.symm.trans h2) (fun c => by cases c)
      · show (if k = k0 then zz else z k).length ≤ 20
        split
        · exact lz
        · exact (ks k hk).2.1
      · show KeptG K _ (if k = k0 then u else v k) (if k = k0 then zz else z k)
        split
        · exact kz.mono g3z
        · exact ((ks k hk).2.2.mono j4).mono g3z
    have keptW : KeptG K G3 (.ref rw_) (rowsS w) := .inr ⟨w, rw_, rfl, gw, wf, h3, rfl⟩
    refine ⟨_, rfl, _, rfl, _, rfl, KL, _, _, k0, rfl, rfl, eKH, ixK _ _, ?_⟩
    rw [setK]
    have fD := fC.write KLM (.lst [if 0 = k0 then .ref rw_ else v 0, if 1 = k0 then .ref rw_ else v 1])
    have eKI : (upd HH KL (.lst [if 0 = k0 then .ref rw_ else v 0, if 1 = k0 then .ref rw_ else v 1])) KL = some (.lst [if 0 = k0 then .ref rw_ else v 0, if 1 = k0 then .ref rw_ else v 1]) := upd_same
    have sHI : SameB KL HH (upd HH KL (.lst [if 0 = k0 then .ref rw_ else v 0, if 1 = k0 then .ref rw_ else v 1])) := fun b o nb e => by rw [upd_ne nb]; exact e
    have dkI := fun (k : Nat) (hk : k < 2) => (dkH k hk).sb sHI (dkK k) eKH (strs_kept v0s)
    have pdI : (upd HH KL (.lst [if 0 = k0 then .ref rw_ else v 0, if 1 = k0 then .ref rw_ else v 1])) pd = some (.lst [.int n5]) := sHI _ _ (Ne.symm KLpd) eH
    generalize upd HH KL (.lst [if 0 = k0 then .ref rw_ else v 0, if 1 = k0 then .ref rw_ else v 1]) = HI at fD eKI dkI pdI
    refine ⟨2, rfl, by decide, by decide, for_range (n := 2) (fun i σ HJ => ∃ (p8 : Option V) (n6 : Int), σ = [some (.ref a), some (.ref DL), some (.ref KL), some (.int cc), some (.ref pd), some (.ref rw_), some (.int (k0 : Int)), some (.ref R), p8] ∧ SameB pd HI HJ ∧ HJ pd = some (.lst [.int n6]))
      ⟨_, n5, rfl, SameB.refl _ _, pdI⟩ ?_ ?_⟩
    · rintro j σ HJ hj ⟨p8, n6, rfl, sJ, eJ⟩
      have fE := fD.sb (.head _) sJ eJ
      have eKJ := sJ _ _ KLpd eKI
      have ixV : atI [if 0 = k0 then V.ref rw_ else v 0, if 1 = k0 then V.ref rw_ else v 1] (0 + (j : Int)) = some (if j = k0 then .ref rw_ else v j) := by
        rcases (by omega : j = 0 ∨ j = 1) with rfl | rfl <;> rfl
      have keptJ : KeptG K G3 (if j = k0 then .ref rw_ else v j) (if j = k0 then rowsS w else z j) := by
        by_cases e : j = k0
        · rw [if_pos e, if_pos e]; exact keptW
        · rw [if_neg e, if_neg e]; exact (ks j hj).2.2.mono j4
      have dkJ := (dkI j hj).sb sJ (dkpd j hj) pdI strs_int
      have ixD : atI [V.ref d0, V.ref d1] (0 + (j : Int)) = some (.ref (if j = 0 then d0 else d1)) := by rw [Int.zero_add]; exact ix j hj
      generalize (if j = k0 then V.ref rw_ else v j) = vj at ixV keptJ
      generalize (if j = k0 then rowsS w else z j) = zj at keptJ dkJ
      refine ⟨_, rfl, _, rfl, KL, _, _, _, rfl, rfl, .of eKJ, ixV, _, rfl, ?_⟩
      rcases keptJ with rfl | ⟨wj, rj, rfl, gj, wfj, oj, rfl⟩
      · refine PySem.W.ite_neg (by decide) ?_
        refine PySem.W.ite_neg (by decide) ?_
        exact ⟨_, n6, rfl, sJ, eJ⟩
      · refine PySem.W.ite_pos (by rw [decide_eq_false (fun c => by cases c)]; rfl) ?_
        obtain ⟨rsj, lj14⟩ := rows_little wfj oj
        obtain ⟨txj, szj⟩ := short_tx (zs := rowsS wj) rsj (by omega)
        have wfj2 : WF 20 wj := wf_up wfj (by decide)
        refine ⟨_, rfl, _, rfl, _, rfl, DL, _, _, _, rfl, rfl, .of (fE.same _ _ gDL3), ixD, _, rfl, _, rfl, KL, _, _, _, rfl, rfl, .of eKJ, ixV, ?_⟩
        refine ⟨pd, _, _, n6, wj, rowsS wj, outH [pd] HJ, rfl, eJ, out_sub.1, out_sub.2, gj.mono (out_same fE.same (fE.out pd (.head _))), wfj2, wf_good wfj2, dkJ.hole eJ, by omega, txj, szj, told_rows wfj2, fun n7 HL sL2 eL2 => ?_⟩
        refine ⟨_, rfl, ?_⟩
        refine PySem.W.ite_neg (by decide) ?_
        exact ⟨_, n7, rfl, sJ.trans sL2, eL2⟩
    · rintro σ HJ ⟨p8, n6, rfl, sJ, eJ⟩
      have fE := fD.sb (.head _) sJ eJ
      have eKJ := sJ _ _ KLpd eKI
      have dkJ := fun (k : Nat) (hk : k < 2) => (dkI k hk).sb sJ (dkpd k hk) pdI strs_int
      refine ⟨_, rfl, pd, n6, 3, rfl, eJ, by decide, by decide, fun c n7 c0 c1 => ?_⟩
      have fF := fE.write (.head _) (.lst [.int n7])
      have sJM : SameB pd HJ (upd HJ pd (.lst [.int n7])) := fun b o nb e => by rw [upd_ne nb]; exact e
      have eKM := sJM _ _ KLpd eKJ
      have dkM := fun (k : Nat) (hk : k < 2) => (dkJ k hk).sb sJM (dkpd k hk) eJ strs_int
      generalize upd HJ pd (.lst [.int n7]) = HM at fF sJM eKM dkM
      refine ⟨rfl, _, rfl, ite2 (fun _ => ?_) (fun _ => ?_)⟩
      · refine ⟨_, rfl, _, rfl, KL, _, _, k0, rfl, rfl, eKM, ixK _ _, ?_⟩
        have eset : [if 0 = k0 then V.ref rw_ else v 0, if 1 = k0 then V.ref rw_ else v 1].set k0 .non = [if 0 = k0 then .non else v 0, if 1 = k0 then .non else v 1] := by
          rcases (by omega : k0 = 0 ∨ k0 = 1) with rfl | rfl <;> rfl
        rw [eset]
        have v0s' : ∀ y, (if 0 = k0 then V.ref rw_ else v 0) ≠ .str y := fun y => by
          split
          · intro c; cases c
          · exact v0s y
        have fG := fF.write KLM (.lst [if 0 = k0 then .non else v 0, if 1 = k0 then .non else v 1])
        have sMN : SameB KL HM (upd HM KL (.lst [if 0 = k0 then .non else v 0, if 1 = k0 then .non else v 1])) := fun b o nb e => by rw [upd_ne nb]; exact e
        have eKN : (upd HM KL (.lst [if 0 = k0 then V.non else v 0, if 1 = k0 then V.non else v 1])) KL = some (.lst [if 0 = k0 then V.non else v 0, if 1 = k0 then V.non else v 1]) := upd_same
        have dkN := fun (k : Nat) (hk : k < 2) => (dkM k hk).sb sMN (dkK k) eKM (strs_kept v0s')
        generalize upd HM KL (.lst [if 0 = k0 then V.non else v 0, if 1 = k0 then V.non else v 1]) = HN at fG sMN eKN dkN
        have dN : DkAt t.x_Desk HN d (rowsS w) := by
          have := dkN k0 k02
          rw [if_pos rfl, ← hd] at this
          exact this
        refine ⟨_, rfl, _, rfl, DL, _, _, _, rfl, rfl, .of (fG.same _ _ gDL3), ixd, ?_⟩
        refine ⟨d, .put (Str.ofString ""), rowsS w, by show _ = [V.ref d, V.str (Str.ofString "put " ++ Str.ofString "")]; rw [show Str.ofString "put " ++ Str.ofString "" = Str.ofString "put " by decide +kernel]; rfl, ⟨by decide +kernel, by decide +kernel⟩, dN, by omega, fun HO sO eO => ?_⟩
        obtain ⟨_, _, _, ciO, _⟩ := id eO
        have fH := fG.sb dMk sO ciO
        refine ⟨_, rfl, R, _, rfl, .inl (.of (fH.same _ _ gR)), _, _, rfl, rfl, _, rfl, ?_, ?_⟩
        · rw [lrs]
          exact num_fits (n := (rowsA w).length + 1 + 1) (by omega)
        have lrs2 : (rowsS w).length = (rowsA w).length + 1 := by rw [rowsS_eq, List.length_append, List.length_singleton]
        rw [lrs, lrs2]
        refine ⟨_, _, rfl, rfl, ?_, rfl, _, rfl, ?_⟩
        · have := numS_small (n := (rowsA w).length + 1 + 1) (by omega)
          rw [len_app] at this
          exact Nat.le_trans this (by decide)
        refine PySem.W.ite_neg (not_ne rfl) ?_
        have shM : ShortR (rowsS w ++ [Str.ofString ""]) := fun y hy => by
          rcases List.mem_append.mp hy with hy | hy
          · exact rsm y hy
          · rw [List.mem_singleton.mp hy]
            exact ⟨by decide +kernel, by decide +kernel⟩
        have lM : (rowsS w ++ [Str.ofString ""]).length ≤ 15 := by rw [List.length_append, List.length_singleton]; omega
        obtain ⟨txM, szM⟩ := short_tx shM (by omega)
        refine ⟨_, rfl, _, rfl, DL, _, _, _, rfl, rfl, .of (fH.same _ _ gDL3), ixd, _, rfl, rw_, _, _, _, rfl, rfl, fH.same.seqT ha, rfl, _, 48, w.ins, rfl, zeroA, rfl, i1, by omega, _, _, rfl, rfl, run_len (by omega), ?_⟩
        refine ⟨d, .run (List.replicate w.ins.toNat 0), rowsS w ++ [Str.ofString ""], by show _ = [V.ref d, V.str (Str.ofString "run " ++ figS _)]; rw [fig_zero]; rfl, ⟨bits_zero _, zne, zl⟩, eO, by omega, txM, szM, .inr ⟨none_more wf2, fun HP sP => ?_⟩⟩
        refine ⟨rfl, _, rfl, ?_⟩
        refine PySem.W.ite_neg (not_ne rfl) ?_
        obtain ⟨_, _, _, ciN, _⟩ := id dN
        obtain ⟨G9, v9, z9, y1, y2, y3, y4⟩ := fin HP .non (rowsS w ++ [Str.ofString ""]) (fH.grow sP) (sP _ _ (sO _ _ KLd eKN)) (fun k hk => by
          by_cases e : k = k0
          · rw [if_pos e, e, ← hd]
            exact eO.on sP
          · rw [if_neg e]
            have := dkN k hk
            rw [if_neg e] at this
            exact (this.sb sO (dkne k hk e) ciN (fun c => by cases c)).on sP) (by omega) (.inl rfl)
        exact ⟨_, _, _, _, _, _, G9, v9, z9, rfl, y1, y2, y3, y4⟩
      · obtain ⟨G9, v9, z9, y1, y2, y3, y4⟩ := fin HM (.ref rw_) (rowsS w) fF eKM dkM (by omega) keptW
        exact ⟨_, _, _, _, _, _, G9, v9, z9, rfl, y1, y2, y3, y4⟩
  · rintro σ H7 ⟨o3, o4, o5, o6, o7, o8, G, v, z, rfl, f0, s0, eK7, ks⟩
    exact q H7
end
noncomputable def DfK (K : PySem.W.Frag) (x : Str) (st : Stmt) (f : Addr) : Prop := ∃ (oc : Value) (od : Option Addr) (kV dc pm : Value) (an : Option Addr) (cd ct : Value) (sl : Array (Option Value)), PySem.W.nsIn K mainGlobals x = some (some (.ref f)) ∧ K.lookup f = some ⟨oc, od, .func (PySem.W.fnOf x x (defArgs st) (defBody st) (defScope st) .none kV dc pm an cd ct), sl⟩ ∧ PySem.W.codeIn K cd x = true ∧ PySem.W.keepIn K (.ref f) = true
noncomputable def DfV (K : PySem.W.Frag) (x : Str) (st : Stmt) (f T : Addr) (kT : Tok) : Prop := ∃ (oc : Value) (od : Option Addr) (kV dc pm : Value) (an : Option Addr) (cd ct : Value) (sl : Array (Option Value)) (cT : Value) (dT : Option Addr) (nT : Nat) (sT : Array (Option Value)), PySem.W.nsIn K mainGlobals x = some (some (.ref f)) ∧ K.lookup f = some ⟨oc, od, .func (PySem.W.fnOf x x (defArgs st) (defBody st) (defScope st) (.ref T) kV dc pm an cd ct), sl⟩ ∧ PySem.W.codeIn K cd x = true ∧ PySem.W.keepIn K (.ref f) = true ∧ K.lookup T = some ⟨cT, dT, .seq #[.int 1 kT] nT, sT⟩
theorem DfK.mk {K : PySem.W.Frag} {h : Heap} {mg : Str → Option Value} {x : Str} {st : Stmt} {f : Addr} (d : DfK K x st f) (X : K.In h) (G : h.Ns mainGlobals mg) (ps : List Str)
    (hb : ∀ (kV doc pm : Value) (an : Option Addr) (cdv ct : Value) (us : List Value), us.length = ps.length → bindArgs (PySem.W.fnOf x x (defArgs st) (defBody st) (defScope st) .none kV doc pm an cdv ct) ⟨us, []⟩ = pure (ps.zip us)) : ∃ fd, Def K mg x st ps f fd := by
  obtain ⟨oc, od, kV, dc, pm, an, cd, ct, sl, a, l, cc, k⟩ := d
  exact ⟨_, fun_mk (st := st) l cc k, (fun_mk (st := st) l cc k).binds hb, PySem.W.mg_of X G a⟩
noncomputable def DfM (K : PySem.W.Frag) (cn x q : Str) (st : Stmt) (C f : Addr) : Prop := ∃ (oc : Value) (od : Option Addr) (kV dc pm : Value) (an : Option Addr) (cd ct : Value) (sl : Array (Option Value)), PySem.W.nsIn K mainGlobals cn = some (some (.ref C)) ∧ PySem.W.findIn K (.ref C) x = some (some (.ref f)) ∧ K.lookup f = some ⟨oc, od, .func (PySem.W.fnOf x q (defArgs st) (defBody st) (defScope st) .none kV dc pm an cd ct), sl⟩ ∧ PySem.W.codeIn K cd q = true ∧ PySem.W.keepIn K (.ref f) = true ∧ PySem.W.isFn K (.ref f) = true
theorem DfM.mk {K : PySem.W.Frag} {cn x q : Str} {st : Stmt} {C f : Addr} (d : DfM K cn x q st C f) (ps : List Str)
    (hb : ∀ (kV doc pm : Value) (an : Option Addr) (cdv ct : Value) (us : List Value), us.length = ps.length → bindArgs (PySem.W.fnOf x q (defArgs st) (defBody st) (defScope st) .none kV doc pm an cdv ct) ⟨us, []⟩ = pure (ps.zip us)) : ∃ fd, DefM K C x q st ps f fd := by
  obtain ⟨oc, od, kV, dc, pm, an, cd, ct, sl, n, a, l, cc, k, i⟩ := d
  exact ⟨_, fun_mk (st := st) l cc k, (fun_mk (st := st) l cc k).binds hb, ⟨a, i, k⟩⟩
noncomputable def ObK (K : PySem.W.Frag) (C f : Addr) : Prop := PySem.W.plainGet K C Str.empty = true ∧ PySem.W.hasDictIn K C = true ∧ PySem.W.plainOver K C = true ∧ PySem.W.findIn K (.ref C) "__setattr__" = some (some (.builtin "object.__setattr__")) ∧ PySem.W.makesIn K C = true ∧ PySem.W.keepIn K (.ref C) = true
theorem all_mk {l : PySem.W.OpenLaw} {w : World} {K : PySem.W.Frag} {h : Heap} {mg : Str → Option Value} {fa f1 f2 f3 f4 f5 f6 f7 f8 f9 f10 f11 f12 f13 f14 f15 f16 f17 f18 f19 f20 f21 f22 f23 f24 f25 f26 f27 f28 f29 f30 f31 f32 f33 : Addr} (X : K.In h) (G : h.Ns mainGlobals mg) (hfa : mg "law" = some (.ref fa))
    (h1 : DfK K "works_of" s_works_of f1)
    (h2 : DfK K "check_gate" s_check_gate f2)
    (h3 : DfK K "is_kind" s_is_kind f3)
    (h4 : DfK K "are_wires_below" s_are_wires_below f4)
    (h5 : DfK K "wire_worths" s_wire_worths f5)
    (h6 : DfK K "outputs_at" s_outputs_at f6)
    (h7 : DfK K "check_row" s_check_row f7)
    {T8 : Addr} {kT8 : Tok} (h8 : DfV K "gate_worth" s_gate_worth f8 T8 kT8)
    (h9 : DfK K "read_works" s_read_works f9)
    (h10 : DfK K "read_row" s_read_row f10)
    (h11 : DfK K "read_number" s_read_number f11)
    (h12 : DfK K "read_order" s_read_order f12)
    (h13 : DfK K "read_things" s_read_things f13)
    (h14 : DfK K "read_worths" s_read_worths f14)
    (h15 : DfK K "told_of" s_told_of f15)
    (h16 : DfK K "shown" s_shown f16)
    (h17 : DfK K "_law_stir" s_law_stir f17)
    (h18 : DfK K "_law_deck" s_law_deck f18)
    (h19 : DfK K "_law_take" s_law_take f19)
    (h20 : DfK K "_law_legs" s_law_legs f20)
    (h21 : DfK K "_law_works" s_law_works f21)
    (h22 : DfK K "_law_gate" s_law_gate f22)
    (h23 : DfK K "_law_worths" s_law_worths f23)
    (h24 : DfK K "_law_row" s_law_row f24)
    (h25 : DfK K "_law_text" s_law_text f25)
    (h26 : DfK K "_law_told" s_law_told f26)
    (h27 : DfK K "_law_put" s_law_put f27)
    (h28 : DfK K "_law_figures" s_law_figures f28)
    (h29 : DfK K "_law_runs" s_law_runs f29)
    (h30 : DfK K "law" s_law f30)
    {C1_ : Addr} (h31 : DfM K "Desk" "__init__" "Desk.__init__" s_Desk___init__ C1_ f31)
    (h32 : DfM K "Desk" "say" "Desk.say" s_Desk_say C1_ f32)
    (h33 : DfM K "Desk" "keep_rows" "Desk.keep_rows" s_Desk_keep_rows C1_ f33)
    (z1 : PySem.W.nsIn K mainGlobals "ValueError" = some none)
    (z2 : PySem.W.nsIn K mainGlobals "all" = some none)
    (z3 : PySem.W.nsIn K mainGlobals "enumerate" = some none)
    (z4 : PySem.W.nsIn K mainGlobals "int" = some none)
    (z5 : PySem.W.nsIn K mainGlobals "isinstance" = some none)
    (z6 : PySem.W.nsIn K mainGlobals "len" = some none)
    (z7 : PySem.W.nsIn K mainGlobals "list" = some none)
    (z8 : PySem.W.nsIn K mainGlobals "min" = some none)
    (z9 : PySem.W.nsIn K mainGlobals "range" = some none)
    (z10 : PySem.W.nsIn K mainGlobals "str" = some none)
    (z11 : PySem.W.nsIn K mainGlobals "tuple" = some none)
    {c1_ : Addr} (ac1 : PySem.W.nsIn K mainGlobals "LEG_BOUNDS" = some (some (.ref c1_))) (kc1 : TabK K c1_ tab_LEG_BOUNDS)
    {u1_ : Addr} (au1 : PySem.W.nsIn K mainGlobals "WORDS_ALONE" = some (some (.ref u1_))) (ku1 : TupK K u1_ ["clear", "fewest", "bare", "less", "next"])
    {s1_ : Tok} (as1 : PySem.W.nsIn K mainGlobals "FIGURES" = some (some (.str "0123456789" s1_)))
    {x1_ : Addr} (ax1 : PySem.W.nsIn K mainGlobals "StuckError" = some (some (.ref x1_))) (kx1 : XcOk K x1_ "ValueError" "ValueError.__new__" [.type "ValueError", .type "Exception", .type "BaseException", .type "object"])
    {x2_ : Addr} (ax2 : PySem.W.nsIn K mainGlobals "NoWorks" = some (some (.ref x2_))) (kx2 : XcOk K x2_ "ValueError" "ValueError.__new__" [.type "ValueError", .type "Exception", .type "BaseException", .type "object"])
    {x3_ : Addr} (ax3 : PySem.W.nsIn K mainGlobals "NoRow" = some (some (.ref x3_))) (kx3 : XcOk K x3_ "ValueError" "ValueError.__new__" [.type "ValueError", .type "Exception", .type "BaseException", .type "object"])
    {x4_ : Addr} (ax4 : PySem.W.nsIn K mainGlobals "NoFault" = some (some (.ref x4_))) (kx4 : XcOk K x4_ "ValueError" "ValueError.__new__" [.type "ValueError", .type "Exception", .type "BaseException", .type "object"])
    {x5_ : Addr} (ax5 : PySem.W.nsIn K mainGlobals "NoText" = some (some (.ref x5_))) (kx5 : XcOk K x5_ "ValueError" "ValueError.__new__" [.type "ValueError", .type "Exception", .type "BaseException", .type "object"])
    {x6_ : Addr} (ax6 : PySem.W.nsIn K mainGlobals "NoOrder" = some (some (.ref x6_))) (kx6 : XcOk K x6_ "ValueError" "ValueError.__new__" [.type "ValueError", .type "Exception", .type "BaseException", .type "object"])
    {x7_ : Addr} (ax7 : PySem.W.nsIn K mainGlobals "TooMany" = some (some (.ref x7_))) (kx7 : XcOk K x7_ "ValueError" "ValueError.__new__" [.type "ValueError", .type "Exception", .type "BaseException", .type "object"])
    (ao1 : PySem.W.nsIn K mainGlobals "Desk" = some (some (.ref C1_))) (ko1 : ObK K C1_ f31) (na1 : PySem.W.findIn K (.ref C1_) "rows" = some none) (na2 : PySem.W.findIn K (.ref C1_) "answers" = some none)
    (ff1 : PySem.W.kitOne K (.ref x5_) (.ref x6_) = some false)
    (ff2 : PySem.W.kitOne K (.ref x5_) (.ref x5_) = some true)
    (ff3 : PySem.W.kitOne K (.ref x5_) (.ref x2_) = some false)
    (ff4 : PySem.W.kitOne K (.ref x5_) (.ref x3_) = some false)
    (ff5 : PySem.W.kitOne K (.ref x5_) (.ref x4_) = some false)
    (ff6 : PySem.W.kitOne K (.ref x5_) (.ref x7_) = some false)
    (ff7 : PySem.W.kitOne K (.ref x5_) (.type "ValueError") = some true)
    (ff8 : (mroOf K x5_).tail.contains (.ref x1_) = true)
    : ∃ fd : FuncData, (∀ (s : Shared) (v : Value), BindsTo s fd ⟨[v], []⟩ [("script", v)]) ∧ ∀ base : Heap, K.In base → base.Ns mainGlobals mg → FnOk l.prog w K mg base CX0 8 fa fd ["script"] (sp_law K) := by
  obtain ⟨oc, od, kVL, dcL, pmL, anL, cdL, ctL, sl, aL, lL, cL, kL⟩ := h30
  have e := hfa.symm.trans (PySem.W.mg_of X G aL)
  cases e
  obtain ⟨e1, D1⟩ := h1.mk X G ["inputs", "gates", "outputs"] fun _ _ _ _ _ _ us hl => by obtain ⟨x0, x1, x2, e⟩ := lenV3 hl; subst e; rfl
  obtain ⟨e2, D2⟩ := h2.mk X G ["kind", "legs", "own_wire"] fun _ _ _ _ _ _ us hl => by obtain ⟨x0, x1, x2, e⟩ := lenV3 hl; subst e; rfl
  obtain ⟨e3, D3⟩ := h3.mk X G ["word"] fun _ _ _ _ _ _ us hl => by obtain ⟨x0, e⟩ := lenV1 hl; subst e; rfl
  obtain ⟨e4, D4⟩ := h4.mk X G ["numbers", "bound"] fun _ _ _ _ _ _ us hl => by obtain ⟨x0, x1, e⟩ := lenV2 hl; subst e; rfl
  obtain ⟨e5, D5⟩ := h5.mk X G ["works", "row"] fun _ _ _ _ _ _ us hl => by obtain ⟨x0, x1, e⟩ := lenV2 hl; subst e; rfl
  obtain ⟨e6, D6⟩ := h6.mk X G ["works", "row"] fun _ _ _ _ _ _ us hl => by obtain ⟨x0, x1, e⟩ := lenV2 hl; subst e; rfl
  obtain ⟨e7, D7⟩ := h7.mk X G ["works", "row"] fun _ _ _ _ _ _ us hl => by obtain ⟨x0, x1, e⟩ := lenV2 hl; subst e; rfl
  obtain ⟨oc, od, kV, dc, pm, an, cd, ct, sl, cT, dT, nT, sT, a8, l8, c8, k8, v8⟩ := h8
  have F8 := funD_mk (st := s_gate_worth) l8 c8 k8
  have b8 := F8.binds (ps := ["kind", "worths", "ones"]) (ds := []) fun _ _ _ _ _ _ s us X hl => match us, hl with | [_, _, _], _ => PySem.W.binds_K X rfl v8 rfl rfl rfl
  have e8 := F8.binds (ps := ["kind", "worths", "ones"]) (ds := [.int 1 kT8]) fun _ _ _ _ _ _ s us X hl => match us, (show us.length = 2 by rw [List.length_append] at hl; exact Nat.succ.inj hl) with | [_, _], _ => PySem.W.binds_K X rfl v8 rfl rfl rfl
  obtain ⟨e9, D9⟩ := h9.mk X G ["text"] fun _ _ _ _ _ _ us hl => by obtain ⟨x0, e⟩ := lenV1 hl; subst e; rfl
  obtain ⟨e10, D10⟩ := h10.mk X G ["row"] fun _ _ _ _ _ _ us hl => by obtain ⟨x0, e⟩ := lenV1 hl; subst e; rfl
  obtain ⟨e11, D11⟩ := h11.mk X G ["text"] fun _ _ _ _ _ _ us hl => by obtain ⟨x0, e⟩ := lenV1 hl; subst e; rfl
  obtain ⟨e12, D12⟩ := h12.mk X G ["row"] fun _ _ _ _ _ _ us hl => by obtain ⟨x0, e⟩ := lenV1 hl; subst e; rfl
  obtain ⟨e13, D13⟩ := h13.mk X G ["word", "text"] fun _ _ _ _ _ _ us hl => by obtain ⟨x0, x1, e⟩ := lenV2 hl; subst e; rfl
  obtain ⟨e14, D14⟩ := h14.mk X G ["text"] fun _ _ _ _ _ _ us hl => by obtain ⟨x0, e⟩ := lenV1 hl; subst e; rfl
  obtain ⟨e15, D15⟩ := h15.mk X G ["works", "order"] fun _ _ _ _ _ _ us hl => by obtain ⟨x0, x1, e⟩ := lenV2 hl; subst e; rfl
  obtain ⟨e16, D16⟩ := h16.mk X G ["worths"] fun _ _ _ _ _ _ us hl => by obtain ⟨x0, e⟩ := lenV1 hl; subst e; rfl
  obtain ⟨e17, D17⟩ := h17.mk X G ["cell", "k"] fun _ _ _ _ _ _ us hl => by obtain ⟨x0, x1, e⟩ := lenV2 hl; subst e; rfl
  obtain ⟨e18, D18⟩ := h18.mk X G ["cell"] fun _ _ _ _ _ _ us hl => by obtain ⟨x0, e⟩ := lenV1 hl; subst e; rfl
  obtain ⟨e19, D19⟩ := h19.mk X G ["deck", "many"] fun _ _ _ _ _ _ us hl => by obtain ⟨x0, x1, e⟩ := lenV2 hl; subst e; rfl
  obtain ⟨e20, D20⟩ := h20.mk X G ["deck", "kind"] fun _ _ _ _ _ _ us hl => by obtain ⟨x0, x1, e⟩ := lenV2 hl; subst e; rfl
  obtain ⟨e21, D21⟩ := h21.mk X G ["deck", "most"] fun _ _ _ _ _ _ us hl => by obtain ⟨x0, x1, e⟩ := lenV2 hl; subst e; rfl
  obtain ⟨e22, D22⟩ := h22.mk X G ["kind", "some"] fun _ _ _ _ _ _ us hl => by obtain ⟨x0, x1, e⟩ := lenV2 hl; subst e; rfl
  obtain ⟨e23, D23⟩ := h23.mk X G ["works", "stuck", "row"] fun _ _ _ _ _ _ us hl => by obtain ⟨x0, x1, x2, e⟩ := lenV3 hl; subst e; rfl
  obtain ⟨e24, D24⟩ := h24.mk X G ["deck", "works"] fun _ _ _ _ _ _ us hl => by obtain ⟨x0, x1, e⟩ := lenV2 hl; subst e; rfl
  obtain ⟨e25, D25⟩ := h25.mk X G ["works"] fun _ _ _ _ _ _ us hl => by obtain ⟨x0, e⟩ := lenV1 hl; subst e; rfl
  obtain ⟨e26, D26⟩ := h26.mk X G ["desk", "row"] fun _ _ _ _ _ _ us hl => by obtain ⟨x0, x1, e⟩ := lenV2 hl; subst e; rfl
  obtain ⟨e27, D27⟩ := h27.mk X G ["desk", "text"] fun _ _ _ _ _ _ us hl => by obtain ⟨x0, x1, e⟩ := lenV2 hl; subst e; rfl
  obtain ⟨e28, D28⟩ := h28.mk X G ["worths"] fun _ _ _ _ _ _ us hl => by obtain ⟨x0, e⟩ := lenV1 hl; subst e; rfl
  obtain ⟨e29, D29⟩ := h29.mk X G ["deck", "desk", "works"] fun _ _ _ _ _ _ us hl => by obtain ⟨x0, x1, x2, e⟩ := lenV3 hl; subst e; rfl
  have F30 := fun_mk (st := s_law) lL cL kL
  have b30 := F30.binds (ps := ["script"]) fun _ _ _ _ _ _ us hl => by obtain ⟨x0, e⟩ := lenV1 hl; subst e; rfl
  obtain ⟨e31, D31⟩ := h31.mk ["self"] fun _ _ _ _ _ _ us hl => by obtain ⟨x0, e⟩ := lenV1 hl; subst e; rfl
  obtain ⟨e32, D32⟩ := h32.mk ["self", "row"] fun _ _ _ _ _ _ us hl => by obtain ⟨x0, x1, e⟩ := lenV2 hl; subst e; rfl
  obtain ⟨e33, D33⟩ := h33.mk ["self", "rows"] fun _ _ _ _ _ _ us hl => by obtain ⟨x0, x1, e⟩ := lenV2 hl; subst e; rfl
  refine ⟨PySem.W.fnOf "law" "law" (defArgs s_law) (defBody s_law) (defScope s_law) .none kVL dcL pmL anL cdL ctL, fun s v => .of_eq rfl, fun base _ _ => ?_⟩
  exact ok_law (t := ⟨f1, e1, f2, e2, f3, e3, f4, e4, f5, e5, f6, e6, f7, e7, f8, _, T8, kT8, f9, e9, f10, e10, f11, e11, f12, e12, f13, e13, f14, e14, f15, e15, f16, e16, f17, e17, f18, e18, f19, e19, f20, e20, f21, e21, f22, e22, f23, e23, f24, e24, f25, e25, f26, e26, f27, e27, f28, e28, f29, e29, _, _, f31, e31, f32, e32, f33, e33, c1_, u1_, s1_, x1_, x2_, x3_, x4_, x5_, x6_, x7_, C1_⟩) ⟨D1, D2, D3, D4, D5, D6, D7, ⟨F8, b8, e8, PySem.W.mg_of X G a8⟩, D9, D10, D11, D12, D13, D14, D15, D16, D17, D18, D19, D20, D21, D22, D23, D24, D25, D26, D27, D28, D29, ⟨F30, b30, PySem.W.mg_of X G aL⟩, D31, D32, D33, PySem.W.mg_none_of X G z1, PySem.W.mg_none_of X G z2, PySem.W.mg_none_of X G z3, PySem.W.mg_none_of X G z4, PySem.W.mg_none_of X G z5, PySem.W.mg_none_of X G z6, PySem.W.mg_none_of X G z7, PySem.W.mg_none_of X G z8, PySem.W.mg_none_of X G z9, PySem.W.mg_none_of X G z10, PySem.W.mg_none_of X G z11, PySem.W.mg_of X G ac1, kc1, PySem.W.mg_of X G au1, ku1, PySem.W.mg_of X G as1, PySem.W.mg_of X G ax1, kx1, PySem.W.mg_of X G ax2, kx2, PySem.W.mg_of X G ax3, kx3, PySem.W.mg_of X G ax4, kx4, PySem.W.mg_of X G ax5, kx5, PySem.W.mg_of X G ax6, kx6, PySem.W.mg_of X G ax7, kx7, PySem.W.mg_of X G ao1, ⟨ko1.1, ko1.2.1, ko1.2.2.1, ko1.2.2.2.1⟩, ⟨ko1.2.2.2.2.1, D31.m.at_, D31.m.fn, ko1.2.2.2.2.2⟩, na1, na2, ff1, ff2, ff3, ff4, ff5, ff6, ff7, ff8⟩
theorem walk {l : PySem.W.OpenLaw} {q : Program} {loose : List Str} {XP : (Str → Option Value) → Heap → Prop} {YP : World → Heap → Prop} {d : DefRec} {K : Params → PySem.W.Frag} (hn : l.most = some 63) (hdf : d.params.defaults = [])
    (hY : ∀ (w : World) (h : Heap), YP w h → (K w.params).In h)
    (F : ∀ (w : World) (mg : Str → Option Value) (fa : Addr) (h : Heap), (K w.params).In h → h.Ns mainGlobals mg → mg d.name = some (.ref fa) →
      ∃ fd : FuncData, (∀ (s : Shared) (u : Value), BindsTo s fd ⟨[u], []⟩ [("script", u)]) ∧ ∀ base : Heap, (K w.params).In base → base.Ns mainGlobals mg → FnOk l.prog w (K w.params) mg base CX0 8 fa fd ["script"] (sp_law (K w.params))) :
    PySem.W.WalkO q loose XP YP l.row.toRowW d [] (fun f vs => PySem.call f vs) :=
  L2.walk_of (n := 63) (k := 8) (x := "script") (CX := fun _ => CX0) (sp := fun w => sp_law (K w.params)) hn (by decide) hdf ⟨rfl, by decide, by decide, rfl⟩ hY F (fun _ _ a ns hl _ hS => ⟨a, ns, rfl, hS, hl, fun _ => rfl⟩) fun _ _ _ _ _ z => z
end My
open PySem PySem.W PyProof.Rows
set_option maxRecDepth 100000 in
set_option maxHeartbeats 0 in
theorem PySem.Challenge.cw_stuckwires_k65_rows_put_and_run_holds : PySem.Challenge.rw_stuckwires_k65_rows_put_and_run.Holds := by
  w_on; o_law
  refine PySem.W.holds_open (q := My.view) (loose := My.loo)
    (Xt := fun s => xlAt My.view [] s && recOk (RowW.records (OpenRow.toRowW PySem.Challenge.rw_stuckwires_k65_rows_put_and_run.row)) s) (XP := XL My.view [])
    (Yf := Hook.obs (kHook My.part My.partAt (fun _ => by kernel_rfl))) (Ya := Hook.val (kHook My.part My.partAt (fun _ => by kernel_rfl)))
    (YP := Hook.says (kHook My.part My.partAt (fun _ => by kernel_rfl))) (N := (12 + (1 + (1619 + (1060 + (787 + (971))))))) ?hl (Hook.of _) (Hook.keeps _)
    (fun s e => xl_of s (Bool.and_eq_true_iff.mp e).1) XL.keeps (by rfl) (by rfl) (by rfl)
    (fun s e => recFacts_of (Bool.and_eq_true_iff.mp e).2) (by rfl) (by first | assumption | decide +kernel) (by decide +kernel)
    ⟨rfl, rfl, rfl, rfl, rfl, by decide +kernel⟩ ?hw ?hc
  case hl => exact My.hl0
  case hw => w_witness2
  k_fill
  refine My.walk (l := PySem.Challenge.rw_stuckwires_k65_rows_put_and_run) rfl rfl (fun w h Y => PySem.W.kIn_of Y) ?F
  case F =>
    intro w mg fa h KX G hmg
    refine' My.all_mk KX G hmg ?h1 ?h2 ?h3 ?h4 ?h5 ?h6 ?h7 ?h8 ?h9 ?h10 ?h11 ?h12 ?h13 ?h14 ?h15 ?h16 ?h17 ?h18 ?h19 ?h20 ?h21 ?h22 ?h23 ?h24 ?h25 ?h26 ?h27 ?h28 ?h29 ?h30 ?h31 ?h32 ?h33 ?z1 ?z2 ?z3 ?z4 ?z5 ?z6 ?z7 ?z8 ?z9 ?z10 ?z11 ?ac1 ?kc1 ?au1 ?ku1 ?as1 ?ax1 ?kx1 ?ax2 ?kx2 ?ax3 ?kx3 ?ax4 ?kx4 ?ax5 ?kx5 ?ax6 ?kx6 ?ax7 ?kx7 ?ao1 ?ko1 ?na1 ?na2 ?ff1 ?ff2 ?ff3 ?ff4 ?ff5 ?ff6 ?ff7 ?ff8
    all_goals first | ((iterate 9 apply Exists.intro); (refine ⟨?_, ?_, ?_, ?_⟩ <;> k_is)) | ((iterate 9 apply Exists.intro); (refine ⟨?_, ?_, ?_, ?_, ?_, ?_⟩ <;> k_is)) | ((iterate 13 apply Exists.intro); (refine ⟨?_, ?_, ?_, ?_, ?_⟩ <;> k_is)) | skip
    (case z1 => k_is)
    (case z2 => k_is)
    (case z3 => k_is)
    (case z4 => k_is)
    (case z5 => k_is)
    (case z6 => k_is)
    (case z7 => k_is)
    (case z8 => k_is)
    (case z9 => k_is)
    (case z10 => k_is)
    (case z11 => k_is)
    (case ac1 => k_is)
    (case kc1 => (unfold L2.TabK; kernel_rfl))
    (case au1 => k_is)
    (case ku1 => (unfold L2.TupK; kernel_rfl))
    (case as1 => k_is)
    (case ax1 => k_is)
    (case kx1 => exact ⟨by kernel_rfl, PySem.F.attr_ValueError, by kernel_rfl, by kernel_rfl, by kernel_rfl, by decide, by decide⟩)
    (case ax2 => k_is)
    (case kx2 => exact ⟨by kernel_rfl, PySem.F.attr_ValueError, by kernel_rfl, by kernel_rfl, by kernel_rfl, by decide, by decide⟩)
    (case ax3 => k_is)
    (case kx3 => exact ⟨by kernel_rfl, PySem.F.attr_ValueError, by kernel_rfl, by kernel_rfl, by kernel_rfl, by decide, by decide⟩)
    (case ax4 => k_is)
    (case kx4 => exact ⟨by kernel_rfl, PySem.F.attr_ValueError, by kernel_rfl, by kernel_rfl, by kernel_rfl, by decide, by decide⟩)
    (case ax5 => k_is)
    (case kx5 => exact ⟨by kernel_rfl, PySem.F.attr_ValueError, by kernel_rfl, by kernel_rfl, by kernel_rfl, by decide, by decide⟩)
    (case ax6 => k_is)
    (case kx6 => exact ⟨by kernel_rfl, PySem.F.attr_ValueError, by kernel_rfl, by kernel_rfl, by kernel_rfl, by decide, by decide⟩)
    (case ax7 => k_is)
    (case kx7 => exact ⟨by kernel_rfl, PySem.F.attr_ValueError, by kernel_rfl, by kernel_rfl, by kernel_rfl, by decide, by decide⟩)
    (case ao1 => k_is)
    (case ko1 => exact ⟨by k_is, by k_is, by k_is, by k_is, by k_is, by k_is⟩)
    (case na1 => k_is)
    (case na2 => k_is)
    (case ff1 => kernel_rfl)
    (case ff2 => kernel_rfl)
    (case ff3 => kernel_rfl)
    (case ff4 => kernel_rfl)
    (case ff5 => kernel_rfl)
    (case ff6 => kernel_rfl)
    (case ff7 => kernel_rfl)
    (case ff8 => kernel_rfl)

