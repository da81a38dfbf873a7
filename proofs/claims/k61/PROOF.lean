import PyProof.Rows.All
import Wide.All
import OpenK.AllK
import Wide.FinOn
import Lean
import PyProof.EqAt
import PyProof.EqKinds
import PyProof.TupleCall
import PySem.Challenge.RW_stuckwires_k61_texts_of_no_works
set_option Elab.async false
set_option linter.all false
set_option maxRecDepth 100000
set_option genSizeOf false
local macro_rules | `(tactic| omega) => `(tactic| lia)
namespace L2
open PySem
noncomputable def defArgs (s : Stmt) : Arguments := match s with
  | .FunctionDef _ a _ _ _ _ _ _ _ _ => a
  | _ => { posonlyargs := [], args := [], vararg := none, kwonlyargs := [], kw_defaults := [], kwarg := none, defaults := [] }
noncomputable def defBody (s : Stmt) : List Stmt := match s with
  | .FunctionDef _ _ b _ _ _ _ _ _ _ => b
  | _ => []
noncomputable def defScope (s : Stmt) : Scope := match s with
  | .FunctionDef _ _ _ _ _ _ sc _ _ _ => sc
  | _ => { kind := .function, names := [], isGenerator := false, isCoroutine := false }
end L2
namespace My
open PySem L2
noncomputable def top (i : Nat) : Stmt := PySem.Challenge.pw_stuckwires_k61_texts_of_no_works.main.body.getD i (.Pass ⟨0, 0, 0, 0⟩)
noncomputable abbrev s_works_of : Stmt := top 10
noncomputable abbrev s_check_gate : Stmt := top 11
noncomputable abbrev s_is_kind : Stmt := top 12
noncomputable abbrev s_are_wires_below : Stmt := top 13
noncomputable abbrev s_read_works : Stmt := top 16
noncomputable abbrev s_read_row : Stmt := top 17
noncomputable abbrev s_read_number : Stmt := top 18
noncomputable abbrev s_law_stir : Stmt := top 20
noncomputable abbrev s_law_deck : Stmt := top 21
noncomputable abbrev s_law_take : Stmt := top 22
noncomputable abbrev s_law_legs : Stmt := top 23
noncomputable abbrev s_law_works : Stmt := top 24
noncomputable abbrev s_law_text : Stmt := top 26
noncomputable abbrev s_law_number : Stmt := top 27
noncomputable abbrev s_law_read : Stmt := top 28
noncomputable abbrev s_law_told : Stmt := top 29
noncomputable abbrev s_law_word : Stmt := top 30
noncomputable abbrev s_law_rows_put : Stmt := top 31
noncomputable abbrev s_law_spoilt : Stmt := top 32
noncomputable abbrev s_law : Stmt := top 33
end My
namespace My
open PySem PySem.W
noncomputable abbrev dE (P : Params) (x : Str) (n : Nat) (v : Value) : DictEntry := .mk (PyData.keyHash P x) (.str x n) v
noncomputable abbrev tO (vs : Array Value) : Obj := .mk (.type "tuple") none (.seq vs) #[]
noncomputable abbrev fO (x : Str) (s : Stmt) (dV kV doc pm : Value) (an : Option Addr) (cd ct : Value) : Obj := .mk (.type "function") none (.func (PySem.W.fnOf x x (L2.defArgs s) (L2.defBody s) (L2.defScope s) dV kV doc pm an cd ct)) #[]
noncomputable abbrev fD (x : Str) (s : Stmt) (f : Str) (n c : Nat) : Obj := fO x s .none .none .none (.str f n) none (.ref c) .none
noncomputable abbrev cO (x : Str) (n : Nat) (l a : Int) (r : Nat) (u v : Value) (q : Nat) (t : Nat) : Obj := .mk (.type "code") none (.fields #[.str x n, .str x (n + 1), .str "/claim/cut.py" (n + 2), .int l 0, .int a 0, .int 0 0, .int 0 0, .int 3 0, .ref r, .bool true, .int 181 0, .ref (r + 1), .none, u, v, .ref q, .int t 0, .int l 0, .str "/claim/cut.py" (t + 1)]) #[]
noncomputable def part : Params → Frag := fun P =>
  (nat_lit 2, PySem.Obj.mk .none none (PySem.Data.dict #[]) #[]) ::
  (nat_lit 3, PySem.Obj.mk (.type "dict") none (PySem.Data.dict #[dE P "__name__" 165 (.str "law_stuckwires_k61_texts_of_no_works" 393), dE P "__doc__" 166 .none, dE P "__package__" 167 .none, dE P "__loader__" 168 (.builtin "__main__.__loader__#opaque"), dE P "__spec__" 169 .none, dE P "__annotations__" 170 (.ref 6), dE P "__builtins__" 171 (.ref 4), dE P "__file__" 173 (.str "/claim/cut.py" 172), dE P "__cached__" 174 .none, dE P "StuckError" 206 (.ref 24), dE P "NoWorks" 222 (.ref 37), dE P "NoRow" 238 (.ref 49), dE P "NoFault" 254 (.ref 61), dE P "NoText" 270 (.ref 73), dE P "NoOrder" 286 (.ref 85), dE P "TooMany" 302 (.ref 97), dE P "LEG_BOUNDS" 333 (.ref 100), dE P "works_of" 344 (.ref 114), dE P "check_gate" 354 (.ref 121), dE P "is_kind" 361 (.ref 128), dE P "are_wires_below" 367 (.ref 133), dE P "FIGURES" 371 (.str "0123456789" 370), dE P "read_works" 377 (.ref 138), dE P "read_row" 383 (.ref 143), dE P "read_number" 392 (.ref 150), dE P "_law_stir" 403 (.ref 157), dE P "_law_deck" 410 (.ref 164), dE P "_law_take" 419 (.ref 171), dE P "_law_legs" 427 (.ref 178), dE P "_law_works" 433 (.ref 183), dE P "_law_copied" 440 (.ref 190), dE P "_law_text" 453 (.ref 197), dE P "_law_number" 459 (.ref 202), dE P "_law_read" 465 (.ref 207), dE P "_law_told" 476 (.ref 214), dE P "_law_word" 484 (.ref 221), dE P "_law_rows_put" 497 (.ref 228), dE P "_law_spoilt" 508 (.ref 235), dE P "law" 514 (.ref 240)] 39) #[]) ::
  (nat_lit 15, tO #[.type "ValueError"]) ::
  (nat_lit 22, tO #[]) ::
  (nat_lit 23, PySem.Obj.mk (.type "dict") none (PySem.Data.dict #[dE P "__module__" 196 (.str "stuckwires.errors" 187), dE P "__firstlineno__" 200 (.int 2 199), dE P "__static_attributes__" 201 (.ref 22), dE P "__weakref__" 203 (.ref 25), dE P "__doc__" 204 .none] 3) #[]) ::
  (nat_lit 24, PySem.Obj.mk (.type "type") none (PySem.Data.cls (PySem.ClassData.mk "StuckError" [.type "ValueError"] [.ref 24, .type "ValueError", .type "Exception", .type "BaseException", .type "object"] 23 "StuckError" Bool.true [] [.ref 37, .ref 49, .ref 61, .ref 73, .ref 85, .ref 97] Bool.false none Bool.false)) #[Option.some (.ref 15), none, Option.some (.str "StuckError" 189), Option.some (.str "StuckError" 197), Option.some (.builtin "ValueError.__new__"), Option.some (.bool Bool.true)]) ::
  (nat_lit 25, PySem.Obj.mk (.type "getset_descriptor") none (PySem.Data.fields #[.str "__weakref__" 202, .ref 24, .builtin "ExceptionGroup.__weakref__", .none]) #[]) ::
  (nat_lit 28, tO #[.ref 24]) ::
  (nat_lit 35, tO #[]) ::
  (nat_lit 36, PySem.Obj.mk (.type "dict") none (PySem.Data.dict #[dE P "__module__" 214 (.str "stuckwires.errors" 187), dE P "__firstlineno__" 218 (.int 4 217), dE P "__static_attributes__" 219 (.ref 35), dE P "__doc__" 220 .none] 2) #[]) ::
  (nat_lit 37, PySem.Obj.mk (.type "type") none (PySem.Data.cls (PySem.ClassData.mk "NoWorks" [.ref 24] [.ref 37, .ref 24, .type "ValueError", .type "Exception", .type "BaseException", .type "object"] 36 "NoWorks" Bool.true [] [] Bool.false none Bool.false)) #[Option.some (.ref 28), none, Option.some (.str "NoWorks" 207), Option.some (.str "NoWorks" 215), Option.some (.builtin "ValueError.__new__"), Option.some (.bool Bool.true)]) ::
  (nat_lit 40, tO #[.ref 24]) ::
  (nat_lit 47, tO #[]) ::
  (nat_lit 48, PySem.Obj.mk (.type "dict") none (PySem.Data.dict #[dE P "__module__" 230 (.str "stuckwires.errors" 187), dE P "__firstlineno__" 234 (.int 6 233), dE P "__static_attributes__" 235 (.ref 47), dE P "__doc__" 236 .none] 2) #[]) ::
  (nat_lit 49, PySem.Obj.mk (.type "type") none (PySem.Data.cls (PySem.ClassData.mk "NoRow" [.ref 24] [.ref 49, .ref 24, .type "ValueError", .type "Exception", .type "BaseException", .type "object"] 48 "NoRow" Bool.true [] [] Bool.false none Bool.false)) #[Option.some (.ref 40), none, Option.some (.str "NoRow" 223), Option.some (.str "NoRow" 231), Option.some (.builtin "ValueError.__new__"), Option.some (.bool Bool.true)]) ::
  (nat_lit 52, tO #[.ref 24]) ::
  (nat_lit 59, tO #[]) ::
  (nat_lit 60, PySem.Obj.mk (.type "dict") none (PySem.Data.dict #[dE P "__module__" 246 (.str "stuckwires.errors" 187), dE P "__firstlineno__" 250 (.int 8 249), dE P "__static_attributes__" 251 (.ref 59), dE P "__doc__" 252 .none] 2) #[]) ::
  (nat_lit 61, PySem.Obj.mk (.type "type") none (PySem.Data.cls (PySem.ClassData.mk "NoFault" [.ref 24] [.ref 61, .ref 24, .type "ValueError", .type "Exception", .type "BaseException", .type "object"] 60 "NoFault" Bool.true [] [] Bool.false none Bool.false)) #[Option.some (.ref 52), none, Option.some (.str "NoFault" 239), Option.some (.str "NoFault" 247), Option.some (.builtin "ValueError.__new__"), Option.some (.bool Bool.true)]) ::
  (nat_lit 64, tO #[.ref 24]) ::
  (nat_lit 71, tO #[]) ::
  (nat_lit 72, PySem.Obj.mk (.type "dict") none (PySem.Data.dict #[dE P "__module__" 262 (.str "stuckwires.errors" 187), dE P "__firstlineno__" 266 (.int 10 265), dE P "__static_attributes__" 267 (.ref 71), dE P "__doc__" 268 .none] 2) #[]) ::
  (nat_lit 73, PySem.Obj.mk (.type "type") none (PySem.Data.cls (PySem.ClassData.mk "NoText" [.ref 24] [.ref 73, .ref 24, .type "ValueError", .type "Exception", .type "BaseException", .type "object"] 72 "NoText" Bool.true [] [] Bool.false none Bool.false)) #[Option.some (.ref 64), none, Option.some (.str "NoText" 255), Option.some (.str "NoText" 263), Option.some (.builtin "ValueError.__new__"), Option.some (.bool Bool.true)]) ::
  (nat_lit 76, tO #[.ref 24]) ::
  (nat_lit 83, tO #[]) ::
  (nat_lit 84, PySem.Obj.mk (.type "dict") none (PySem.Data.dict #[dE P "__module__" 278 (.str "stuckwires.errors" 187), dE P "__firstlineno__" 282 (.int 12 281), dE P "__static_attributes__" 283 (.ref 83), dE P "__doc__" 284 .none] 2) #[]) ::
  (nat_lit 85, PySem.Obj.mk (.type "type") none (PySem.Data.cls (PySem.ClassData.mk "NoOrder" [.ref 24] [.ref 85, .ref 24, .type "ValueError", .type "Exception", .type "BaseException", .type "object"] 84 "NoOrder" Bool.true [] [] Bool.false none Bool.false)) #[Option.some (.ref 76), none, Option.some (.str "NoOrder" 271), Option.some (.str "NoOrder" 279), Option.some (.builtin "ValueError.__new__"), Option.some (.bool Bool.true)]) ::
  (nat_lit 88, tO #[.ref 24]) ::
  (nat_lit 95, tO #[]) ::
  (nat_lit 96, PySem.Obj.mk (.type "dict") none (PySem.Data.dict #[dE P "__module__" 294 (.str "stuckwires.errors" 187), dE P "__firstlineno__" 298 (.int 14 297), dE P "__static_attributes__" 299 (.ref 95), dE P "__doc__" 300 .none] 2) #[]) ::
  (nat_lit 97, PySem.Obj.mk (.type "type") none (PySem.Data.cls (PySem.ClassData.mk "TooMany" [.ref 24] [.ref 97, .ref 24, .type "ValueError", .type "Exception", .type "BaseException", .type "object"] 96 "TooMany" Bool.true [] [] Bool.false none Bool.false)) #[Option.some (.ref 88), none, Option.some (.str "TooMany" 287), Option.some (.str "TooMany" 295), Option.some (.builtin "ValueError.__new__"), Option.some (.bool Bool.true)]) ::
  (nat_lit 100, PySem.Obj.mk (.type "dict") none (PySem.Data.dict #[dE P "and" 305 (.ref 101), dE P "or" 308 (.ref 102), dE P "odd" 311 (.ref 103), dE P "not" 314 (.ref 104), dE P "choose" 317 (.ref 105), dE P "zero" 320 (.ref 106), dE P "one" 323 (.ref 107)] 7) #[]) ::
  (nat_lit 101, tO #[.int 2 306, .int 4 307]) ::
  (nat_lit 102, tO #[.int 2 309, .int 4 310]) ::
  (nat_lit 103, tO #[.int 2 312, .int 4 313]) ::
  (nat_lit 104, tO #[.int 1 315, .int 1 316]) ::
  (nat_lit 105, tO #[.int 3 318, .int 3 319]) ::
  (nat_lit 106, tO #[.int 0 321, .int 0 322]) ::
  (nat_lit 107, tO #[.int 0 324, .int 0 325]) ::
  (nat_lit 108, tO #[]) ::
  (nat_lit 110, tO #[.str "inputs" 337, .str "gates" 338, .str "outputs" 339, .str "gate" 340, .str "body" 341]) ::
  (nat_lit 111, tO #[]) ::
  (nat_lit 113, cO "works_of" 334 18 3 108 (.ref 110) (.ref 111) 112 342) ::
  (nat_lit 114, fD "works_of" s_works_of "stuckwires.works" 303 113) ::
  (nat_lit 115, tO #[]) ::
  (nat_lit 117, tO #[.str "kind" 348, .str "legs" 349, .str "own_wire" 350, .str "bounds" 351]) ::
  (nat_lit 118, tO #[]) ::
  (nat_lit 120, cO "check_gate" 345 28 3 115 (.ref 117) (.ref 118) 119 352) ::
  (nat_lit 121, fD "check_gate" s_check_gate "stuckwires.works" 303 120) ::
  (nat_lit 122, tO #[]) ::
  (nat_lit 124, tO #[.str "word" 358]) ::
  (nat_lit 125, tO #[]) ::
  (nat_lit 127, cO "is_kind" 355 36 1 122 (.ref 124) (.ref 125) 126 359) ::
  (nat_lit 128, fD "is_kind" s_is_kind "stuckwires.works" 303 127) ::
  (nat_lit 129, tO #[]) ::
  (nat_lit 132, cO "are_wires_below" 362 38 2 129 .none .none 131 365) ::
  (nat_lit 133, fD "are_wires_below" s_are_wires_below "stuckwires.works" 303 132) ::
  (nat_lit 134, tO #[]) ::
  (nat_lit 137, cO "read_works" 372 42 1 134 .none .none 136 375) ::
  (nat_lit 138, fD "read_works" s_read_works "stuckwires.texts" 368 137) ::
  (nat_lit 139, tO #[]) ::
  (nat_lit 142, cO "read_row" 378 54 1 139 .none .none 141 381) ::
  (nat_lit 143, fD "read_row" s_read_row "stuckwires.texts" 368 142) ::
  (nat_lit 144, tO #[]) ::
  (nat_lit 146, tO #[.str "text" 387, .str "number" 388, .str "sign" 389]) ::
  (nat_lit 147, tO #[]) ::
  (nat_lit 149, cO "read_number" 384 57 1 144 (.ref 146) (.ref 147) 148 390) ::
  (nat_lit 150, fD "read_number" s_read_number "stuckwires.texts" 368 149) ::
  (nat_lit 151, tO #[]) ::
  (nat_lit 153, tO #[.str "cell" 398, .str "k" 399, .str "number" 400]) ::
  (nat_lit 154, tO #[]) ::
  (nat_lit 156, cO "_law_stir" 395 67 2 151 (.ref 153) (.ref 154) 155 401) ::
  (nat_lit 157, fD "_law_stir" s_law_stir "law_stuckwires_k61_texts_of_no_works" 393 156) ::
  (nat_lit 158, tO #[]) ::
  (nat_lit 160, tO #[.str "cell" 407]) ::
  (nat_lit 161, tO #[]) ::
  (nat_lit 163, cO "_law_deck" 404 71 1 158 (.ref 160) (.ref 161) 162 408) ::
  (nat_lit 164, fD "_law_deck" s_law_deck "law_stuckwires_k61_texts_of_no_works" 393 163) ::
  (nat_lit 165, tO #[]) ::
  (nat_lit 167, tO #[.str "deck" 414, .str "many" 415, .str "taken" 416]) ::
  (nat_lit 168, tO #[]) ::
  (nat_lit 170, cO "_law_take" 411 75 2 165 (.ref 167) (.ref 168) 169 417) ::
  (nat_lit 171, fD "_law_take" s_law_take "law_stuckwires_k61_texts_of_no_works" 393 170) ::
  (nat_lit 172, tO #[]) ::
  (nat_lit 174, tO #[.str "deck" 423, .str "kind" 424]) ::
  (nat_lit 175, tO #[]) ::
  (nat_lit 177, cO "_law_legs" 420 79 2 172 (.ref 174) (.ref 175) 176 425) ::
  (nat_lit 178, fD "_law_legs" s_law_legs "law_stuckwires_k61_texts_of_no_works" 393 177) ::
  (nat_lit 179, tO #[]) ::
  (nat_lit 182, cO "_law_works" 428 83 2 179 .none .none 181 431) ::
  (nat_lit 183, fD "_law_works" s_law_works "law_stuckwires_k61_texts_of_no_works" 393 182) ::
  (nat_lit 191, tO #[]) ::
  (nat_lit 193, tO #[.str "works" 444, .str "rows" 445, .str "kind" 446, .str "legs" 447, .str "row" 448, .str "leg" 449, .str "wire" 450]) ::
  (nat_lit 194, tO #[]) ::
  (nat_lit 196, cO "_law_text" 441 96 1 191 (.ref 193) (.ref 194) 195 451) ::
  (nat_lit 197, fD "_law_text" s_law_text "law_stuckwires_k61_texts_of_no_works" 393 196) ::
  (nat_lit 198, tO #[]) ::
  (nat_lit 201, cO "_law_number" 454 107 1 198 .none .none 200 457) ::
  (nat_lit 202, fD "_law_number" s_law_number "law_stuckwires_k61_texts_of_no_works" 393 201) ::
  (nat_lit 203, tO #[]) ::
  (nat_lit 206, cO "_law_read" 460 111 1 203 .none .none 205 463) ::
  (nat_lit 207, fD "_law_read" s_law_read "law_stuckwires_k61_texts_of_no_works" 393 206) ::
  (nat_lit 208, tO #[]) ::
  (nat_lit 210, tO #[.str "text" 469, .str "caught" 470, .str "found" 471, .str "e" 472, .str "kinds" 473]) ::
  (nat_lit 211, tO #[]) ::
  (nat_lit 213, cO "_law_told" 466 132 1 208 (.ref 210) (.ref 211) 212 474) ::
  (nat_lit 214, fD "_law_told" s_law_told "law_stuckwires_k61_texts_of_no_works" 393 213) ::
  (nat_lit 215, tO #[]) ::
  (nat_lit 217, tO #[.str "deck" 480, .str "words" 481]) ::
  (nat_lit 218, tO #[]) ::
  (nat_lit 220, cO "_law_word" 477 145 1 215 (.ref 217) (.ref 218) 219 482) ::
  (nat_lit 221, fD "_law_word" s_law_word "law_stuckwires_k61_texts_of_no_works" 393 220) ::
  (nat_lit 222, tO #[]) ::
  (nat_lit 224, tO #[.str "deck" 488, .str "rows" 489, .str "at" 490, .str "to" 491, .str "way" 492, .str "words" 493, .str "spot" 494]) ::
  (nat_lit 225, tO #[]) ::
  (nat_lit 227, cO "_law_rows_put" 485 149 2 222 (.ref 224) (.ref 225) 226 495) ::
  (nat_lit 228, fD "_law_rows_put" s_law_rows_put "law_stuckwires_k61_texts_of_no_works" 393 227) ::
  (nat_lit 229, tO #[]) ::
  (nat_lit 231, tO #[.str "deck" 501, .str "text" 502, .str "way" 503, .str "at" 504, .str "sign" 505]) ::
  (nat_lit 232, tO #[]) ::
  (nat_lit 234, cO "_law_spoilt" 498 170 2 229 (.ref 231) (.ref 232) 233 506) ::
  (nat_lit 235, fD "_law_spoilt" s_law_spoilt "law_stuckwires_k61_texts_of_no_works" 393 234) ::
  (nat_lit 236, tO #[]) ::
  (nat_lit 239, cO "law" 509 183 1 236 .none .none 238 512) ::
  (nat_lit 240, fD "law" s_law "law_stuckwires_k61_texts_of_no_works" 393 239) :: []
def partAt : List Addr := [2, 3, 15, 22, 23, 24, 25, 28, 35, 36, 37, 40, 47, 48, 49, 52, 59, 60, 61, 64, 71, 72, 73, 76, 83, 84, 85, 88, 95, 96, 97, 100, 101, 102, 103, 104, 105, 106, 107, 108, 110, 111, 113, 114, 115, 117, 118, 120, 121, 122, 124, 125, 127, 128, 129, 132, 133, 134, 137, 138, 139, 142, 143, 144, 146, 147, 149, 150, 151, 153, 154, 156, 157, 158, 160, 161, 163, 164, 165, 167, 168, 170, 171, 172, 174, 175, 177, 178, 179, 182, 183, 191, 193, 194, 196, 197, 198, 201, 202, 203, 206, 207, 208, 210, 211, 213, 214, 215, 217, 218, 220, 221, 222, 224, 225, 227, 228, 229, 231, 232, 234, 235, 236, 239, 240]
noncomputable def view : Program := { PySem.Challenge.pw_stuckwires_k61_texts_of_no_works with main := { PySem.Challenge.pw_stuckwires_k61_texts_of_no_works.main with body := [1, 2, 3, 4, 5, 6, 7, 9, 10, 11, 12, 13, 15, 16, 17, 18, 20, 21, 22, 23, 24, 25, 26, 27, 28, 29, 30, 31, 32, 33].map top } }
end My
section
open PySem PySem.W PyProof.Rows
theorem My.mpE {α β γ : Type} {o : Option α} {f : α → β × γ} {b : β × γ} (h1 : o.map (fun s => (f s).1) = some b.1) (h2 : o.map (fun s => (f s).2) = some b.2) : o.map (fun s => f s) = some b := by
  cases o with
  | none => cases h1
  | some a => exact congrArg some (Prod.ext (Option.some.inj h1) (Option.some.inj h2))
theorem My.mpP {α β γ : Type} {o : Option α} {f : α → β} {g : α → γ} {b : β} {c : γ} (h1 : o.map (fun s => f s) = some b) (h2 : o.map (fun s => g s) = some c) : o.map (fun s => (f s, g s)) = some (b, c) := by
  cases o with
  | none => cases h1
  | some a => exact congrArg some (Prod.ext (Option.some.inj h1) (Option.some.inj h2))
set_option maxRecDepth 100000 in
set_option maxHeartbeats 0 in
theorem My.hlAF (w : World) : (openEnds treeTable PySem.Challenge.rw_stuckwires_k61_texts_of_no_works.row.prog (w.withFollow "special-get-raises" false) 4662).map (fun s => (openSeen My.view ["LEG_BOUNDS"] (importedModules PySem.Challenge.rw_stuckwires_k61_texts_of_no_works.row.prog.main.body) (fun s => xlAt My.view [] s && recOk (RowW.records (OpenRow.toRowW PySem.Challenge.rw_stuckwires_k61_texts_of_no_works.row)) s) true s)) = some ((openGood My.view ["LEG_BOUNDS"])) := by kernel_rfl
set_option maxRecDepth 100000 in
set_option maxHeartbeats 0 in
theorem My.hlBF (w : World) : (openEnds treeTable PySem.Challenge.rw_stuckwires_k61_texts_of_no_works.row.prog (w.withFollow "special-get-raises" false) 4662).map (fun s => (Hook.obs (kHook My.part My.partAt (fun _ => by kernel_rfl))) s) = some ((Hook.val (kHook My.part My.partAt (fun _ => by kernel_rfl))) (w.withFollow "special-get-raises" false)) := by kernel_rfl
set_option maxRecDepth 100000 in
set_option maxHeartbeats 0 in
theorem My.hlAT (w : World) : (openEnds treeTable PySem.Challenge.rw_stuckwires_k61_texts_of_no_works.row.prog (w.withFollow "special-get-raises" true) 4662).map (fun s => (openSeen My.view ["LEG_BOUNDS"] (importedModules PySem.Challenge.rw_stuckwires_k61_texts_of_no_works.row.prog.main.body) (fun s => xlAt My.view [] s && recOk (RowW.records (OpenRow.toRowW PySem.Challenge.rw_stuckwires_k61_texts_of_no_works.row)) s) true s)) = some ((openGood My.view ["LEG_BOUNDS"])) := by kernel_rfl
set_option maxRecDepth 100000 in
set_option maxHeartbeats 0 in
theorem My.hlBT (w : World) : (openEnds treeTable PySem.Challenge.rw_stuckwires_k61_texts_of_no_works.row.prog (w.withFollow "special-get-raises" true) 4662).map (fun s => (Hook.obs (kHook My.part My.partAt (fun _ => by kernel_rfl))) s) = some ((Hook.val (kHook My.part My.partAt (fun _ => by kernel_rfl))) (w.withFollow "special-get-raises" true)) := by kernel_rfl
set_option maxRecDepth 100000 in
set_option maxHeartbeats 0 in
theorem My.hl0 : PySem.W.LeftO PySem.Challenge.rw_stuckwires_k61_texts_of_no_works.row.prog My.view ["LEG_BOUNDS"] (fun s => xlAt My.view [] s && recOk (RowW.records (OpenRow.toRowW PySem.Challenge.rw_stuckwires_k61_texts_of_no_works.row)) s) (Hook.obs (kHook My.part My.partAt (fun _ => by kernel_rfl))) (Hook.val (kHook My.part My.partAt (fun _ => by kernel_rfl))) 4662 := fun w => by
  have e := World.withFollow_self w "special-get-raises"
  cases hb : w.params.followText "special-get-raises" with
  | false =>
    rw [hb] at e
    have h := My.mpP (My.hlAF w) (My.hlBF w)
    rw [e] at h
    exact h
  | true =>
    rw [hb] at e
    have h := My.mpP (My.hlAT w) (My.hlBT w)
    rw [e] at h
    exact h
end
namespace L2
open PySem PySem.Spec PyProof.Rows

noncomputable abbrev Key := Sum Int Str
noncomputable def keyIs : Key → Value → Bool
  | .inl k, v => Value.isInt k v
  | .inr x, v => Value.isStrOf x v
noncomputable def keyH (w : World) : Key → Int
  | .inl k => hashInt k
  | .inr x => hashStr w x
theorem keyIs_shape : ∀ {k : Key} {v : Value}, keyIs k v = true → (∃ i t, k = Sum.inl i ∧ v = Value.int i t) ∨ (∃ x t, k = Sum.inr x ∧ v = Value.str x t)
  | .inl i, v, h => by
    obtain ⟨t, e⟩ := Value.isInt_shape (k := i) (v := v) h
    exact .inl ⟨i, t, rfl, e⟩
  | .inr x, v, h => by
    obtain ⟨t, e⟩ := Value.isStrOf_shape (x := x) (v := v) h
    exact .inr ⟨x, t, rfl, e⟩
theorem keyIs_int (i : Int) (t : Tok) : keyIs (.inl i) (.int i t) = true := by simp [keyIs, Value.isInt]
theorem keyIs_str (x : Str) (t : Tok) : keyIs (.inr x) (.str x t) = true := by simp [keyIs, Value.isStrOf]
theorem key_ll (a b : Int) : decide ((Sum.inl a : Key) = Sum.inl b) = (a == b) := by
  by_cases e : a = b
  · subst e; simp
  · have h : ¬ (Sum.inl a : Key) = Sum.inl b := fun q => e (Sum.inl.inj q)
    rw [decide_eq_false h]
    exact (beq_eq_false_iff_ne.mpr e).symm
theorem key_rr (a b : Str) : decide ((Sum.inr a : Key) = Sum.inr b) = decide (a = b) := by
  by_cases e : a = b
  · subst e; simp
  · have h : ¬ (Sum.inr a : Key) = Sum.inr b := fun q => e (Sum.inr.inj q)
    rw [decide_eq_false h, decide_eq_false e]
theorem key_lr (a : Int) (b : Str) : decide ((Sum.inl a : Key) = Sum.inr b) = false := decide_eq_false (fun q => nomatch q)
theorem key_rl (a : Str) (b : Int) : decide ((Sum.inr a : Key) = Sum.inl b) = false := decide_eq_false (fun q => nomatch q)

noncomputable def mixKind (prog : Program) (w : World) : PySem.KeyKind prog w Key where
  is := keyIs
  hash := keyH w
  inj := fun v a b ha hb => by
    rcases keyIs_shape ha with ⟨i, t, rfl, rfl⟩ | ⟨x, t, rfl, rfl⟩
    · rcases keyIs_shape hb with ⟨j, u, rfl, e⟩ | ⟨y, u, rfl, e⟩
      · injection e with e1 _; rw [e1]
      · exact nomatch e
    · rcases keyIs_shape hb with ⟨j, u, rfl, e⟩ | ⟨y, u, rfl, e⟩
      · exact nomatch e
      · injection e with e1 _; rw [e1]
  byValue := fun k v h => by
    rcases keyIs_shape h with ⟨i, t, rfl, rfl⟩ | ⟨x, t, rfl, rfl⟩ <;> rfl
  pyHash := fun hv h => by
    rcases keyIs_shape hv with ⟨i, t, rfl, rfl⟩ | ⟨x, t, rfl, rfl⟩
    · exact wpAny_pyHash_int h
    · exact wpAny_pyHash_str h
  eqBool := fun hu hv h => by
    rcases keyIs_shape hu with ⟨i, t, rfl, rfl⟩ | ⟨x, t, rfl, rfl⟩
    · rcases keyIs_shape hv with ⟨j, u, rfl, rfl⟩ | ⟨y, u, rfl, rfl⟩
      · rw [key_ll] at h; exact wpAny_eqBool_int h
      · rw [key_lr] at h; exact SeqAt.EqAt.int_str i t y u _ _ _ _ h
    · rcases keyIs_shape hv with ⟨j, u, rfl, rfl⟩ | ⟨y, u, rfl, rfl⟩
      · rw [key_rl] at h; exact SeqAt.EqAt.str_int x t j u _ _ _ _ h
      · rw [key_rr] at h; exact wpAny_eqBool_str h
  «strs» := fun k x t v h => by
    rcases keyIs_shape h with ⟨i, u, rfl, e⟩ | ⟨y, u, rfl, e⟩
    · exact nomatch e
    · injection e with e1 _
      subst e1
      cases v <;> rfl

theorem mixKind_int (prog : Program) (w : World) (i : Int) (t : Tok) : (mixKind prog w).is (.inl i) (.int i t) = true := keyIs_int i t
theorem mixKind_str (prog : Program) (w : World) (x : Str) (t : Tok) : (mixKind prog w).is (.inr x) (.str x t) = true := keyIs_str x t
end L2

namespace L2
open PySem PySem.Spec PyProof.Rows

inductive V where
  | non | bl (b : Bool) | int (i : Int) | str (x : Str) | byt (b : Array UInt8) | flt (b : UInt64) | ref (a : Addr) | ty (n : String)
  deriving DecidableEq

noncomputable def RelV : V → Value → Prop
  | .non, u => u = Value.none
  | .bl b, u => u = Value.bool b
  | .int i, u => ∃ t, u = Value.int i t
  | .str x, u => ∃ t, u = Value.str x t
  | .byt b, u => ∃ t, u = Value.bytes b t
  | .flt b, u => ∃ t, u = Value.float b t
  | .ref a, u => u = Value.ref a
  | .ty n, u => u = Value.type n

noncomputable abbrev Vals : List V → List Value → Prop := Paired RelV
theorem Vals.length {xs : List V} {us : List Value} (r : Vals xs us) : xs.length = us.length := Paired.length r
theorem Vals.get : ∀ {xs : List V} {us : List Value} {i : Nat} {x : V}, Vals xs us → xs[i]? = some x → ∃ u, us[i]? = some u ∧ RelV x u
  | _, _, _, _, .nil, e => by simp at e
  | _, _, 0, _, .cons r _, e => by simp at e; subst e; exact ⟨_, rfl, r⟩
  | _, _, i + 1, x, .cons _ t, e => by
    obtain ⟨u, h1, h2⟩ := Vals.get (i := i) (x := x) t (by simpa using e)
    exact ⟨u, by simpa using h1, h2⟩
theorem Vals.set {x : V} {u : Value} (r : RelV x u) : ∀ {xs : List V} {us : List Value} (i : Nat), Vals xs us → Vals (xs.set i x) (us.set i u)
  | _, _, _, .nil => .nil
  | _, _, 0, .cons _ t => .cons r t
  | _, _, i + 1, .cons q t => .cons q (Vals.set r i t)
theorem Vals.append : ∀ {xs ys : List V} {us ws : List Value}, Vals xs us → Vals ys ws → Vals (xs ++ ys) (us ++ ws)
  | _, _, _, _, .nil, s => s
  | _, _, _, _, .cons r t, s => .cons r (Vals.append t s)
theorem Vals.take : ∀ {xs : List V} {us : List Value} (n : Nat), Vals xs us → Vals (xs.take n) (us.take n)
  | _, _, 0, _ => .nil
  | _, _, _ + 1, .nil => .nil
  | _, _, n + 1, .cons r t => .cons r (Vals.take n t)
theorem Vals.drop : ∀ {xs : List V} {us : List Value} (n : Nat), Vals xs us → Vals (xs.drop n) (us.drop n)
  | _, _, 0, r => r
  | _, _, _ + 1, .nil => .nil
  | _, _, n + 1, .cons _ t => Vals.drop n t
noncomputable def RelO : Option V → Option Value → Prop
  | some v, some u => RelV v u
  | none, none => True
  | _, _ => False
noncomputable def KV {κ : Type} : List (κ × V) → List (κ × Value) → Prop := Paired fun (p : κ × V) (q : κ × Value) => p.1 = q.1 ∧ RelV p.2 q.2

noncomputable def kV : Key → V
  | .inl i => .int i
  | .inr x => .str x

inductive HO where
    | lst (xs : List V)
    | tup (xs : List V)
    | dK (kvs : List (Key × V)) | dT (kvs : List (List Key × V))
    | set (S : Int → Bool) (n : Nat)
    | ins (C dx : Addr) (fs : List (Str × V))
    | own (x : Addr)
    | xd (fs : List (Str × V))
    | met (f x : Addr)
    | rng (lo hi : Int)
    | frz (o : Obj) (u : HO)
    | tbl (ps : Array Value)
    | ext (φ : Heap → Prop)

noncomputable abbrev Hp := Addr → Option HO
noncomputable def upd (H : Hp) (a : Addr) (o : HO) : Hp := fun b => if b = a then some o else H b
theorem upd_same {H : Hp} {a : Addr} {o : HO} : upd H a o a = some o := by unfold upd; rw [if_pos rfl]
theorem upd_ne {H : Hp} {a b : Addr} {o : HO} (h : b ≠ a) : upd H a o b = H b := by unfold upd; rw [if_neg h]
theorem upd_upd {H : Hp} {a : Addr} {o u : HO} : upd (upd H a o) a u = upd H a u := by
  funext b; unfold upd; split <;> rfl
theorem ne_of {H : Hp} {a b : Addr} {o u : HO} (h : H a = some o) (h' : H b = some u) (d : o ≠ u) : a ≠ b := by
  intro e; subst e; rw [h] at h'; exact d (Option.some.inj h')
theorem ne_of_none {H : Hp} {a b : Addr} {o : HO} (h : H a = some o) (h' : H b = none) : a ≠ b := by
  intro e; subst e; rw [h] at h'; cases h'

noncomputable def RdT (H : Hp) (b : Addr) (xs : List V) : Prop := H b = some (.tup xs) ∨ ∃ o, H b = some (.frz o (.tup xs))
theorem RdT.put {H : Hp} {a c : Addr} {o : HO} {xs : List V} (q : RdT H c xs) (n : c ≠ a) : RdT (upd H a o) c xs := by
  rcases q with q | ⟨u, q⟩
  · exact .inl (by rw [upd_ne n]; exact q)
  · exact .inr ⟨u, by rw [upd_ne n]; exact q⟩
theorem RdT.upd {H : Hp} {a c : Addr} {o : HO} {xs : List V} (q : RdT H c xs) (n : H a = none) : RdT (L2.upd H a o) c xs := by
  rcases q with q | ⟨u, q⟩
  · exact RdT.put (.inl q) (ne_of_none q n)
  · exact RdT.put (.inr ⟨u, q⟩) (ne_of_none q n)
theorem RdT.same {H H' : Hp} {c : Addr} {xs : List V} (q : RdT H c xs) (s : ∀ b o, H b = some o → H' b = some o) : RdT H' c xs := by
  rcases q with q | ⟨u, q⟩
  · exact .inl (s _ _ q)
  · exact .inr ⟨u, s _ _ q⟩
theorem RdT.write {H : Hp} {D c : Addr} {l : List V} {o : HO} {xs : List V} (q : RdT H c xs) (hD : H D = some (.lst l)) : RdT (L2.upd H D o) c xs := by
  rcases q with q | ⟨u, q⟩
  · exact RdT.put (.inl q) (ne_of q hD (fun z => nomatch z))
  · exact RdT.put (.inr ⟨u, q⟩) (ne_of q hD (fun z => nomatch z))
theorem RdT.keep {H H' : Hp} {c : Addr} {xs : List V} (q : RdT H c xs) (k : ∀ o, H c = some o → (∃ ys, o = .tup ys ∨ ∃ u, o = .frz u (.tup ys)) → H' c = some o) : RdT H' c xs := by
  rcases q with q | ⟨u, q⟩
  · exact .inl (k _ q ⟨xs, .inl rfl⟩)
  · exact .inr ⟨u, k _ q ⟨xs, .inr ⟨u, rfl⟩⟩⟩
section
variable (P : Program) (w : World)
noncomputable def ObjOk (H : Hp) (h : Heap) (a : Addr) : HO → Prop
  | .lst xs => xs.length ≤ sizeLine ∧ ∃ (its : List Value) (n : Nat), Vals xs its ∧ h.get? a = some { cls := .type "list", data := .seq its.toArray n }
  | .tup xs => xs.length ≤ sizeLine ∧ ∃ its : List Value, Vals xs its ∧ IsTup h a its.toArray
  | .dK kvs => kvs.length ≤ sizeLine ∧ (a == sysModules) = false ∧ ∃ vs, KV kvs vs ∧ h.DictOf (mixKind P w) a vs
  | .dT kvs => kvs.length ≤ sizeLine ∧ (a == sysModules) = false ∧ ∃ xs : List (List Key × Addr × Value),
      Paired (fun (p : List Key × V) (q : List Key × Addr × Value) => p.1 = q.1 ∧ RdT H q.2.1 (p.1.map kV) ∧ RelV p.2 q.2.2) kvs xs ∧
      ∃ o es ep, h.get? a = some o ∧ o.ExactDict ∧ o.data = .dict es ep ∧ es.toList = xs.map (entryOfKey (tupleKind (mixKind P w))) ∧ (xs.map (·.1)).Nodup
  | .set S n => h.SetOf (intKind P w) a S n
  | .ins C dx fs => H dx = some (.own a) ∧ fs.length ≤ 1000 ∧ dx ≠ a ∧ h.get? a = some (PySem.W.instObj C dx) ∧
      ∃ mA, h.Ns1 dx mA ∧ (∀ f, RelO (fs.lookup f) (mA f)) ∧ PySem.Within mA (fs.map (·.1))
  | .own _ => ∃ o, h.get? a = some o
  | .xd fs => ∃ mA, h.Ns1 a mA ∧ ∀ f, RelO (fs.lookup f) (mA f)
  | .rng lo hi => ∃ t u v, h.get? a = some { cls := .type "range", data := .fields #[.int lo t, .int hi u, .int 1 v] }
  | .frz o u => h.get? a = some o ∧ ObjOk H h a u
  | .tbl ps => h.get? a = some { cls := .none, data := .fields ps }
  | .met f x => h.get? a = some (PySem.W.methodObj (.ref f) (.ref x))
  | .ext φ => φ h ∧ (∃ o, h.get? a = some o) ∧ ∀ h1 h2 : Heap, φ h1 → (∀ o, h1.get? a = some o → h2.get? a = some o) → φ h2
noncomputable def HOk (H : Hp) (h : Heap) : Prop := ∀ a o, H a = some o → ObjOk P w H h a o
end

section
variable {P : Program} {w : World} {H H' : Hp} {h h' : Heap} {a : Addr} {o : HO}
theorem ObjOk.lt (x : ObjOk P w H h a o) : a < h.objs.size := by
  cases o with
  | lst xs => obtain ⟨_, _, _, _, e⟩ := x; exact Heap.lt_size e
  | tup xs => obtain ⟨_, _, _, p⟩ := x; exact p.lt
  | dK kvs => obtain ⟨_, _, _, _, o, _, _, e, _⟩ := x; exact Heap.lt_size e
  | dT kvs => obtain ⟨_, _, _, _, o, _, _, e, _⟩ := x; exact Heap.lt_size e
  | set S n => obtain ⟨o, _, _, _, e, _⟩ := x; exact Heap.lt_size e
  | ins C dx fs => obtain ⟨_, _, _, e, _⟩ := x; exact Heap.lt_size e
  | own y => obtain ⟨_, e⟩ := x; exact Heap.lt_size e
  | xd fs => obtain ⟨_, ⟨_, _, _, e, _⟩, _⟩ := x; exact Heap.lt_size e
  | rng lo hi => obtain ⟨_, _, _, e⟩ := x; exact Heap.lt_size e
  | frz ob u => obtain ⟨e, _⟩ := x; exact Heap.lt_size e
  | tbl ps => exact Heap.lt_size (show h.get? a = some _ from x)
  | met f y => exact Heap.lt_size (show h.get? a = some _ from x)
  | ext φ => obtain ⟨_, ⟨_, e⟩, _⟩ := x; exact Heap.lt_size e
theorem Paired.mapP {α β : Type} {F G : α → β → Prop} : ∀ {l₁ : List α} {l₂ : List β}, Paired F l₁ l₂ → (∀ a b, F a b → G a b) → Paired G l₁ l₂
  | _, _, .nil, _ => .nil
  | _, _, .cons r t, f => .cons (f _ _ r) (Paired.mapP t f)
theorem ObjOk.stay (x : ObjOk P w H h a o) (k : ∀ b u, (b = a ∨ H b = some (.own a)) → h.get? b = some u → h'.get? b = some u)
    (ho : ∀ b, H b = some (.own a) → H' b = some (.own a)) (ht : ∀ b xs, RdT H b xs → RdT H' b xs) : ObjOk P w H' h' a o := by
  induction o with
  | lst xs => obtain ⟨z, its, n, r, e⟩ := x; exact ⟨z, its, n, r, k _ _ (.inl rfl) e⟩
  | tup xs => obtain ⟨z, its, r, ob, e, c⟩ := x; exact ⟨z, its, r, ob, k _ _ (.inl rfl) e, c⟩
  | dK kvs => obtain ⟨z, y, vs, r, ob, es, ep, e, c⟩ := x; exact ⟨z, y, vs, r, ob, es, ep, k _ _ (.inl rfl) e, c⟩
  | dT kvs =>
    obtain ⟨z, y, xs, r, ob, es, ep, e, c⟩ := x
    exact ⟨z, y, xs, Paired.mapP r fun p q z => ⟨z.1, ht _ _ z.2.1, z.2.2⟩, ob, es, ep, k _ _ (.inl rfl) e, c⟩
  | set S n => obtain ⟨ob, es, ep, t, e, c⟩ := x; exact ⟨ob, es, ep, t, k _ _ (.inl rfl) e, c⟩
  | ins C dx fs =>
    obtain ⟨d, z, ne, e, mA, ⟨od, es, ep, e2, c⟩, r⟩ := x
    exact ⟨ho _ d, z, ne, k _ _ (.inl rfl) e, mA, ⟨od, es, ep, k _ _ (.inr d) e2, c⟩, r⟩
  | own y => obtain ⟨ob, e⟩ := x; exact ⟨ob, k _ _ (.inl rfl) e⟩
  | xd fs => obtain ⟨mA, ⟨od, es, ep, e, c⟩, r⟩ := x; exact ⟨mA, ⟨od, es, ep, k _ _ (.inl rfl) e, c⟩, r⟩
  | rng lo hi => obtain ⟨t, u, v, e⟩ := x; exact ⟨t, u, v, k _ _ (.inl rfl) e⟩
  | frz ob u ih => obtain ⟨e, q⟩ := x; exact ⟨k _ _ (.inl rfl) e, ih q⟩
  | tbl ps =>
    have e : h.get? a = some { cls := .none, data := .fields ps } := x
    show h'.get? a = some { cls := .none, data := .fields ps }
    exact k a _ (.inl rfl) e
  | met f y =>
    have e : h.get? a = some (PySem.W.methodObj (.ref f) (.ref y)) := x
    show h'.get? a = some (PySem.W.methodObj (.ref f) (.ref y))
    exact k a _ (.inl rfl) e
  | ext φ => obtain ⟨p, ⟨o, e⟩, st⟩ := x; exact ⟨st _ _ p fun o q => k _ _ (.inl rfl) q, ⟨o, k _ _ (.inl rfl) e⟩, st⟩
theorem HOk.lt (x : HOk P w H h) (e : H a = some o) : a < h.objs.size := (x a o e).lt
theorem HOk.fresh (x : HOk P w H h) (e : h.objs.size ≤ a) : H a = none := by
  cases q : H a with
  | none => rfl
  | some u => exact absurd (Nat.lt_of_lt_of_le (x.lt q) e) (Nat.lt_irrefl _)
theorem HOk.kept (x : HOk P w H h) (k : ∀ b u, h.get? b = some u → h'.get? b = some u) : HOk P w H h' := fun a o e =>
  (x a o e).stay (fun b u _ q => k b u q) (fun _ q => q) fun _ _ q => q
theorem HOk.laid (x : HOk P w H h) (k : ∀ b u, h.get? b = some u → h'.get? b = some u) (hp : h.objs.size ≤ a) (new : ObjOk P w (upd H a o) h' a o) : HOk P w (upd H a o) h' := fun b u e => by
  have hn := x.fresh hp
  by_cases hb : b = a
  · subst hb; rw [upd_same] at e; cases e; exact new
  · rw [upd_ne hb] at e
    exact (x b u e).stay (fun c v _ q => k c v q) (fun c q => by rw [upd_ne (ne_of_none q hn)]; exact q) fun c xs q => q.upd hn
end

noncomputable def Rd (H : Hp) (a : Addr) (u : HO) : Prop := H a = some u ∨ ∃ o, H a = some (.frz o u)
theorem Rd.of {H : Hp} {a : Addr} {u : HO} (h : H a = some u) : Rd H a u := .inl h
theorem Rd.ok {P : Program} {w : World} {H : Hp} {h : Heap} {a : Addr} {u : HO} (r : Rd H a u) (x : HOk P w H h) : ObjOk P w H h a u := by
  rcases r with r | ⟨o, r⟩
  · exact x a u r
  · obtain ⟨_, q⟩ := x a _ r
    exact q
noncomputable def Mut : Option HO → Prop
  | some (.lst _) => True
  | some (.dK _) => True
  | some (.dT _) => True
  | some (.set _ _) => True
  | some (.ins _ _ _) => True
  | some (.ext _) => True
  | _ => False
section
variable {P : Program} {w : World} {H : Hp} {h h' : Heap} {x e : Addr} {o' : HO}
theorem HOk.write (ok : HOk P w H h) (mu : Mut (H x)) (he : e = x ∨ H e = some (.own x)) (k : ∀ b u, b ≠ e → h.get? b = some u → h'.get? b = some u) (heo : ∃ u, h'.get? e = some u)
    (new : ObjOk P w (upd H x o') h' x o') : HOk P w (upd H x o') h' := fun b u q => by
  have nown : ∀ c y, H c = some (.own y) → c ≠ x := fun c y r z => by subst z; rw [r] at mu; exact mu
  have ntup : ∀ c xs, RdT H c xs → c ≠ x := fun c xs r z => by subst z; rcases r with r | ⟨_, r⟩ <;> (rw [r] at mu; exact mu)
  by_cases hb : b = x
  · subst hb; rw [upd_same] at q; cases q; exact new
  · rw [upd_ne hb] at q
    by_cases hbe : b = e
    · have q' : H b = some (.own x) := by
        rcases he with z | z
        · exact absurd (hbe.trans z) hb
        · rw [hbe]; exact z
      rw [q] at q'; cases q'
      obtain ⟨v, hv⟩ := heo
      exact ⟨v, by rw [hbe]; exact hv⟩
    · refine (ok b u q).stay (fun c v hc r => k c v ?_ r) (fun c r => by rw [upd_ne (nown c b r)]; exact r) fun c xs r => r.put (ntup c xs r)
      rcases hc with rfl | hc
      · exact hbe
      · rintro rfl
        rcases he with z | z
        · exact nown c b hc z
        · rw [hc] at z; cases z; exact hb rfl
end

structure Un (fs ex : List Addr) (H H' : Hp) (h h' : Heap) : Prop where
  keep : ∀ b o, h.get? b = some o → H b = none → b ∉ fs → b ∉ ex → h'.get? b = some o
  slot : ∀ b o, h.get? b = some o → H b = none → b ∈ fs → b ∉ ex → ∃ sl, h'.get? b = some { o with slots := sl }
  free : ∀ b o, h.get? b = some o → H b = none → b ∉ ex → H' b = none
  there : ∀ b o, h.get? b = some o → b ∉ ex → ∃ o', h'.get? b = some o'
  tups : ∀ b xs, H b = some (.tup xs) → H' b = some (.tup xs)
  frzs : ∀ b o u, H b = some (.frz o u) → H' b = some (.frz o u)
  tbls : ∀ b ps, H b = some (.tbl ps) → ∃ more, H' b = some (.tbl (ps ++ more))
section
variable {fs fs' ex ex' : List Addr} {H H1 H2 : Hp} {h h1 h2 h' : Heap} {a x e : Addr} {o : HO}
theorem Un.any (u : Un fs ex H H1 h h1) {b : Addr} {ob : Obj} (q : h.get? b = some ob) (n : H b = none) (hx : b ∉ ex) : ∃ sl, h1.get? b = some { ob with slots := sl } := by
  by_cases hb : b ∈ fs
  · exact u.slot b ob q n hb hx
  · exact ⟨ob.slots, u.keep b ob q n hb hx⟩
theorem Un.trans (a : Un fs ex H H1 h h1) (b : Un fs ex H1 H2 h1 h2) : Un fs ex H H2 h h2 where
  keep := fun c ob q n hc hx => b.keep c ob (a.keep c ob q n hc hx) (a.free c ob q n hx) hc hx
  slot := fun c ob q n hc hx => by
    obtain ⟨sl, e1⟩ := a.slot c ob q n hc hx
    obtain ⟨sl', e2⟩ := b.slot c _ e1 (a.free c ob q n hx) hc hx
    exact ⟨sl', e2⟩
  free := fun c ob q n hx => by
    obtain ⟨o', e1⟩ := a.there c ob q hx
    exact b.free c o' e1 (a.free c ob q n hx) hx
  there := fun c ob q hx => by
    obtain ⟨o', e1⟩ := a.there c ob q hx
    exact b.there c o' e1 hx
  tups := fun c xs q => b.tups c xs (a.tups c xs q)
  frzs := fun c ob xs q => b.frzs c ob xs (a.frzs c ob xs q)
  tbls := fun c ps q => by
    obtain ⟨m1, e1⟩ := a.tbls c ps q
    obtain ⟨m2, e2⟩ := b.tbls c _ e1
    exact ⟨m1 ++ m2, by rw [e2, Array.append_assoc]⟩
theorem Un.kept (k : ∀ b u, h.get? b = some u → h'.get? b = some u) : Un fs ex H H h h' :=
  ⟨fun b ob q _ _ _ => k b ob q, fun b ob q _ _ _ => ⟨ob.slots, k b ob q⟩, fun _ _ _ n _ => n, fun b ob q _ => ⟨ob, k b ob q⟩, fun _ _ q => q, fun _ _ _ q => q, fun _ ps q => ⟨#[], by rw [q]; simp⟩⟩
theorem Un.refl : Un fs ex H H h h := Un.kept fun _ _ q => q
theorem Un.laid (k : ∀ b u, h.get? b = some u → h'.get? b = some u) (hp : h.objs.size ≤ a) (hn : H a = none) : Un fs ex H (upd H a o) h h' where
  keep := fun b u q _ _ _ => k b u q
  slot := fun b u q _ _ _ => ⟨u.slots, k b u q⟩
  free := fun b u q n _ => by rw [upd_ne (Nat.ne_of_lt (Nat.lt_of_lt_of_le (Heap.lt_size q) hp))]; exact n
  there := fun b u q _ => ⟨u, k b u q⟩
  tups := fun b xs q => by rw [upd_ne (ne_of_none q hn)]; exact q
  frzs := fun b u xs q => by rw [upd_ne (ne_of_none q hn)]; exact q
  tbls := fun b ps q => ⟨#[], by rw [upd_ne (ne_of_none q hn), q]; simp⟩
theorem Un.write (mu : Mut (H x)) (he : e = x ∨ H e = some (.own x)) (k : ∀ b u, b ≠ e → h.get? b = some u → h'.get? b = some u) (heo : ∃ u, h'.get? e = some u) : Un fs ex H (upd H x o) h h' := by
  have hx : ∀ b, H b = none → b ≠ x := fun b n z => by subst z; rw [n] at mu; exact mu
  have hb : ∀ b, H b = none → b ≠ e := fun b n z => by
    subst z
    rcases he with r | r
    · exact hx b n r
    · rw [n] at r; cases r
  have hm : ∀ b u, H b = some u → ¬ Mut (some u) → b ≠ x := fun b u q nm z => by subst z; rw [q] at mu; exact nm mu
  refine ⟨fun b u q n _ _ => k b u (hb b n) q, fun b u q n _ _ => ⟨u.slots, k b u (hb b n) q⟩, fun b u q n _ => by rw [upd_ne (hx b n)]; exact n, fun b u q _ => ?_,
    fun b xs q => by rw [upd_ne (hm b _ q fun z => z)]; exact q, fun b u xs q => by rw [upd_ne (hm b _ q fun z => z)]; exact q, fun b ps q => ⟨#[], by rw [upd_ne (hm b _ q fun z => z), q]; simp⟩⟩
  by_cases hbe : b = e
  · subst hbe; exact heo
  · exact ⟨u, k b u hbe q⟩
theorem Un.mono (u : Un fs ex H H1 h h1) (hs : ∀ b ∈ fs, b ∈ fs') (hx : ∀ b ∈ ex, b ∈ ex') : Un fs' ex' H H1 h h1 :=
  ⟨fun b ob q n hb he => u.keep b ob q n (fun z => hb (hs b z)) fun z => he (hx b z), fun _ _ q n _ he => u.any q n fun z => he (hx _ z), fun b ob q n he => u.free b ob q n fun z => he (hx b z), fun b ob q he => u.there b ob q fun z => he (hx b z), u.tups, u.frzs, u.tbls⟩
end

noncomputable def trk (h : Heap) (H : Hp) : List Addr := (List.range h.objs.size).filter fun a => (H a).isSome
noncomputable def hidT (h : Heap) (H : Hp) : Heap := PySem.W.hideAll h (trk h H)
theorem hidT_size (h : Heap) (H : Hp) : (hidT h H).objs.size = h.objs.size := PySem.W.hideAll_size _ _
theorem hidT_get {h : Heap} {H : Hp} {b : Addr} {o : Obj} (e : h.get? b = some o) (n : H b = none) : (hidT h H).get? b = some o :=
  PySem.W.hideAll_get _ e fun hm => by
    have q : (H b).isSome = true := (List.mem_filter.mp hm).2
    rw [n] at q; simp at q
theorem of_hidT {h : Heap} {H : Hp} {b : Addr} {o : Obj} (e : (hidT h H).get? b = some o) : h.get? b = some o ∧ H b = none := by
  have e' : h.get? b = some o := PySem.W.of_hideAll (trk h H) e
  refine ⟨e', ?_⟩
  cases q : H b with
  | none => rfl
  | some x =>
    have hm : b ∈ trk h H := List.mem_filter.mpr ⟨List.mem_range.mpr (Heap.lt_size e'), by simp [q]⟩
    have z : (hidT h H).get? b = none := PySem.W.hideAll_none (trk h H) hm
    rw [z] at e; cases e

noncomputable def allNews (g h : Heap) (L : Addr) : List (Addr × Obj) := (List.range h.objs.size).filterMap fun a => if a = L ∨ (g.get? a).isSome = true then none else (h.get? a).map fun o => (a, o)
noncomputable def rest (g h : Heap) (L d : Addr) : List (Addr × Obj) := (allNews g h L).filter fun p => decide (p.1 ≠ d)
end L2

namespace L2
open PySem PySem.Spec PyProof.Rows

structure Mod (K : PySem.W.Frag) (mg : Str → Option Value) (base : Heap) : Prop where
  kin : K.In base
  glob : base.Ns mainGlobals mg
  blt : ∃ mb, base.Ns builtinsNs mb ∧ ∀ x : Str, x ≠ "__name__" → mb x = bootBuiltins x
  nolimit : base.NoLimit

structure Cx where
  prog : Program
  w : World
  K : PySem.W.Frag
  mg : Str → Option Value
  base : Heap
  A : Around
  N : List Str
  s₀ : Shared
  H₀ : Hp
  env : Env
  outer : List Env
  stack : List Env
  ex : List Addr
  fn : Str → Bool
  calm : Bool
  pn : List (Addr × Obj)
  xe : Value → Shared → Prop
noncomputable def frs (l : List Env) : List Addr := l.filterMap (·.frame)
noncomputable abbrev Cx.fs (X : Cx) : List Addr := frs X.outer

noncomputable def Vis (sc : Scope) (x : Str) : Prop := sc.names.lookup x = some .local ∨ sc.names.lookup x = some .cell ∨ sc.names.lookup x = some .free
noncomputable def Loc (sc : Scope) (x : Str) : Prop := sc.names.lookup x = some .local ∨ sc.names.lookup x = some .cell
noncomputable def Look (env : Env) (h : Heap) (m : Str → Option Value) (x : Str) (u : Value) : Prop :=
  (env.kindOf x = some .local ∧ m x = some u) ∨ ((env.kindOf x = some .cell ∨ env.kindOf x = some .free) ∧ ∃ c, env.cells.lookup x = some c ∧ h.IsCell c (some u))

structure Cx.Ok (X : Cx) : Prop where
  mod : Mod X.K X.mg X.base
  kind : X.env.scope.kind = .function
  glob : X.env.globals = mainGlobals
  blt : X.env.builtins = builtinsNs
  above : X.s₀.heap.objs.size ≤ X.env.locals
  inj : ∀ x y c, X.env.cells.lookup x = some c → X.env.cells.lookup y = some c → x = y
  has : ∀ x, (X.env.kindOf x = some .cell ∨ X.env.kindOf x = some .free) → ∃ c, X.env.cells.lookup x = some c
  cab : ∀ x c, X.fn x = true → X.env.cells.lookup x = some c → X.s₀.heap.objs.size ≤ c
  hd : X.calm = true → X.A.handled = none
  frames : X.A.frames = some X.stack
  stk : X.stack = X.outer ∨ (X.stack = X.env :: X.outer ∧ X.env.frame = some X.env.locals)
  exf : ∀ b ∈ X.ex, b ≠ X.env.locals ∧ ∀ x c, X.env.cells.lookup x = some c → c ≠ b
  bs : ∀ b o, X.base.get? b = some o → X.s₀.heap.get? b = some o ∧ X.H₀ b = none
  bsz : X.base.objs.size ≤ X.s₀.heap.objs.size
  noex : ∀ b o, X.base.get? b = some o → b ∉ X.ex
  exfs : ∀ b ∈ X.ex, b ∉ X.fs
  funs : X.s₀.heap.FunFrames X.base X.outer
  frf : ∀ b ∈ X.fs, X.H₀ b = none

structure Inv (X : Cx) (pins : List (Addr × Obj)) (σ : List (Option V)) (H : Hp) (s : Shared) : Prop where
  ok : X.Ok
  os : s.os = X.s₀.os
  bare : AllBare s.gens
  base : Un X.fs X.ex X.H₀ H X.s₀.heap s.heap
  loc : ∃ m, s.heap.Ns X.env.locals m ∧ ∀ (i : Nat) (x : Str) (v : V), X.N[i]? = some x → σ[i]? = some (some v) → Vis X.env.scope x → ∃ u, RelV v u ∧ Look X.env s.heap m x u
  cell : ∀ x c, X.env.cells.lookup x = some c → ∃ v, s.heap.IsCell c v
  free : H X.env.locals = none
  freeC : ∀ x c, X.env.cells.lookup x = some c → H c = none
  pin : ∀ p ∈ X.pn ++ pins, s.heap.get? p.1 = some p.2 ∧ H p.1 = none ∧ p.1 ≠ X.env.locals ∧ p.1 ∉ X.fs ∧ ∀ v, p.2.data ≠ .cell v
  hok : HOk X.prog X.w H s.heap
  len : σ.length = X.N.length

section
variable {X : Cx} {pins : List (Addr × Obj)} {σ : List (Option V)} {H H' : Hp} {s : Shared} {h' : Heap}

theorem Cx.Ok.nofr (ok : X.Ok) {b : Addr} {o : Obj} (e : X.base.get? b = some o) : b ∉ X.fs := fun hb => by
  have := (ok.funs.mem hb).1
  rw [e] at this; cases this
theorem Inv.bs (I : Inv X pins σ H s) : ∀ b o, X.base.get? b = some o → s.heap.get? b = some o ∧ H b = none := fun b o e =>
  ⟨I.base.keep b o (I.ok.bs b o e).1 (I.ok.bs b o e).2 (I.ok.nofr e) (I.ok.noex b o e), I.base.free b o (I.ok.bs b o e).1 (I.ok.bs b o e).2 (I.ok.noex b o e)⟩
theorem Inv.bk (I : Inv X pins σ H s) : ∀ b o, X.base.get? b = some o → s.heap.get? b = some o := fun b o e => (I.bs b o e).1
theorem Inv.mod (I : Inv X pins σ H s) : Mod X.K X.mg X.base := I.ok.mod
theorem Inv.kIn (I : Inv X pins σ H s) : X.K.In s.heap := I.ok.mod.kin.keeps I.bk
theorem Inv.nolimit (I : Inv X pins σ H s) : s.heap.NoLimit := I.ok.mod.nolimit.keeps I.bk
theorem Inv.fr (I : Inv X pins σ H s) : ∃ m, Fr X.base X.env.locals s.heap m :=
  let ⟨m, hn, _⟩ := I.loc
  ⟨m, hn, I.bk, Nat.le_trans I.ok.bsz I.ok.above⟩
theorem Inv.lt (I : Inv X pins σ H s) : X.env.locals < s.heap.objs.size := let ⟨_, hn, _⟩ := I.loc; hn.lt
theorem Inv.sz (I : Inv X pins σ H s) : X.s₀.heap.objs.size ≤ s.heap.objs.size := Nat.le_trans I.ok.above (Nat.le_of_lt I.lt)
theorem Inv.nofs (I : Inv X pins σ H s) {a : Addr} (h : s.heap.objs.size ≤ a) : a ∉ X.fs := fun hb => by
  obtain ⟨_, o, ho, _⟩ := I.ok.funs.mem hb
  exact absurd (Nat.lt_of_lt_of_le (Heap.lt_size ho) (Nat.le_trans I.sz h)) (Nat.lt_irrefl _)
theorem Inv.cne (I : Inv X pins σ H s) : ∀ x c, X.env.cells.lookup x = some c → c ≠ X.env.locals := fun x c e z => by
  obtain ⟨v, o, ho, hd⟩ := I.cell x c e
  obtain ⟨m, ⟨o', es, ep, ho', hd', _⟩, _⟩ := I.loc
  rw [z, ho'] at ho; cases ho; rw [hd'] at hd; cases hd
theorem Inv.funs (I : Inv X pins σ H s) : s.heap.FunFrames X.base X.outer := by
  have all : ∀ (l : List Env), (∀ b ∈ frs l, b ∈ X.fs) → X.s₀.heap.FunFrames X.base l → s.heap.FunFrames X.base l := by
    intro l
    induction l with
    | nil => intro _ _; trivial
    | cons env r ih =>
      intro hs hl
      obtain ⟨hk, ⟨L, o, hf, hn, ho, hd⟩, hr⟩ := hl
      have hL : L ∈ X.fs := hs L (by unfold frs; rw [List.filterMap_cons, hf]; exact List.mem_cons_self)
      obtain ⟨sl, e⟩ := I.base.slot L o ho (I.ok.frf L hL) hL fun z => I.ok.exfs L z hL
      exact ⟨hk, ⟨L, _, hf, hn, e, hd⟩, ih (fun b hb => hs b (by unfold frs; rw [List.filterMap_cons, hf]; exact List.mem_cons_of_mem _ hb)) hr⟩
  exact all X.outer (fun _ hb => hb) I.ok.funs

theorem Inv.stack (I : Inv X pins σ H s) : s.heap.FunFrames X.base X.stack := by
  rcases I.ok.stk with e | ⟨e, hf⟩
  · rw [e]; exact I.funs
  · rw [e]
    obtain ⟨m, hn, _⟩ := I.loc
    refine .cons (by rw [I.ok.kind]; decide) hf hn ?_ I.funs
    exact Heap.get?_none_of_le (Nat.le_trans I.ok.bsz I.ok.above)
theorem Inv.stkSub (I : Inv X pins σ H s) : ∀ b ∈ frs X.stack, b ∈ X.env.locals :: X.fs := fun b hb => by
  rcases I.ok.stk with e | ⟨e, hf⟩
  · rw [e] at hb; exact List.mem_cons_of_mem _ hb
  · rw [e] at hb
    unfold frs at hb
    rw [List.filterMap_cons, hf] at hb
    exact hb
theorem Inv.stkFree (I : Inv X pins σ H s) : ∀ b ∈ frs X.stack, H b = none := fun b hb => by
  rcases List.mem_cons.mp (I.stkSub b hb) with e | hb
  · rw [e]; exact I.free
  · obtain ⟨_, o, ho, _⟩ := I.ok.funs.mem hb
    exact I.base.free b o ho (I.ok.frf b hb) fun z => I.ok.exfs b z hb

theorem Inv.step {g' : Array GenState} {t' : Nat} {d' : Drawn} {ch : List Addr} (I : Inv X pins σ H s)
    (hch : ∀ b ∈ ch, (b ∈ X.ex ∨ X.s₀.heap.objs.size ≤ b) ∧ b ≠ X.env.locals ∧ (∀ x c, X.env.cells.lookup x = some c → c ≠ b) ∧ ∀ p ∈ X.pn ++ pins, p.1 ≠ b)
    (keep : ∀ b o, b ≠ X.env.locals → b ∉ X.fs → b ∉ ch → s.heap.get? b = some o → H b = none → h'.get? b = some o)
    (slot : ∀ b o, b ≠ X.env.locals → b ∈ X.fs → b ∉ ch → s.heap.get? b = some o → H b = none → ∃ sl, h'.get? b = some { o with slots := sl }) (free : ∀ b o, b ∉ ch → s.heap.get? b = some o → H b = none → H' b = none)
    (there : ∀ b o, b ∉ ch → s.heap.get? b = some o → ∃ o', h'.get? b = some o')
    (tups : ∀ b xs, H b = some (.tup xs) → H' b = some (.tup xs)) (frzs : ∀ b o u, H b = some (.frz o u) → H' b = some (.frz o u)) (tbls : ∀ b ps, H b = some (.tbl ps) → ∃ more, H' b = some (.tbl (ps ++ more)))
    (ns : ∀ m, s.heap.Ns X.env.locals m → h'.Ns X.env.locals m) (hok : HOk X.prog X.w H' h') (hg : AllBare g') :
    Inv X pins σ H' { s with heap := h', gens := g', drawn := d', toks := t' } := by
  have neL : ∀ b o, X.s₀.heap.get? b = some o → b ≠ X.env.locals := fun b o e => Nat.ne_of_lt (Nat.lt_of_lt_of_le (Heap.lt_size e) I.ok.above)
  have neC : ∀ b o, X.s₀.heap.get? b = some o → b ∉ X.ex → b ∉ ch := fun b o e hx hb => by
    rcases (hch b hb).1 with z | z
    · exact hx z
    · exact absurd (Nat.lt_of_lt_of_le (Heap.lt_size e) z) (Nat.lt_irrefl _)
  have cellK : ∀ x c, X.env.cells.lookup x = some c → ∀ v, s.heap.IsCell c v → h'.IsCell c v := fun x c e v ⟨o, ho, hd⟩ => by
    have nch : c ∉ ch := fun z => (hch c z).2.2.1 x c e rfl
    by_cases hc : c ∈ X.fs
    · obtain ⟨sl, q⟩ := slot c o (I.cne x c e) hc nch ho (I.freeC x c e)
      exact ⟨_, q, hd⟩
    · exact ⟨o, keep c o (I.cne x c e) hc nch ho (I.freeC x c e), hd⟩
  refine ⟨I.ok, I.os, hg, ⟨fun b o e n hb hx => ?_, fun b o e n hb hx => ?_, fun b o e n hx => ?_, fun b o e hx => ?_, fun b xs e => tups b xs (I.base.tups b xs e), fun b o xs e => frzs b o xs (I.base.frzs b o xs e), fun b ps e => ?_⟩, ?_, fun x c e => ?_, ?_, fun x c e => ?_, fun p hp => ?_, hok, I.len⟩
  · exact keep b o (neL b o e) hb (neC b o e hx) (I.base.keep b o e n hb hx) (I.base.free b o e n hx)
  · obtain ⟨sl, e1⟩ := I.base.slot b o e n hb hx
    obtain ⟨sl', e2⟩ := slot b _ (neL b o e) hb (neC b o e hx) e1 (I.base.free b o e n hx)
    exact ⟨sl', e2⟩
  · obtain ⟨o', e1⟩ := I.base.there b o e hx
    exact free b o' (neC b o e hx) e1 (I.base.free b o e n hx)
  · obtain ⟨o', e1⟩ := I.base.there b o e hx
    exact there b o' (neC b o e hx) e1
  · obtain ⟨m1, e1⟩ := I.base.tbls b ps e
    obtain ⟨m2, e2⟩ := tbls b _ e1
    exact ⟨m1 ++ m2, by rw [e2, Array.append_assoc]⟩
  · obtain ⟨m, hn, hl⟩ := I.loc
    refine ⟨m, ns m hn, fun i x v e1 e2 e3 => ?_⟩
    obtain ⟨u, r, l⟩ := hl i x v e1 e2 e3
    refine ⟨u, r, ?_⟩
    rcases l with l | ⟨k, c, e, z⟩
    · exact .inl l
    · exact .inr ⟨k, c, e, cellK x c e _ z⟩
  · obtain ⟨v, z⟩ := I.cell x c e
    exact ⟨v, cellK x c e v z⟩
  · obtain ⟨m, ⟨o, _, _, ho, _⟩, _⟩ := I.loc
    exact free _ o (fun z => (hch _ z).2.1 rfl) ho I.free
  · obtain ⟨v, o, ho, hd⟩ := I.cell x c e
    exact free c o (fun z => (hch c z).2.2.1 x c e rfl) ho (I.freeC x c e)
  · obtain ⟨e, n, ne, nf, d⟩ := I.pin p hp
    have nch : p.1 ∉ ch := fun z => (hch p.1 z).2.2.2 p hp rfl
    exact ⟨keep p.1 p.2 ne nf nch e n, free p.1 p.2 nch e n, ne, nf, d⟩
theorem Inv.un {t' : Nat} (I : Inv X pins σ H s) (u : Un X.fs [] H H' s.heap h') (hok : HOk X.prog X.w H' h') : Inv X pins σ H' { s with heap := h', toks := t' } := by
  obtain ⟨m, ⟨o, es, ep, ho, r⟩, _⟩ := id I.loc
  obtain ⟨sl, hL⟩ := u.any ho I.free (by simp)
  exact I.step (g' := s.gens) (d' := s.drawn) (ch := []) (fun _ z => nomatch z) (fun b o _ hb _ e n => u.keep b o e n hb (by simp)) (fun b o _ hb _ e n => u.slot b o e n hb (by simp)) (fun b o _ e n => u.free b o e n (by simp)) (fun b o _ e => u.there b o e (by simp)) u.tups u.frzs u.tbls (fun m' hm => by
    obtain ⟨o', es', ep', ho', r'⟩ := hm
    rw [ho] at ho'; cases ho'
    exact ⟨_, es', ep', hL, r'⟩) hok I.bare
theorem Inv.call {g' : Array GenState} {t' : Nat} {d' : Drawn} {ch : List Addr} (I : Inv X pins σ H s) (u : Un (frs X.stack) ch H H' s.heap h') (hok : HOk X.prog X.w H' h') (hg : AllBare g')
    (hch : ∀ b ∈ ch, (b ∈ X.ex ∨ X.s₀.heap.objs.size ≤ b) ∧ b ≠ X.env.locals ∧ (∀ x c, X.env.cells.lookup x = some c → c ≠ b) ∧ ∀ p ∈ X.pn ++ pins, p.1 ≠ b) :
    Inv X pins σ H' { s with heap := h', gens := g', drawn := d', toks := t' } := by
  obtain ⟨m, ⟨o, es, ep, ho, r⟩, _⟩ := id I.loc
  obtain ⟨sl, hL⟩ := u.any ho I.free fun z => (hch _ z).2.1 rfl
  exact I.step (ch := ch) hch (fun b o hL hb hc e n => u.keep b o e n (fun z => (List.mem_cons.mp (I.stkSub b z)).elim hL hb) hc) (fun b o _ _ hc e n => u.any e n hc) (fun b o hc e n => u.free b o e n hc) (fun b o hc e => u.there b o e hc) u.tups u.frzs u.tbls (fun m' hm => by
    obtain ⟨o', es', ep', ho', r'⟩ := hm
    rw [ho] at ho'; cases ho'
    exact ⟨_, es', ep', hL, r'⟩) hok hg
theorem Inv.turned {t' : Nat} {it : Addr} (I : Inv X pins σ H s) (k : ∀ b o, b ≠ it → s.heap.get? b = some o → h'.get? b = some o) (hn : H it = none) (hL : it ≠ X.env.locals)
    (h1 : it ∈ X.ex ∨ X.s₀.heap.objs.size ≤ it) (h2 : ∀ x c, X.env.cells.lookup x = some c → c ≠ it) (h3 : ∀ p ∈ X.pn ++ pins, p.1 ≠ it) : Inv X pins σ H { s with heap := h', toks := t' } := by
  have nit : ∀ b u, H b = some u → b ≠ it := fun b u e z => by rw [z, hn] at e; cases e
  refine I.step (g' := s.gens) (d' := s.drawn) (ch := [it]) (fun b hb => ?_) (fun b o _ _ hc e _ => k b o (fun z => hc (by simp [z])) e) (fun b o _ _ hc e _ => ⟨o.slots, k b o (fun z => hc (by simp [z])) e⟩) (fun _ _ _ _ n => n)
    (fun b o hc e => ⟨o, k b o (fun z => hc (by simp [z])) e⟩) (fun _ _ e => e) (fun _ _ _ e => e) (fun b ps e => ⟨#[], by rw [e]; simp⟩) (fun m hm => ?_) (fun b u e => ?_) I.bare
  · have e : b = it := by simpa using hb
    subst e
    exact ⟨h1, hL, h2, h3⟩
  · obtain ⟨o, es, ep, ho, r⟩ := hm
    exact ⟨o, es, ep, k _ o (Ne.symm hL) ho, r⟩
  · refine (I.hok b u e).stay (fun c v hc q => k c v ?_ q) (fun _ q => q) fun _ _ q => q
    rcases hc with z | z
    · rw [z]; exact nit b u e
    · exact nit c _ z
theorem Inv.tok (I : Inv X pins σ H s) (t : Nat) : Inv X pins σ H { s with toks := t } := I.un (h' := s.heap) (t' := t) Un.refl I.hok
theorem Inv.kept {t' : Nat} (I : Inv X pins σ H s) (k : ∀ b u, s.heap.get? b = some u → h'.get? b = some u) : Inv X pins σ H { s with heap := h', toks := t' } := I.un (Un.kept k) (I.hok.kept k)
theorem Inv.laid {a : Addr} {o : HO} {t' : Nat} (I : Inv X pins σ H s) (k : ∀ b u, s.heap.get? b = some u → h'.get? b = some u) (hp : s.heap.objs.size ≤ a) (new : ObjOk X.prog X.w (upd H a o) h' a o) :
    Inv X pins σ (upd H a o) { s with heap := h', toks := t' } := I.un (Un.laid k hp (I.hok.fresh hp)) (I.hok.laid k hp new)
theorem Inv.write {x e : Addr} {o : HO} {t' : Nat} (I : Inv X pins σ H s) (mu : Mut (H x)) (he : e = x ∨ H e = some (.own x)) (k : ∀ b u, b ≠ e → s.heap.get? b = some u → h'.get? b = some u) (heo : ∃ u, h'.get? e = some u)
    (new : ObjOk X.prog X.w (upd H x o) h' x o) : Inv X pins σ (upd H x o) { s with heap := h', toks := t' } := I.un (Un.write mu he k heo) (I.hok.write mu he k heo new)
theorem Inv.weak {σ' : List (Option V)} (I : Inv X pins σ H s) (hl : σ'.length = σ.length) (w : ∀ (i : Nat) v, σ'[i]? = some (some v) → σ[i]? = some (some v)) : Inv X pins σ' H s :=
  ⟨I.ok, I.os, I.bare, I.base, let ⟨m, hn, hl'⟩ := I.loc; ⟨m, hn, fun i x v e1 e2 e3 => hl' i x v e1 (w i v e2) e3⟩, I.cell, I.free, I.freeC, I.pin, I.hok, hl.trans I.len⟩
theorem Inv.pins_of {pins' : List (Addr × Obj)} (I : Inv X pins σ H s) (h : ∀ p ∈ pins', s.heap.get? p.1 = some p.2 ∧ H p.1 = none ∧ p.1 ≠ X.env.locals ∧ p.1 ∉ X.fs ∧ ∀ v, p.2.data ≠ .cell v) : Inv X pins' σ H s :=
  ⟨I.ok, I.os, I.bare, I.base, I.loc, I.cell, I.free, I.freeC, fun p hp => (List.mem_append.mp hp).elim (fun z => I.pin p (List.mem_append_left _ z)) (h p), I.hok, I.len⟩

theorem nodup_ix {N : List Str} (hN : N.Nodup) {i j : Nat} {x : Str} (a : N[i]? = some x) (b : N[j]? = some x) : i = j := by
  obtain ⟨h1, e1⟩ := List.getElem?_eq_some_iff.mp a
  obtain ⟨h2, e2⟩ := List.getElem?_eq_some_iff.mp b
  exact (List.getElem_inj hN).mp (e1.trans e2.symm)

theorem store_ok2 {M : Model} {A : Around} {E : Value → Shared → Prop} {i : Nat} {x : Str} {v : V} {u : Value} {Q : Unit → Shared → Prop} (I : Inv X pins σ H s) (hN : X.N.Nodup) (hi : X.N[i]? = some x) (hx : Loc X.env.scope x) (r : RelV v u)
    (h : ∀ s', Inv X pins (σ.set i (some v)) H s' → (∃ a, Heap.SameBut a s.heap s'.heap ∧ (a = X.env.locals ∨ X.env.cells.lookup x = some a)) → Q () s') (hf : X.fn x = true ∨ X.env.scope.names.lookup x = some .local := by first | exact .inl rfl | exact .inr rfl | assumption) : wpAny M A (storeName X.env x u) Q E s := by
  obtain ⟨m, hn, hl⟩ := id I.loc
  have hcls : (X.env.scope.kind == .class || (X.env.scope.kind == .module && X.env.locals != X.env.globals)) = false := by rw [I.ok.kind]; rfl
  have hiσ : i < σ.length := by rw [I.len]; exact (List.getElem?_eq_some_iff.mp hi).1
  have cne := I.cne
  have tracked : ∀ {a : Addr} {h' : Heap}, (∃ o, s.heap.get? a = some o ∧ H a = none) → Heap.SameBut a s.heap h' → HOk X.prog X.w H h' := fun {a h'} ha hs b ob e => by
    obtain ⟨_, _, hfree⟩ := ha
    refine (I.hok b ob e).stay (fun c w' hc q => (hs.2 c ?_).trans q) (fun _ q => q) fun _ _ q => q
    rintro rfl
    rcases hc with rfl | hc
    · rw [hfree] at e; cases e
    · rw [hfree] at hc; cases hc
  rcases hx with hk | hk
  · refine wpAny_storeName_local hk hn (fun h' hn' hs => ?_) hcls
    obtain ⟨oL, _, _, hoL, _⟩ := id hn
    refine h _ ⟨I.ok, I.os, I.bare, ⟨fun b o e n hb hx => ?_, fun b o e n hb hx => ?_, I.base.free, fun b o e hx => ?_, I.base.tups, I.base.frzs, I.base.tbls⟩, ⟨_, hn', fun j y v' e1 e2 e3 => ?_⟩, fun y c e => ?_, I.free, I.freeC, fun p hp => ?_, tracked ⟨oL, hoL, I.free⟩ hs, by simpa using I.len⟩ ⟨_, hs, .inl rfl⟩
    · exact (hs.2 b (Nat.ne_of_lt (Nat.lt_of_lt_of_le (Heap.lt_size e) I.ok.above))).trans (I.base.keep b o e n hb hx)
    · obtain ⟨sl, e1⟩ := I.base.slot b o e n hb hx
      exact ⟨sl, (hs.2 b (Nat.ne_of_lt (Nat.lt_of_lt_of_le (Heap.lt_size e) I.ok.above))).trans e1⟩
    · obtain ⟨o', e1⟩ := I.base.there b o e hx
      exact ⟨o', (hs.2 b (Nat.ne_of_lt (Nat.lt_of_lt_of_le (Heap.lt_size e) I.ok.above))).trans e1⟩
    · by_cases hj : j = i
      · subst hj
        rw [hi] at e1; cases e1
        rw [List.getElem?_set_self hiσ] at e2
        cases e2
        exact ⟨u, r, .inl ⟨hk, by simp⟩⟩
      · rw [List.getElem?_set_ne (Ne.symm hj)] at e2
        obtain ⟨u', r', q⟩ := hl j y v' e1 e2 e3
        refine ⟨u', r', ?_⟩
        rcases q with ⟨k, e⟩ | ⟨k, c, e, z⟩
        · refine .inl ⟨k, ?_⟩
          have : y ≠ x := fun e => hj (nodup_ix hN e1 (e ▸ hi))
          simp [this, e]
        · exact .inr ⟨k, c, e, z.sameBut hs (cne y c e)⟩
    · obtain ⟨w', z⟩ := I.cell y c e
      exact ⟨w', z.sameBut hs (cne y c e)⟩
    · obtain ⟨e, n, ne, nf, d⟩ := I.pin p hp
      exact ⟨(hs.2 p.1 ne).trans e, n, ne, nf, d⟩
  · have hfn : X.fn x = true := by
      rcases hf with z | z
      · exact z
      · rw [z] at hk; cases hk
    obtain ⟨c, hc⟩ := I.ok.has x (.inl hk)
    obtain ⟨w', z⟩ := I.cell x c hc
    refine wpAny_storeName_cell I.ok.kind hk hc z (fun h' hc' hs => ?_)
    obtain ⟨oc, hoc, hocd⟩ := id z
    refine h { s with heap := h' } ⟨I.ok, I.os, I.bare, ⟨fun b o e n hb hx => ?_, fun b o e n hb hx => ?_, I.base.free, fun b o e hx => ?_, I.base.tups, I.base.frzs, I.base.tbls⟩, ⟨m, hn.sameBut hs (Ne.symm (cne x c hc)), fun j y v' e1 e2 e3 => ?_⟩, fun y c' e => ?_, I.free, I.freeC, fun p hp => ?_, tracked ⟨oc, hoc, I.freeC x c hc⟩ hs, by simpa using I.len⟩ ⟨c, hs, .inr hc⟩
    · exact (hs.2 b (Nat.ne_of_lt (Nat.lt_of_lt_of_le (Heap.lt_size e) (I.ok.cab x c hfn hc)))).trans (I.base.keep b o e n hb hx)
    · obtain ⟨sl, e1⟩ := I.base.slot b o e n hb hx
      exact ⟨sl, (hs.2 b (Nat.ne_of_lt (Nat.lt_of_lt_of_le (Heap.lt_size e) (I.ok.cab x c hfn hc)))).trans e1⟩
    · obtain ⟨o', e1⟩ := I.base.there b o e hx
      exact ⟨o', (hs.2 b (Nat.ne_of_lt (Nat.lt_of_lt_of_le (Heap.lt_size e) (I.ok.cab x c hfn hc)))).trans e1⟩
    · by_cases hj : j = i
      · subst hj
        rw [hi] at e1; cases e1
        rw [List.getElem?_set_self hiσ] at e2
        cases e2
        exact ⟨u, r, .inr ⟨.inl hk, c, hc, hc'⟩⟩
      · rw [List.getElem?_set_ne (Ne.symm hj)] at e2
        obtain ⟨u', r', q⟩ := hl j y v' e1 e2 e3
        refine ⟨u', r', ?_⟩
        rcases q with q | ⟨k, c', e, z'⟩
        · exact .inl q
        · refine .inr ⟨k, c', e, z'.sameBut hs ?_⟩
          rintro rfl
          exact hj (nodup_ix hN e1 (I.ok.inj _ _ _ e hc ▸ hi))
    · by_cases hcc : c' = c
      · subst hcc; exact ⟨_, hc'⟩
      · obtain ⟨w2, z2⟩ := I.cell y c' e
        exact ⟨w2, z2.sameBut hs hcc⟩
    · obtain ⟨e, n, ne, nf, d⟩ := I.pin p hp
      refine ⟨(hs.2 p.1 ?_).trans e, n, ne, nf, d⟩
      intro q
      rw [q, hoc] at e
      have q' : oc = p.2 := Option.some.inj e
      exact d w' (by rw [← q']; exact hocd)
theorem store_ok {M : Model} {A : Around} {E : Value → Shared → Prop} {i : Nat} {x : Str} {v : V} {u : Value} {Q : Unit → Shared → Prop} (I : Inv X pins σ H s) (hN : X.N.Nodup) (hi : X.N[i]? = some x) (hx : Loc X.env.scope x) (r : RelV v u)
    (h : ∀ s', Inv X pins (σ.set i (some v)) H s' → Q () s') (hf : X.fn x = true ∨ X.env.scope.names.lookup x = some .local := by first | exact .inl rfl | exact .inr rfl | assumption) : wpAny M A (storeName X.env x u) Q E s :=
  store_ok2 I hN hi hx r (fun s' I' _ => h s' I') hf
theorem Inv.call' {s' : Shared} {ch : List Addr} (I : Inv X pins σ H s) (ho : s'.os = s.os) (u : Un (frs X.stack) ch H H' s.heap s'.heap) (hok : HOk X.prog X.w H' s'.heap) (hg : AllBare s'.gens)
    (hch : ∀ b ∈ ch, (b ∈ X.ex ∨ X.s₀.heap.objs.size ≤ b) ∧ b ≠ X.env.locals ∧ (∀ x c, X.env.cells.lookup x = some c → c ≠ b) ∧ ∀ p ∈ X.pn ++ pins, p.1 ≠ b) : Inv X pins σ H' s' := by
  obtain ⟨h', g', d', t', o'⟩ := s'
  have e : o' = s.os := ho
  subst e
  exact I.call (g' := g') (t' := t') (d' := d') u hok hg hch
end

noncomputable abbrev XK := Value → Option Addr → Hp → Prop
noncomputable abbrev St := List (Option V)
noncomputable abbrev VK := V → Hp → Prop
noncomputable abbrev TE := St → Hp → VK → Prop
noncomputable abbrev TT := St → Hp → (Bool → Hp → Prop) → Prop
noncomputable abbrev TA := St → Hp → (List V → Hp → Prop) → Prop
structure Ends where
  nx : St → Hp → Prop
  rt : VK
  bk : St → Hp → Prop := fun _ _ => False
  ct : St → Hp → Prop := fun _ _ => False
noncomputable abbrev TS := Ends → St → Hp → Prop

noncomputable def EP (X : Cx) (pins : List (Addr × Obj)) (σ : St) (Q : VK) (u : Value) (s' : Shared) : Prop := ∃ v H', Inv X pins σ H' s' ∧ RelV v u ∧ Q v H'
noncomputable def TP (X : Cx) (pins : List (Addr × Obj)) (σ : St) (Q : Bool → Hp → Prop) (b : Bool) (s' : Shared) : Prop := ∃ H', Inv X pins σ H' s' ∧ Q b H'
noncomputable def AP (X : Cx) (pins : List (Addr × Obj)) (σ : St) (Q : List V → Hp → Prop) (us : List Value) (s' : Shared) : Prop := ∃ vs H', Inv X pins σ H' s' ∧ Vals vs us ∧ Q vs H'
noncomputable def SP (X : Cx) (pins : List (Addr × Obj)) (D : Ends) (f : Flow) (s' : Shared) : Prop :=
  match f with
  | .next => ∃ σ' H', Inv X pins σ' H' s' ∧ D.nx σ' H'
  | .brk => ∃ σ' H', Inv X pins σ' H' s' ∧ D.bk σ' H'
  | .cont => ∃ σ' H', Inv X pins σ' H' s' ∧ D.ct σ' H'
  | .ret u => ∃ v σ' H', Inv X pins σ' H' s' ∧ RelV v u ∧ D.rt v H'

noncomputable def PE (X : Cx) (e : Expr) (t : TE) : Prop :=
  ∀ (pins : List (Addr × Obj)) (s : Shared) (σ : St) (H : Hp) (Q : VK), Inv X pins σ H s → t σ H Q → wpAny (model X.prog X.w) X.A (eval e X.env) (EP X pins σ Q) X.xe s
noncomputable def PT (X : Cx) (e : Expr) (t : TT) : Prop :=
  ∀ (pins : List (Addr × Obj)) (s : Shared) (σ : St) (H : Hp) (Q : Bool → Hp → Prop), Inv X pins σ H s → t σ H Q → wpAny (model X.prog X.w) X.A (isTrue e X.env (eval e X.env)) (TP X pins σ Q) X.xe s
noncomputable def PW (X : Cx) (e : Expr) (t : TT) : Prop :=
  ∀ (whole : Sem Value) (pins : List (Addr × Obj)) (s : Shared) (σ : St) (H : Hp) (Q : Bool → Hp → Prop), Inv X pins σ H s → t σ H Q → wpAny (model X.prog X.w) X.A (isTrue e X.env whole) (TP X pins σ Q) X.xe s
theorem PW.pt {X : Cx} {e : Expr} {t : TT} (h : PW X e t) : PT X e t := h _
noncomputable def PA (X : Cx) (es : List Expr) (t : TA) : Prop :=
  ∀ (pos : Pos) (pins : List (Addr × Obj)) (s : Shared) (σ : St) (H : Hp) (Q : List V → Hp → Prop), Inv X pins σ H s → t σ H Q → wpAny (model X.prog X.w) X.A (spliced (backTo pos (starEach es X.env))) (AP X pins σ Q) X.xe s
noncomputable def PS (X : Cx) (st : Stmt) (t : TS) : Prop :=
  ∀ (pins : List (Addr × Obj)) (s : Shared) (σ : St) (H : Hp) (D : Ends), Inv X pins σ H s → t D σ H → wpAny (model X.prog X.w) X.A (exec st X.env) (SP X pins D) X.xe s
noncomputable def PSs (X : Cx) (st : List Stmt) (t : TS) : Prop :=
  ∀ (pins : List (Addr × Obj)) (s : Shared) (σ : St) (H : Hp) (D : Ends), Inv X pins σ H s → t D σ H → wpAny (model X.prog X.w) X.A (execs st X.env) (SP X pins D) X.xe s
theorem thn {α : Type} {t : Sem α} {Q Q' : α → Shared → Prop} {M : Model} {A : Around} {E : Value → Shared → Prop} {s : Shared} (h : wpAny M A t Q E s) (hQ : ∀ a s, Q a s → Q' a s) : wpAny M A t Q' E s := wpAny_mono h hQ fun _ _ x => x
end L2

namespace L2
open PySem PySem.Spec PyProof.Rows
section
variable {X : Cx}

noncomputable def tVar (i : Nat) : TE := fun σ H Q => ∃ v, σ[i]? = some (some v) ∧ Q v H
noncomputable def tC (v : V) : TE := fun _ H Q => Q v H
theorem pe_var {i : Nat} {x : Str} {pos : Pos} (hN : X.N[i]? = some x) (hv : Vis X.env.scope x) (hd : (x == ("__debug__" : Str)) = false := by decide) (hcd : (x == ("__classdict__" : Str)) = false := by decide) : PE X (.Name x pos) (tVar i) := by
  intro pins s σ H Q I h
  obtain ⟨v, e, h⟩ := h
  obtain ⟨m, hn, hl⟩ := I.loc
  obtain ⟨u, r, l⟩ := hl i x v hN e hv
  have fin : EP X pins σ Q u s := ⟨v, H, I, r, h⟩
  rcases l with ⟨hk, hm⟩ | ⟨hk, c, hc, hcell⟩
  · exact wpAny_Name (wpAny_loadName_local I.ok.kind hk hn hm fin) hd
  · rcases hk with hk | hk
    · exact wpAny_Name (wpAny_loadName_cell I.ok.kind hk hc hcell fin) hd
    · exact wpAny_Name (wpAny_loadName_free I.ok.kind hk hc hcell fin hcd) hd
theorem pe_int {i j pos} : PE X (.Constant (.int i) j pos) (tC (.int i)) := fun _ _ _ H _ I h => wpAny_Constant_int ⟨.int i, H, I.tok _, ⟨_, rfl⟩, h⟩
theorem pe_bl {b j pos} : PE X (.Constant (.bool b) j pos) (tC (.bl b)) := fun _ _ _ H _ I h => Constant_bool ⟨.bl b, H, I, rfl, h⟩
theorem pe_non {j pos} : PE X (.Constant .none j pos) (tC .non) := fun _ _ _ H _ I h => Constant_none ⟨.non, H, I, rfl, h⟩
theorem pe_str {x j pos} : PE X (.Constant (.str x) j pos) (tC (.str x)) := fun _ _ _ H _ I h => Calls.Constant_str ⟨.str x, H, I.tok _, ⟨_, rfl⟩, h⟩

noncomputable def Gl (X : Cx) (x : Str) : Prop := X.env.kindOf x = some .globalImplicit
theorem ld_glob {E : Value → Shared → Prop} {pins : List (Addr × Obj)} {s : Shared} {σ : St} {H : Hp} {x : Str} {u : Value} {pos : Pos} {Q : Value → Shared → Prop} (I : Inv X pins σ H s) (hg : Gl X x) (hm : X.mg x = some u) (h : Q u s)
    (hd : (x == ("__debug__" : Str)) = false := by decide) : wpAny (model X.prog X.w) X.A (eval (.Name x pos) X.env) Q E s :=
  Calls.Name_function_global I.ok.kind hg (Calls.loadGlobal_global (by rw [I.ok.glob]; exact I.mod.glob.keeps I.bk) hm h) hd
theorem ld_blt {E : Value → Shared → Prop} {pins : List (Addr × Obj)} {s : Shared} {σ : St} {H : Hp} {x : Str} {u : Value} {pos : Pos} {Q : Value → Shared → Prop} (I : Inv X pins σ H s) (hg : Gl X x) (hm : X.mg x = none) (hv : bootBuiltins x = some u) (h : Q u s)
    (hn : x ≠ "__name__" := by decide) (hd : (x == ("__debug__" : Str)) = false := by decide) : wpAny (model X.prog X.w) X.A (eval (.Name x pos) X.env) Q E s := by
  obtain ⟨mb, h1, h2⟩ := I.mod.blt
  exact Calls.Name_function_global I.ok.kind hg (Calls.loadGlobal_builtin (by rw [I.ok.glob]; exact I.mod.glob.keeps I.bk) hm (by rw [I.ok.blt]; exact h1.keeps I.bk) ((h2 x hn).trans hv) h) hd
theorem pe_glob {x : Str} {v : V} {u : Value} {pos : Pos} (hg : Gl X x) (hm : X.mg x = some u) (r : RelV v u) (hd : (x == ("__debug__" : Str)) = false := by decide) : PE X (.Name x pos) (tC v) :=
  fun _ _ _ H _ I h => ld_glob I hg hm ⟨v, H, I, r, h⟩ hd
theorem pe_bltn {x : Str} {v : V} {u : Value} {pos : Pos} (hg : Gl X x) (hm : X.mg x = none) (hv : bootBuiltins x = some u) (r : RelV v u) (hn : x ≠ "__name__" := by decide) (hd : (x == ("__debug__" : Str)) = false := by decide) : PE X (.Name x pos) (tC v) :=
  fun _ _ _ H _ I h => ld_blt I hg hm hv ⟨v, H, I, r, h⟩ hn hd

variable {a b : Expr} {ta tb : TE} {pos : Pos}
noncomputable def PC (X : Cx) (op : CmpOp) (a b : Expr) (t : TE) : Prop :=
  ∀ (pins : List (Addr × Obj)) (s : Shared) (σ : St) (H : Hp) (Q : VK), Inv X pins σ H s → t σ H Q →
    wpAny (model X.prog X.w) X.A (eval a X.env) (fun v s₁ => wpAny (model X.prog X.w) X.A (eval b X.env) (fun u s₂ => wpAny (model X.prog X.w) X.A (compareOp op v u) (EP X pins σ Q) X.xe s₂) X.xe s₁) X.xe s
theorem nobehind (b : Expr) {op : CmpOp} (h : op ≠ .In) (h2 : op ≠ .NotIn) : behindInMarks op b = false := by
  have e1 : (op == CmpOp.In) = false := by cases op <;> first | rfl | exact absurd rfl h
  have e2 : (op == CmpOp.NotIn) = false := by cases op <;> first | rfl | exact absurd rfl h2
  cases b <;> simp [behindInMarks, e1, e2]
noncomputable def tIsN (ta : TE) : TE := fun σ H Q => ta σ H fun x H1 => Q (.bl (decide (x = .non))) H1
theorem RelV.none_iff {x : V} {v : Value} (r : RelV x v) : (v == Value.none) = decide (x = .non) := by
  cases x with
  | non => cases r; rfl
  | bl _ => cases r; rfl
  | int _ => obtain ⟨t, rfl⟩ := r; rfl
  | str _ => obtain ⟨t, rfl⟩ := r; rfl
  | byt _ => obtain ⟨t, rfl⟩ := r; rfl
  | flt _ => obtain ⟨t, rfl⟩ := r; rfl
  | ref _ => cases r; rfl
  | ty _ => cases r; rfl
theorem pc_isN {j pos'} (ha : PE X a ta) : PC X .Is a (.Constant .none j pos') (tIsN ta) := by
  intro pins s σ H Q I h
  refine thn (ha pins s σ H _ I h) fun v s1 ⟨x, H1, I1, r1, q1⟩ => ?_
  exact Constant_none (is_none_gen ⟨.bl _, H1, I1, by rw [r1.none_iff]; rfl, q1⟩)
noncomputable def tB (t : TE) : TT := fun σ H Q => t σ H fun x H1 => ∃ c, x = .bl c ∧ Q c H1
theorem pt_cmp {op : CmpOp} {t : TE} (h : PC X op a b t) (h1 : behindInMarks op b = false := by first | exact nobehind _ (by decide) (by decide) | rfl) : PT X (.Compare a [op] [b] pos) (tB t) := by
  intro pins s σ H Q I hw
  refine wpAny_isTrue_Compare1 (thn (h pins s σ H _ I hw) fun v s1 h1 => thn h1 fun u s2 h2 => thn h2 fun c s3 ⟨x, H1, I1, r1, q1⟩ => ?_) h1
  obtain ⟨d, rfl, q⟩ := q1
  cases r1
  exact wpAny_truthy_bool ⟨H1, I1, q⟩
theorem pt_val {e : Expr} {t : TE} (h : PE X e t) (he : ∀ whole, isTrue e X.env whole = (do let v ← whole; standAt e.pos; holding [v] (truthy v)) := by intro _; rfl) : PT X e (tB t) := by
  intro pins s σ H Q I hw
  refine isTrue_plain (thn (h pins s σ H _ I hw) fun v s1 ⟨x, H1, I1, r1, q1⟩ => ?_) (he _)
  obtain ⟨d, rfl, q⟩ := q1
  cases r1
  exact wpAny_truthy_bool ⟨H1, I1, q⟩

variable {tA tB' : TT} {rest : List Expr}
noncomputable def tAnd (t u : TT) : TT := fun σ H Q => t σ H fun c H1 => if c = true then u σ H1 Q else Q false H1
noncomputable def tOr (t u : TT) : TT := fun σ H Q => t σ H fun c H1 => if c = true then Q true H1 else u σ H1 Q
noncomputable def tNot (t : TT) : TT := fun σ H Q => t σ H fun c H1 => Q (!c) H1
theorem pw_and1 (ha : PT X a tA) : PW X (.BoolOp .And [a] pos) tA := by
  intro wh pins s σ H Q I h
  refine isTrue_and (thn (ha pins s σ H Q I h) fun c s1 e => ?_)
  cases c with
  | true => exact isTrue_and_nil e
  | false => exact e
theorem pw_or1 (ha : PT X a tA) : PW X (.BoolOp .Or [a] pos) tA := by
  intro wh pins s σ H Q I h
  refine isTrue_or (thn (ha pins s σ H Q I h) fun c s1 e => ?_)
  cases c with
  | false => exact isTrue_or_nil e
  | true => exact e
theorem pw_and (ha : PT X a tA) (hb : PW X (.BoolOp .And (b :: rest) pos) tB') : PW X (.BoolOp .And (a :: b :: rest) pos) (tAnd tA tB') := by
  intro wh pins s σ H Q I h
  refine isTrue_and (thn (ha pins s σ H _ I h) fun c s1 ⟨H1, I1, q1⟩ => ?_)
  cases c with
  | true => exact hb wh pins s1 σ H1 Q I1 q1
  | false => exact ⟨H1, I1, q1⟩
theorem pw_or (ha : PT X a tA) (hb : PW X (.BoolOp .Or (b :: rest) pos) tB') : PW X (.BoolOp .Or (a :: b :: rest) pos) (tOr tA tB') := by
  intro wh pins s σ H Q I h
  refine isTrue_or (thn (ha pins s σ H _ I h) fun c s1 ⟨H1, I1, q1⟩ => ?_)
  cases c with
  | true => exact ⟨H1, I1, q1⟩
  | false => exact hb wh pins s1 σ H1 Q I1 q1
theorem pt_not (ha : PT X a tA) : PT X (.UnaryOp .Not a pos) (tNot tA) := by
  intro pins s σ H Q I h
  exact isTrue_not (ha pins s σ H (fun c H1 => Q (!c) H1) I h)
end
end L2

namespace L2
open PySem PySem.Spec PyProof.Rows

noncomputable def SqL (K : PySem.W.Frag) (H : Hp) (a : Addr) (xs : List V) : Prop :=
  Rd H a (.lst xs) ∨
    ∃ (o : Obj) (its : Array Value) (n : Nat), K.lookup a = some o ∧ o.cls = .type "list" ∧ o.dict = none ∧ o.data = .seq its n ∧ its.size ≤ sizeLine ∧ Vals xs its.toList
noncomputable def SqT (K : PySem.W.Frag) (H : Hp) (a : Addr) (xs : List V) : Prop :=
  Rd H a (.tup xs) ∨
    ∃ (o : Obj) (its : Array Value) (n : Nat), K.lookup a = some o ∧ o.cls = .type "tuple" ∧ o.data = .seq its n ∧ its.size ≤ sizeLine ∧ Vals xs its.toList
noncomputable def absV : Value → Option V
  | .none => some .non
  | .bool b => some (.bl b)
  | .int i _ => some (.int i)
  | .str x _ => some (.str x)
  | .bytes b _ => some (.byt b)
  | .float b _ => some (.flt b)
  | .ref a => some (.ref a)
  | .type n => some (.ty n)
  | _ => none
theorem RelV.abs {x : V} {u : Value} (r : RelV x u) : absV u = some x := by
  cases x with
  | non => cases r; rfl
  | bl _ => cases r; rfl
  | int _ => obtain ⟨t, rfl⟩ := r; rfl
  | str _ => obtain ⟨t, rfl⟩ := r; rfl
  | byt _ => obtain ⟨t, rfl⟩ := r; rfl
  | flt _ => obtain ⟨t, rfl⟩ := r; rfl
  | ref _ => cases r; rfl
  | ty _ => cases r; rfl
theorem RelV.inj {x y : V} {u : Value} (r : RelV x u) (q : RelV y u) : x = y := Option.some.inj (r.abs.symm.trans q.abs)
theorem Vals.inj : ∀ {xs ys : List V} {us : List Value}, Vals xs us → Vals ys us → xs = ys
  | _, _, _, .nil, .nil => rfl
  | _, _, _, .cons r t, .cons r' t' => by rw [r.inj r', Vals.inj t t']
section
variable {X : Cx} {pins : List (Addr × Obj)} {σ : St} {H : Hp} {s : Shared} {a : Addr} {xs ys : List V}
theorem SqL.of {K : PySem.W.Frag} (h : H a = some (.lst xs)) : SqL K H a xs := .inl (.inl h)
theorem SqT.of {K : PySem.W.Frag} (h : H a = some (.tup xs)) : SqT K H a xs := .inl (.inl h)
theorem Inv.list (I : Inv X pins σ H s) (h : SqL X.K H a xs) : ∃ its : List Value, Vals xs its ∧ PlainL s.heap a its.toArray ∧ xs.length ≤ sizeLine := by
  rcases h with h | ⟨o, its, n, hk, hc, hd, hs, hz, r⟩
  · obtain ⟨z, its, n, r, e⟩ := h.ok I.hok
    exact ⟨its, r, ⟨_, n, e, rfl, rfl, rfl⟩, z⟩
  · refine ⟨its.toList, r, ⟨o, n, I.kIn a o hk, hc, hd, by simpa using hs⟩, ?_⟩
    have e := r.length
    simp only [Array.length_toList] at e
    omega
theorem Inv.tuple (I : Inv X pins σ H s) (h : SqT X.K H a xs) : ∃ its : List Value, Vals xs its ∧ IsTup s.heap a its.toArray ∧ xs.length ≤ sizeLine := by
  rcases h with h | ⟨o, its, n, hk, hc, hs, hz, r⟩
  · obtain ⟨z, its, r, p⟩ := h.ok I.hok
    exact ⟨its, r, p, z⟩
  · refine ⟨its.toList, r, ⟨o, I.kIn a o hk, hc, n, by simpa using hs⟩, ?_⟩
    have e := r.length
    simp only [Array.length_toList] at e
    omega
theorem Inv.list_inj (I : Inv X pins σ H s) (h : SqL X.K H a xs) (h' : SqL X.K H a ys) : xs = ys := by
  obtain ⟨its, r, ⟨o, n, e, _, _, d⟩, _⟩ := I.list h
  obtain ⟨its', r', ⟨o', n', e', _, _, d'⟩, _⟩ := I.list h'
  rw [e] at e'; cases e'
  rw [d] at d'
  injection d' with d1 _
  have : its = its' := by simpa using congrArg Array.toList d1
  subst this
  exact r.inj r'
theorem Inv.tuple_inj (I : Inv X pins σ H s) (h : SqT X.K H a xs) (h' : SqT X.K H a ys) : xs = ys := by
  obtain ⟨its, r, ⟨o, e, _, n, d⟩, _⟩ := I.tuple h
  obtain ⟨its', r', ⟨o', e', _, n', d'⟩, _⟩ := I.tuple h'
  rw [e] at e'; cases e'
  rw [d] at d'
  injection d' with d1 _
  have : its = its' := by simpa using congrArg Array.toList d1
  subst this
  exact r.inj r'
end

noncomputable abbrev Cx.wish (X : Cx) (E : Value → Shared → Prop) : Cx := { X with xe := E }
noncomputable abbrev Cx.nox (X : Cx) : Cx := X.wish fun _ _ => False
theorem Cx.Ok.wish {X : Cx} (ok : X.Ok) (E : Value → Shared → Prop) : (X.wish E).Ok :=
  ⟨ok.mod, ok.kind, ok.glob, ok.blt, ok.above, ok.inj, ok.has, ok.cab, ok.hd, ok.frames, ok.stk, ok.exf, ok.bs, ok.bsz, ok.noex, ok.exfs, ok.funs, ok.frf⟩
theorem Cx.Ok.unwish {X : Cx} {E : Value → Shared → Prop} (ok : (X.wish E).Ok) : X.Ok :=
  ⟨ok.mod, ok.kind, ok.glob, ok.blt, ok.above, ok.inj, ok.has, ok.cab, ok.hd, ok.frames, ok.stk, ok.exf, ok.bs, ok.bsz, ok.noex, ok.exfs, ok.funs, ok.frf⟩
section
variable {X : Cx} {pins : List (Addr × Obj)} {σ : St} {H : Hp} {s : Shared} {E : Value → Shared → Prop}
theorem Inv.wish (I : Inv X pins σ H s) (E : Value → Shared → Prop) : Inv (X.wish E) pins σ H s := ⟨I.ok.wish E, I.os, I.bare, I.base, I.loc, I.cell, I.free, I.freeC, I.pin, I.hok, I.len⟩
theorem Inv.unwish (I : Inv (X.wish E) pins σ H s) : Inv X pins σ H s := ⟨I.ok.unwish, I.os, I.bare, I.base, I.loc, I.cell, I.free, I.freeC, I.pin, I.hok, I.len⟩
theorem SP.unwish {D : Ends} {f : Flow} {s' : Shared} (h : SP (X.wish E) pins D f s') : SP X pins D f s' := by
  cases f with
  | next => obtain ⟨σ', H', I, q⟩ := h; exact ⟨σ', H', I.unwish, q⟩
  | brk => obtain ⟨σ', H', I, q⟩ := h; exact ⟨σ', H', I.unwish, q⟩
  | cont => obtain ⟨σ', H', I, q⟩ := h; exact ⟨σ', H', I.unwish, q⟩
  | ret u => obtain ⟨v, σ', H', I, r, q⟩ := h; exact ⟨v, σ', H', I.unwish, r, q⟩
theorem PE.nox {e : Expr} {t : TE} (h : PE X.nox e t) : PE X e t := fun pins s σ H Q I hw =>
  wpAny_mono (h pins s σ H Q (I.wish _) hw) (fun _ _ ⟨v, H', I', r, q⟩ => ⟨v, H', I'.unwish, r, q⟩) fun _ _ z => False.elim z
theorem PT.nox {e : Expr} {t : TT} (h : PT X.nox e t) : PT X e t := fun pins s σ H Q I hw =>
  wpAny_mono (h pins s σ H Q (I.wish _) hw) (fun _ _ ⟨H', I', q⟩ => ⟨H', I'.unwish, q⟩) fun _ _ z => False.elim z
theorem PSs.nox {st : List Stmt} {t : TS} (h : PSs X.nox st t) : PSs X st t := fun pins s σ H D I hw =>
  wpAny_mono (h pins s σ H D (I.wish _) hw) (fun _ _ q => q.unwish) fun _ _ z => False.elim z
end

section
variable {X : Cx} {st : Stmt} {rest : List Stmt} {t u : TS} {e : Expr} {te : TE} {pos : Pos}
noncomputable def tNext : TS := fun D σ H => D.nx σ H
noncomputable def tSeq (t u : TS) : TS := fun D σ H => t { D with nx := u D } σ H
theorem pss_nil : PSs X [] tNext := fun _ _ σ H _ I h => wpAny_execs_nil ⟨σ, H, I, h⟩
theorem pss_cons (h1 : PS X st t) (h2 : PSs X rest u) : PSs X (st :: rest) (tSeq t u) := by
  intro pins s σ H D I h
  refine wpAny_execs_cons (thn (h1 pins s σ H { D with nx := u D } I h) fun f s1 q => ?_)
  cases f with
  | next =>
    obtain ⟨σ', H', I', q⟩ := q
    exact h2 pins s1 σ' H' D I' q
  | ret v => exact q
  | brk => exact q
  | cont => exact q
theorem pss_one (h1 : PS X st t) : PSs X [st] t := by
  intro pins s σ H D I h
  refine wpAny_execs_cons (thn (h1 pins s σ H D I h) fun f s1 q => ?_)
  cases f with
  | next => exact wpAny_execs_nil q
  | ret v => exact q
  | brk => exact q
  | cont => exact q
theorem Inv.quiet {pins : List (Addr × Obj)} {σ : St} {H : Hp} {s : Shared} (I : Inv X pins σ H s) : interactive X.env = false := by simp [interactive, I.ok.kind]
noncomputable def tDrop (te : TE) : TS := fun D σ H => te σ H fun _ H1 => D.nx σ H1
theorem ps_expr (he : PE X e te) (hs : swapsWith e none pos.line X.env = pure false := by rfl) : PS X (.Expr e pos) (tDrop te) := by
  intro pins s σ H D I h
  exact wpAny_Expr_any (thn (he pins s σ H _ I h) fun v s1 ⟨x, H1, I1, r1, q1⟩ => ⟨σ, H1, I1, q1⟩) I.quiet hs
noncomputable def tRet (te : TE) : TS := fun D σ H => te σ H D.rt
theorem ps_ret (he : PE X e te) : PS X (.Return (some e) pos) (tRet te) := by
  intro pins s σ H D I h
  exact wpAny_Return_some (thn (he pins s σ H _ I h) fun v s1 ⟨x, H1, I1, r1, q1⟩ => ⟨x, σ, H1, I1, r1, q1⟩)
noncomputable def tIfS (c : TT) (t u : TS) : TS := fun D σ H => c σ H fun b H1 => if b = true then t D σ H1 else u D σ H1
theorem ps_if {c : Expr} {a b : List Stmt} {tc : TT} (hc : PT X c tc) (ha : PSs X a t) (hb : PSs X b u) : PS X (.If c a b pos) (tIfS tc t u) := by
  intro pins s σ H D I h
  refine wpAny_If (thn (hc pins s σ H _ I h) fun d s1 ⟨H1, I1, q1⟩ => ?_)
  cases d with
  | true => exact ha pins s1 σ H1 D I1 q1
  | false => exact hb pins s1 σ H1 D I1 q1
noncomputable def tNever : TS := fun _ _ _ => False
theorem ps_never : PS X st tNever := fun _ _ _ _ _ _ h => h.elim
end

noncomputable abbrev TG := V → St → Hp → (St → Hp → Prop) → Prop
noncomputable abbrev TGs := List V → St → Hp → (St → Hp → Prop) → Prop
noncomputable def PG (X : Cx) (target : Expr) (t : TG) : Prop :=
  ∀ (pins : List (Addr × Obj)) (s : Shared) (σ : St) (H : Hp) (v : V) (u : Value) (Q : St → Hp → Prop), Inv X pins σ H s → RelV v u → t v σ H Q →
    wpAny (model X.prog X.w) X.A (assign target X.env u) (fun _ s' => ∃ σ' H', Inv X pins σ' H' s' ∧ Q σ' H') X.xe s
noncomputable def PGs (X : Cx) (ts : List Expr) (t : TGs) : Prop :=
  ∀ (pins : List (Addr × Obj)) (s : Shared) (σ : St) (H : Hp) (vs : List V) (us : List Value) (Q : St → Hp → Prop), Inv X pins σ H s → Vals vs us → t vs σ H Q →
    wpAny (model X.prog X.w) X.A (assignInOrder ((assignEach ts X.env).map (·.2)) us) (fun _ s' => ∃ σ' H', Inv X pins σ' H' s' ∧ Q σ' H') X.xe s
noncomputable abbrev TSet := V → V → V → Hp → (Hp → Prop) → Prop
noncomputable def PSet (X : Cx) (t : TSet) : Prop :=
  ∀ (pins : List (Addr × Obj)) (s : Shared) (σ : St) (H : Hp) (o i v : V) (ov iv u : Value) (Q : Hp → Prop), Inv X pins σ H s → RelV o ov → RelV i iv → RelV v u → t o i v H Q →
    wpAny (model X.prog X.w) X.A (setItem ov iv u) (fun _ s' => ∃ H', Inv X pins σ H' s' ∧ Q H') X.xe s
section
variable {X : Cx} {pos : Pos}
noncomputable def gName (i : Nat) : TG := fun v σ H Q => Q (σ.set i (some v)) H
theorem pg_name {i : Nat} {x : Str} (hN : X.N.Nodup) (hi : X.N[i]? = some x) (hx : Loc X.env.scope x) (hf : X.fn x = true ∨ X.env.scope.names.lookup x = some .local := by first | exact .inl rfl | exact .inr rfl | assumption) : PG X (.Name x pos) (gName i) := by
  intro pins s σ H v u Q I r h
  exact wpAny_assign_Name (store_ok I hN hi hx r (fun s' I' => ⟨_, H, I', h⟩) hf)
noncomputable def gNil : TGs := fun vs σ H Q => vs = [] ∧ Q σ H
noncomputable def gCons (t : TG) (u : TGs) : TGs := fun vs σ H Q => ∃ v r, vs = v :: r ∧ t v σ H fun σ' H' => u r σ' H' Q
theorem pgs_nil : PGs X [] gNil := by
  intro pins s σ H vs us Q I r h
  obtain ⟨e, h⟩ := h
  subst e
  cases r
  exact assignInOrder_nil ⟨σ, H, I, h⟩
theorem pgs_cons {e : Expr} {es : List Expr} {t : TG} {u : TGs} (h1 : PG X e t) (h2 : PGs X es u)
    (hs : (assignEach (e :: es) X.env).map (·.2) = assign e X.env :: (assignEach es X.env).map (·.2) := by rfl) : PGs X (e :: es) (gCons t u) := by
  intro pins s σ H vs us Q I r h
  obtain ⟨v, vr, e1, h⟩ := h
  subst e1
  cases r with
  | cons r rr =>
    rw [hs]
    refine assignInOrder_cons (thn (h1 pins s σ H _ _ _ I r h) fun _ s1 ⟨σ1, H1, I1, q1⟩ => ?_)
    exact h2 pins s1 σ1 H1 _ _ Q I1 rr q1
noncomputable def gTup (K : PySem.W.Frag) (n : Nat) (t : TGs) : TG := fun v σ H Q => ∃ a xs, v = .ref a ∧ SqT K H a xs ∧ xs.length = n ∧ t xs σ H Q
theorem pg_tup {es : List Expr} {k : Nat} {t : TGs} {n : Nat} (hc : X.calm = true) (h : PGs X es t)
    (hn : (assignEach es X.env).length = n := by rfl) (hst : (assignEach es X.env).findIdx? (·.1) = none := by rfl) : PG X (.Tuple es k pos) (gTup X.K n t) := by
  intro pins s σ H v u Q I r hw
  obtain ⟨a, xs, e1, hq, hl, hw⟩ := hw
  subst e1
  cases r
  obtain ⟨its, rv, ht, hz⟩ := I.tuple hq
  refine assign_Tuple_tuple (I.ok.hd hc) ht (by simp [hn, ← hl, rv.length]) hst fun h' hx => ?_
  have I1 : Inv X pins σ H { s with heap := h' } := I.kept (t' := s.toks) fun b o e => hx b o (Nat.ne_of_lt (Heap.lt_size e)) e
  exact h pins _ σ H xs _ Q I1 (by simpa using rv) hw
noncomputable def gSub (to ti : TE) (t : TSet) : TG := fun v σ H Q => to σ H fun o H1 => ti σ H1 fun i H2 => t o i v H2 fun H3 => Q σ H3
theorem pg_sub {o i : Expr} {to ti : TE} {t : TSet} (ho : PE X o to) (hi : PE X i ti) (hs : PSet X t)
    (ha : ∀ v, assign (.Subscript o i pos) X.env v = (do
      let ov ← holding [v] (eval o X.env)
      let iv ← holding [v, ov] (eval i X.env)
      standAt pos
      holding [v, ov, iv] (setItem ov iv v)
      release [v, ov, iv] []) := by intro _; rfl) : PG X (.Subscript o i pos) (gSub to ti t) := by
  intro pins s σ H v u Q I r h
  rw [ha]
  refine wpAny_bind (wpAny_holding (thn (ho pins s σ H _ I h) fun ov s1 ⟨x, H1, I1, r1, q1⟩ => ?_))
  refine wpAny_bind (wpAny_holding (thn (hi pins s1 σ H1 _ I1 q1) fun iv s2 ⟨y, H2, I2, r2, q2⟩ => ?_))
  refine wpAny_bind (wpAny_standAt (wpAny_bind (wpAny_holding (thn (hs pins s2 σ H2 x y v ov iv u _ I2 r1 r2 r q2) fun _ s3 ⟨H3, I3, q3⟩ => ?_))))
  exact wpAny_release ⟨σ, H3, I3, q3⟩
noncomputable def tAsg (te : TE) (g : TG) : TS := fun D σ H => te σ H fun x H1 => g x σ H1 D.nx
theorem ps_asg {tg e : Expr} {te : TE} {g : TG} (he : PE X e te) (hg : PG X tg g) (hs : swapsWithSole [tg] e pos.line X.env = pure false := by rfl) (hw : swappedStores [tg] e X.env = pure none := by rfl)
    (h1 : (assignEach [tg] X.env).map (·.2) = [assign tg X.env] := by rfl) : PS X (.Assign [tg] e pos) (tAsg te g) := by
  intro pins s σ H D I h
  refine wpAny_Assign_stores (thn (he pins s σ H _ I h) fun v s1 ⟨x, H1, I1, r1, q1⟩ => ?_) hs hw
  rw [h1]
  exact thn (hg pins s1 σ H1 x v _ I1 r1 q1) fun _ s2 q => q
theorem ps_set {i : Nat} {x : Str} {e : Expr} {te : TE} {pos' : Pos} (hN : X.N.Nodup) (hi : X.N[i]? = some x) (hx : Loc X.env.scope x) (he : PE X e te) (hs : swapsWith e (some (.Name x pos')) pos.line X.env = pure false := by rfl) (hf : X.fn x = true ∨ X.env.scope.names.lookup x = some .local := by first | exact .inl rfl | exact .inr rfl | assumption) :
    PS X (.Assign [.Name x pos'] e pos) (tAsg te (gName i)) := by
  intro pins s σ H D I h
  refine wpAny_Assign_Name (thn (he pins s σ H _ I h) fun v s1 ⟨y, H1, I1, r1, q1⟩ => ?_) hs
  exact store_ok I1 hN hi hx r1 (fun s2 I2 => ⟨_, H1, I2, q1⟩) hf
end

section
variable {X : Cx} {pos : Pos}
end

structure It where
  go : Nat → Hp → Prop
  yld : Nat → Hp → V → Hp → Prop
  stop : Nat → Hp → Prop
noncomputable def FpOk (X : Cx) (pins : List (Addr × Obj)) (H : Hp) (b : Addr) : Prop :=
  H b = none ∧ b ≠ X.env.locals ∧ b ∉ X.fs ∧ (b ∈ X.ex ∨ X.s₀.heap.objs.size ≤ b) ∧ (∀ x c, X.env.cells.lookup x = some c → c ≠ b) ∧ ∀ p ∈ X.pn ++ pins, p.1 ≠ b
theorem Inv.fpOk {X : Cx} {pins : List (Addr × Obj)} {σ : St} {H H' : Hp} {s : Shared} {b : Addr} (I : Inv X pins σ H s) (hb : s.heap.objs.size ≤ b) (hn : H' b = none) : FpOk X pins H' b := by
  refine ⟨hn, Nat.ne_of_gt (Nat.lt_of_lt_of_le I.lt hb), I.nofs hb, .inr (Nat.le_trans I.sz hb), fun x c e z => ?_, fun p hp z => ?_⟩
  · obtain ⟨v, q⟩ := I.cell x c e
    exact absurd (Nat.lt_of_lt_of_le q.lt (by rw [z]; exact hb)) (Nat.lt_irrefl _)
  · exact absurd (Nat.lt_of_lt_of_le (Heap.lt_size (I.pin p hp).1) (by rw [z]; exact hb)) (Nat.lt_irrefl _)
structure Turn (P : Program) (w : World) (K : PySem.W.Frag) (tg : Expr) (J : It) (fp : List Addr) (it : Addr) (tn : Nat → Heap → Prop) : Prop where
  mem : it ∈ fp
  obj : ∀ i h, tn i h → ∀ b ∈ fp, ∃ o, h.get? b = some o ∧ ∀ v, o.data ≠ .cell v
  keep : ∀ i h h', tn i h → (∀ b ∈ fp, ∀ o, h.get? b = some o → h'.get? b = some o) → tn i h'
  item : ∀ (X : Cx), X.prog = P → X.w = w → X.K = K → X.calm = true → ∀ (i : Nat) (pins : List (Addr × Obj)) (s : Shared) (σ : St) (H : Hp) (E : Value → Shared → Prop), Inv X pins σ H s → (∀ b ∈ fp, FpOk X pins H b) → tn i s.heap → J.go i H →
    wpAny (model P w) X.A (pyNext (.ref it)) (fun r s1 => ∃ u, r = some u ∧
      wpAny (model P w) X.A (letOwnedTupleGo tg (.ref it) u) (fun _ s2 => ∃ x H', Inv X pins σ H' s2 ∧ RelV x u ∧ J.yld i H x H' ∧ tn (i + 1) s2.heap ∧ ∀ b ∈ fp, H' b = none) E s1) E s
  done : ∀ (X : Cx), X.prog = P → X.w = w → X.K = K → X.calm = true → ∀ (i : Nat) (pins : List (Addr × Obj)) (s : Shared) (σ : St) (H : Hp) (E : Value → Shared → Prop), Inv X pins σ H s → (∀ b ∈ fp, FpOk X pins H b) → tn i s.heap → J.stop i H →
    wpAny (model P w) X.A (pyNext (.ref it)) (fun r s1 => r = none ∧ Inv X pins σ H s1) E s
  self : ∀ (A : Around) (i : Nat) (s : Shared) (Q : Value → Shared → Prop) (E : Value → Shared → Prop), tn i s.heap → Q (.ref it) s → wpAny (model P w) A (pyIter (.ref it)) Q E s
noncomputable abbrev TI := St → Hp → (It → Hp → Prop) → Prop
noncomputable def PIE (X : Cx) (pins : List (Addr × Obj)) (σ : St) (tg : Expr) (R : It → Hp → Prop) (itv : Value) (s2 : Shared) : Prop :=
  ∃ (it : Addr) (fp : List Addr) (tn : Nat → Heap → Prop) (J : It) (H' : Hp), itv = .ref it ∧ Inv X pins σ H' s2 ∧ Turn X.prog X.w X.K tg J fp it tn ∧ tn 0 s2.heap ∧ (∀ b ∈ fp, FpOk X pins H' b) ∧ R J H'
noncomputable def PI (X : Cx) (tg iter : Expr) (wi : TI) : Prop :=
  ∀ (pins : List (Addr × Obj)) (s : Shared) (σ : St) (H : Hp) (R : It → Hp → Prop), Inv X pins σ H s → wi σ H R →
    wpAny (model X.prog X.w) X.A (eval iter X.env) (fun v s1 => wpAny (model X.prog X.w) X.A (pyIter v) (PIE X pins σ tg R) X.xe s1) X.xe s

theorem go_of {M : Model} {A : Around} {E : Value → Shared → Prop} {s : Shared} {tg : Expr} {it : Addr} {u : Value} {o : Obj} {n : String} {vs : Array Value} {Q : Unit → Shared → Prop} (ho : s.heap.get? it = some o) (hc : o.cls = .type n) (hd : o.data = .fields vs)
    (hn : ["enumerate", "zip", "dict_itemiterator", "dict_reverseitemiterator", "odict_iterator", "itertools.zip_longest", "itertools.pairwise"].contains n = false) (hQ : Q () s) : wpAny M A (letOwnedTupleGo tg (.ref it) u) Q E s := by
  unfold letOwnedTupleGo
  cases tg <;> first
    | exact wpAny_pure hQ
    | (cases u <;> first
        | exact wpAny_pure hQ
        | (refine wpAny_bind (wpAny_load ho ?_)
           rw [hc, hd]
           show wpAny M A (if (["enumerate", "zip", "dict_itemiterator", "dict_reverseitemiterator", "odict_iterator", "itertools.zip_longest", "itertools.pairwise"].contains n && vs[0]? == some (rawInt _)) = true then _ else _) Q E s
           rw [if_neg (by intro h; rw [hn, Bool.false_and] at h; cases h)]
           exact wpAny_pure hQ))

noncomputable def Itl (K : PySem.W.Frag) (a : Addr) : It :=
  ⟨fun i H => ∃ xs x, SqL K H a xs ∧ xs[i]? = some x, fun i H x H' => H' = H ∧ ∀ xs, SqL K H a xs → xs[i]? = some x, fun i H => ∃ xs, SqL K H a xs ∧ xs.length ≤ i⟩
noncomputable def Itt (K : PySem.W.Frag) (a : Addr) : It :=
  ⟨fun i H => ∃ xs x, SqT K H a xs ∧ xs[i]? = some x, fun i H x H' => H' = H ∧ ∀ xs, SqT K H a xs → xs[i]? = some x, fun i H => ∃ xs, SqT K H a xs ∧ xs.length ≤ i⟩
noncomputable def Itr (lo : Int) (n : Nat) : It := ⟨fun i _ => i < n, fun i H x H' => H' = H ∧ x = .int (lo + i), fun i _ => n ≤ i⟩
theorem turn_list {P : Program} {w : World} {K : PySem.W.Frag} {tg : Expr} (a it : Addr) : Turn P w K tg (Itl K a) [it] it (fun i h => h.IsListIter it a i) where
  mem := by simp
  obj := fun i h st b hb => by
    have e : b = it := by simpa using hb
    subst e
    obtain ⟨o, e, c, d⟩ := st
    exact ⟨o, e, fun v z => by rw [d] at z; cases z⟩
  keep := fun i h h' st k => st.at fun o e => k it (by simp) o e
  item := by
    intro X hP hw hK hc i pins s σ H E I hf st hg
    subst hP hw hK
    obtain ⟨xs, x, hq, hx⟩ := hg
    obtain ⟨its, rv, p, hz⟩ := I.list hq
    obtain ⟨u, hu, ru⟩ := rv.get hx
    obtain ⟨f0, f1, f2, f3, f4, f5⟩ := hf it (by simp)
    refine wpAny_pyNext_list_item st p.isList (x := u) (by simpa using hu) fun h' st' sb => ?_
    have I1 : Inv X pins σ H { s with heap := h' } := I.turned (t' := s.toks) (fun b o hb e => (sb.2 b hb).trans e) f0 f1 f3 f4 f5
    obtain ⟨o, e, c, d⟩ := id st'
    exact ⟨u, rfl, go_of (s := { s with heap := h' }) e c d (by decide) ⟨x, H, I1, ru, ⟨rfl, fun ys hy => by rw [I.list_inj hy hq]; exact hx⟩, st', fun b hb => (hf b hb).1⟩⟩
  done := by
    intro X hP hw hK hc i pins s σ H E I hf st hg
    subst hP hw hK
    obtain ⟨xs, hq, hx⟩ := hg
    obtain ⟨its, rv, p, hz⟩ := I.list hq
    obtain ⟨f0, f1, f2, f3, f4, f5⟩ := hf it (by simp)
    have hl := rv.length
    exact wpAny_pyNext_list_end (I.ok.hd hc) st p.isList (by simp; omega) fun h' eb => ⟨rfl, I.turned (t' := s.toks) (fun b o hb e => eb b o hb e) f0 f1 f3 f4 f5⟩
  self := fun _ _ _ _ _ st h => wpAny_pyIter_listiter st h
theorem turn_tuple {P : Program} {w : World} {K : PySem.W.Frag} {tg : Expr} (a it : Addr) : Turn P w K tg (Itt K a) [it] it (fun i h => h.IsTupleIter it a i) where
  mem := by simp
  obj := fun i h st b hb => by
    have e : b = it := by simpa using hb
    subst e
    obtain ⟨o, e, c, d⟩ := st
    exact ⟨o, e, fun v z => by rw [d] at z; cases z⟩
  keep := fun i h h' st k => st.at fun o e => k it (by simp) o e
  item := by
    intro X hP hw hK hc i pins s σ H E I hf st hg
    subst hP hw hK
    obtain ⟨xs, x, hq, hx⟩ := hg
    obtain ⟨its, rv, p, hz⟩ := I.tuple hq
    obtain ⟨u, hu, ru⟩ := rv.get hx
    obtain ⟨f0, f1, f2, f3, f4, f5⟩ := hf it (by simp)
    refine wpAny_pyNext_tuple_item st (show s.heap.IsTuple a its.toArray from p) (x := u) (by simpa using hu) fun h' st' sb => ?_
    have I1 : Inv X pins σ H { s with heap := h' } := I.turned (t' := s.toks) (fun b o hb e => (sb.2 b hb).trans e) f0 f1 f3 f4 f5
    obtain ⟨o, e, c, d⟩ := id st'
    exact ⟨u, rfl, go_of (s := { s with heap := h' }) e c d (by decide) ⟨x, H, I1, ru, ⟨rfl, fun ys hy => by rw [I.tuple_inj hy hq]; exact hx⟩, st', fun b hb => (hf b hb).1⟩⟩
  done := by
    intro X hP hw hK hc i pins s σ H E I hf st hg
    subst hP hw hK
    obtain ⟨xs, hq, hx⟩ := hg
    obtain ⟨its, rv, p, hz⟩ := I.tuple hq
    obtain ⟨f0, f1, f2, f3, f4, f5⟩ := hf it (by simp)
    have hl := rv.length
    exact wpAny_pyNext_tuple_end (I.ok.hd hc) st (show s.heap.IsTuple a its.toArray from p) (by simp; omega) fun h' eb => ⟨rfl, I.turned (t' := s.toks) (fun b o hb e => eb b o hb e) f0 f1 f3 f4 f5⟩
  self := fun _ _ _ _ _ st h => wpAny_pyIter_tupleiter st h
theorem turn_range {P : Program} {w : World} {K : PySem.W.Frag} {tg : Expr} (it : Addr) (lo : Int) (n : Nat) : Turn P w K tg (Itr lo n) [it] it (fun i h => IsRangeIter h it (lo + (i : Nat) * 1) ((n : Int) - (i : Nat)) 1) where
  mem := by simp
  obj := fun i h st b hb => by
    have e : b = it := by simpa using hb
    subst e
    exact ⟨_, st, fun v z => by
      have z' : Data.fields _ = Data.cell v := z
      cases z'⟩
  keep := fun i h h' st k => k it (by simp) _ st
  item := by
    intro X hP hw hK hc i pins s σ H E I hf st hg
    subst hP hw hK
    obtain ⟨f0, f1, f2, f3, f4, f5⟩ := hf it (by simp)
    have W := Walks.range (prog := X.prog) (w := X.w) (I.ok.hd hc) it lo 1 n
    refine W.item i s _ _ hg st fun v h' tk hv st' kk => ?_
    obtain ⟨t, rfl⟩ := hv
    have I1 : Inv X pins σ H { s with heap := h', toks := tk } := I.turned (fun b o hb e => kk b o (by simpa using hb) e) f0 f1 f3 f4 f5
    refine ⟨_, rfl, go_of (s := { s with heap := h', toks := tk }) (n := "range_iterator") st' rfl rfl (by decide) ⟨.int (lo + i), H, I1, ⟨t, ?_⟩, ⟨rfl, rfl⟩, st', fun b hb => (hf b hb).1⟩⟩
    rw [Int.mul_one]
  done := by
    intro X hP hw hK hc i pins s σ H E I hf st hg
    subst hP hw hK
    obtain ⟨f0, f1, f2, f3, f4, f5⟩ := hf it (by simp)
    exact wpAny_pyNext_range_end (I.ok.hd hc) st (by have : n ≤ i := hg; omega) fun h' eb => ⟨rfl, I.turned (t' := s.toks) (fun b o hb e => eb b o hb e) f0 f1 f3 f4 f5⟩
  self := fun _ _ _ _ _ st h => wpAny_pyIter_rangeiter st h
end L2

namespace L2
open PySem PySem.Spec PyProof.Rows
section
variable {X : Cx} {tg : Expr}
noncomputable def iList (K : PySem.W.Frag) (tl : TE) : TI := fun σ H R => tl σ H fun x H1 => ∃ a, x = .ref a ∧ (∃ xs, SqL K H1 a xs) ∧ R (Itl K a) H1
noncomputable def iTup (K : PySem.W.Frag) (tl : TE) : TI := fun σ H R => tl σ H fun x H1 => ∃ a, x = .ref a ∧ (∃ xs, SqT K H1 a xs) ∧ R (Itt K a) H1
theorem pi_list {l : Expr} {tl : TE} (hl : PE X l tl) : PI X tg l (iList X.K tl) := by
  intro pins s σ H R I h
  refine thn (hl pins s σ H _ I h) fun v s1 ⟨x, H1, I1, r1, q1⟩ => ?_
  obtain ⟨a, e, ⟨xs, hq⟩, q⟩ := q1
  subst e
  cases r1
  obtain ⟨its, rv, p, hz⟩ := I1.list hq
  refine wpAny_pyIter_list p.isList ?_
  refine ⟨s1.heap.objs.size, [s1.heap.objs.size], _, _, H1, rfl, I1.kept (t' := s1.toks) fun b o e => Heap.get?_push_of_some _ e, turn_list a _, ⟨_, Heap.get?_push_size _ rfl, rfl, rfl⟩, fun b hb => ?_, q⟩
  have e : b = s1.heap.objs.size := by simpa using hb
  subst e
  exact I1.fpOk (Nat.le_refl _) (I1.hok.fresh (Nat.le_refl _))
theorem pi_tup {l : Expr} {tl : TE} (hl : PE X l tl) : PI X tg l (iTup X.K tl) := by
  intro pins s σ H R I h
  refine thn (hl pins s σ H _ I h) fun v s1 ⟨x, H1, I1, r1, q1⟩ => ?_
  obtain ⟨a, e, ⟨xs, hq⟩, q⟩ := q1
  subst e
  cases r1
  obtain ⟨its, rv, p, hz⟩ := I1.tuple hq
  refine wpAny_pyIter_tuple (show s1.heap.IsTuple a its.toArray from p) ?_
  refine ⟨s1.heap.objs.size, [s1.heap.objs.size], _, _, H1, rfl, I1.kept (t' := s1.toks) fun b o e => Heap.get?_push_of_some _ e, turn_tuple a _, ⟨_, Heap.get?_push_size _ rfl, rfl, rfl⟩, fun b hb => ?_, q⟩
  have e : b = s1.heap.objs.size := by simpa using hb
  subst e
  exact I1.fpOk (Nat.le_refl _) (I1.hok.fresh (Nat.le_refl _))
theorem range_it {pins : List (Addr × Obj)} {σ : St} {H : Hp} {s : Shared} {R : It → Hp → Prop} {E : Value → Shared → Prop} {lo hi : Int} {t u v : Tok} {tk : Nat} (I : Inv X pins σ H s) (h1 : -(2 ^ 62) ≤ lo) (h2 : lo < 2 ^ 62) (h3 : -(2 ^ 62) ≤ hi) (h4 : hi < 2 ^ 62)
    (q : R (Itr lo (hi - lo).toNat) H) : wpAny (model X.prog X.w) X.A (pyIter (.ref s.heap.objs.size)) (PIE X pins σ tg R) E { s with heap := s.heap.push { cls := .type "range", data := .fields #[.int lo t, .int hi u, .int 1 v] }, toks := tk } := by
  refine wpAny_pyIter_range (IsRange.new ..) (small_one h1 h2 h3 h4) ?_
  have I1 : Inv X pins σ H { s with heap := s.heap.push { cls := .type "range", data := .fields #[.int lo t, .int hi u, .int 1 v] }, toks := tk } := I.kept fun b o e => Heap.get?_push_of_some _ e
  refine ⟨(s.heap.push { cls := .type "range", data := .fields #[.int lo t, .int hi u, .int 1 v] }).objs.size, [(s.heap.push { cls := .type "range", data := .fields #[.int lo t, .int hi u, .int 1 v] }).objs.size], _, _, H, rfl,
    I1.kept (t' := tk) fun b o e => Heap.get?_push_of_some _ e, turn_range _ lo (hi - lo).toNat, ?_, fun b hb => ?_, q⟩
  · have e1 : lo + ((0 : Nat) : Int) * 1 = lo := by simp
    have e2 : (((hi - lo).toNat : Nat) : Int) - ((0 : Nat) : Int) = Builtin.Range.rangeSize lo hi 1 := by rw [rangeSize_one]; split <;> omega
    show IsRangeIter _ _ (lo + ((0 : Nat) : Int) * 1) ((((hi - lo).toNat : Nat) : Int) - ((0 : Nat) : Int)) 1
    rw [e1, e2]
    exact Heap.get?_push_size _ rfl
  · have e : b = (s.heap.push { cls := .type "range", data := .fields #[.int lo t, .int hi u, .int 1 v] }).objs.size := by simpa using hb
    subst e
    exact I1.fpOk (Nat.le_refl _) (I1.hok.fresh (Nat.le_refl _))
noncomputable def iRng1 (ta : TA) : TI := fun σ H R => ta σ H fun vs H1 => ∃ j : Int, vs = [.int j] ∧ -(2 ^ 62) ≤ j ∧ j < 2 ^ 62 ∧ R (Itr 0 j.toNat) H1
theorem pi_range1 {a : Expr} {ta : TA} {p pos : Pos} (hg : Gl X "range") (hm : X.mg "range" = none) (ha : PA X [a] ta) (hs : starEach [a] X.env = [(false, eval a X.env)] := by rfl) : PI X tg (.Call (.Name "range" p) [a] [] pos) (iRng1 ta) := by
  intro pins s σ H R I h
  refine Call_ (ld_blt I hg hm boot_range (PyProof.Rows.callWith_type1 (thn (ha pos pins s σ H _ I h) fun us s1 ⟨vs, H1, I1, r1, q1⟩ => ?_) hs rfl))
  obtain ⟨j, e, q1, q2, q⟩ := q1
  subst e
  cases r1 with
  | cons r rr =>
    cases rr
    obtain ⟨t, rfl⟩ := r
    exact call_range_1 (range_it I1 (by omega) (by omega) q1 q2 (by simpa using q))
noncomputable def tFor (wi : TI) (g : TG) (tb : TS) : TS := fun D σ H => wi σ H fun J H1 => ∃ W : Nat → Nat → St → Hp → Prop, (∃ m, W 0 m σ H1) ∧ ∀ i m σ H, W i m σ H →
  (J.stop i H ∧ D.nx σ H) ∨ (J.go i H ∧ ∃ N : St → Hp → Prop, (∀ σ' H', N σ' H' → ∃ m', m' < m ∧ W (i + 1) m' σ' H') ∧ ∀ x H', J.yld i H x H' → g x σ H' fun σ2 H2 => tb { D with nx := N, ct := N, bk := D.nx } σ2 H2)
noncomputable def pinsAt (fp : List Addr) (h : Heap) : List (Addr × Obj) := fp.filterMap fun b => (h.get? b).map fun o => (b, o)
theorem mem_pinsAt {fp : List Addr} {h : Heap} {b : Addr} {o : Obj} (hb : b ∈ fp) (e : h.get? b = some o) : (b, o) ∈ pinsAt fp h := List.mem_filterMap.mpr ⟨b, hb, by rw [e]; rfl⟩
theorem of_pinsAt {fp : List Addr} {h : Heap} {p : Addr × Obj} (hp : p ∈ pinsAt fp h) : p.1 ∈ fp ∧ h.get? p.1 = some p.2 := by
  obtain ⟨b, hb, e⟩ := List.mem_filterMap.mp hp
  cases q : h.get? b with
  | none => rw [q] at e; cases e
  | some o =>
    rw [q] at e
    have e' : (b, o) = p := Option.some.inj e
    subst e'
    exact ⟨hb, q⟩
theorem Inv.pinned {pins : List (Addr × Obj)} {σ : St} {H : Hp} {s : Shared} {fp : List Addr} (I : Inv X pins σ H s) (hf : ∀ b ∈ fp, FpOk X pins H b) (ho : ∀ b ∈ fp, ∃ o, s.heap.get? b = some o ∧ ∀ v, o.data ≠ .cell v) : Inv X (pins ++ pinsAt fp s.heap) σ H s :=
  I.pins_of fun p hp => (List.mem_append.mp hp).elim (fun z => I.pin p (List.mem_append_right _ z)) fun z => by
    obtain ⟨hb, e⟩ := of_pinsAt z
    obtain ⟨f0, f1, f2, _⟩ := hf p.1 hb
    obtain ⟨o, e', d⟩ := ho p.1 hb
    rw [e] at e'; cases e'
    exact ⟨e, f0, f1, f2, d⟩
theorem Inv.unpinned {pins pl : List (Addr × Obj)} {σ : St} {H : Hp} {s : Shared} (I : Inv X (pins ++ pl) σ H s) : Inv X pins σ H s := I.pins_of fun p hp => I.pin p (List.mem_append_right _ (List.mem_append_left _ hp))
theorem ps_for {iter : Expr} {body : List Stmt} {wi : TI} {g : TG} {tb : TS} {pos : Pos} (hp : PassesOwn (model X.prog X.w) X.A X.env X.xe) (hc : X.calm = true) (hi : PI X tg iter wi) (hg : PG X tg g) (hb : PSs X body tb)
    (hs : ∀ x, foldedSetIterable iter X.env x = pure x := by intro _; rfl) : PS X (.For tg iter body [] pos) (tFor wi g tb) := by
  intro pins s σ H D I h
  refine wpAny_For (thn (hi pins s σ H _ I h) fun v s1 h1 => thn h1 fun itv s2 h2 => ?_) hs
  obtain ⟨it, fp, tn, J, H2, e, I2, T, st2, f2, W, ⟨m0, w0⟩, turn⟩ := h2
  subst e
  -- what stays true of the iterator's objects through the loop
  have stat : ∀ {H' : Hp}, (∀ b ∈ fp, H' b = none) → ∀ b ∈ fp, FpOk X pins H' b := fun hn b hb => ⟨hn b hb, (f2 b hb).2⟩
  refine codeAny_forLoop_any (fun n s' => ∃ i σ' H', Inv X pins σ' H' s' ∧ tn i s'.heap ∧ (∀ b ∈ fp, H' b = none) ∧ W i n σ' H') ?_ m0 ⟨0, σ, H2, I2, st2, fun b hb => (f2 b hb).1, w0⟩
  rintro n s3 ⟨i, σ3, H3, I3, st3, fr3, w3⟩
  rcases turn i n σ3 H3 w3 with ⟨stop, qn⟩ | ⟨go, N, hN, step⟩
  · refine wpAny_passesOwn hp (thn (T.done X rfl rfl rfl hc i pins s3 σ3 H3 X.xe I3 (stat fr3) st3 stop) fun r s4 ⟨hr, I4⟩ => ?_)
    subst hr
    exact wpAny_execs_nil ⟨σ3, H3, I4, qn⟩
  · refine wpAny_passesOwn hp (thn (T.item X rfl rfl rfl hc i pins s3 σ3 H3 X.xe I3 (stat fr3) st3 go) fun r s4 ⟨u, hr, h4⟩ => ?_)
    subst hr
    refine wpAny_passesOwn hp (thn h4 fun _ s5 ⟨x, H5, I5, r5, y5, st5, fr5⟩ => ?_)
    have I5' := I5.pinned (stat fr5) (T.obj _ _ st5)
    refine wpAny_passesOwn hp (thn (hg _ s5 σ3 H5 x u _ I5' r5 (step x H5 y5)) fun _ s6 ⟨σ6, H6, I6, q6⟩ => ?_)
    refine wpAny_passesOwn hp (thn (hb _ s6 σ6 H6 _ I6 q6) fun f s7 q7 => ?_)
    have again : ∀ {σ7 : St} {H7 : Hp}, Inv X (pins ++ pinsAt fp s5.heap) σ7 H7 s7 → N σ7 H7 → ∃ m, m < n ∧ ∃ i σ' H', Inv X pins σ' H' s7 ∧ tn i s7.heap ∧ (∀ b ∈ fp, H' b = none) ∧ W i m σ' H' := fun {σ7 H7} I7 n7 => by
      obtain ⟨m', hm, w7⟩ := hN σ7 H7 n7
      refine ⟨m', hm, i + 1, σ7, H7, I7.unpinned, T.keep _ _ _ st5 fun b hb o e => (I7.pin (b, o) (List.mem_append_right _ (List.mem_append_right _ (mem_pinsAt hb e)))).1, fun b hb => ?_, w7⟩
      obtain ⟨o, e, d⟩ := T.obj _ _ st5 b hb
      exact (I7.pin (b, o) (List.mem_append_right _ (List.mem_append_right _ (mem_pinsAt hb e)))).2.1
    cases f with
    | next => obtain ⟨σ7, H7, I7, n7⟩ := q7; exact again I7 n7
    | cont => obtain ⟨σ7, H7, I7, n7⟩ := q7; exact again I7 n7
    | brk => obtain ⟨σ7, H7, I7, q7⟩ := q7; exact ⟨σ7, H7, I7.unpinned, q7⟩
    | ret v => obtain ⟨x7, σ7, H7, I7, r7, q7⟩ := q7; exact ⟨x7, σ7, H7, I7.unpinned, r7, q7⟩
end

theorem for_list {K : PySem.W.Frag} {a : Addr} {xs : List V} {g : TG} {tb : TS} {D : Ends} {σ : St} {H : Hp} (Pv : Nat → St → Hp → Prop) (h0 : Pv 0 σ H) (hl : ∀ i σ H, i ≤ xs.length → Pv i σ H → SqL K H a xs)
    (hs : ∀ i x σ H, xs[i]? = some x → Pv i σ H → g x σ H fun σ2 H2 => tb { D with nx := Pv (i + 1), ct := Pv (i + 1), bk := D.nx } σ2 H2) (hd : ∀ σ H, Pv xs.length σ H → D.nx σ H) :
    ∃ W : Nat → Nat → St → Hp → Prop, (∃ m, W 0 m σ H) ∧ ∀ i m σ H, W i m σ H →
      ((Itl K a).stop i H ∧ D.nx σ H) ∨ ((Itl K a).go i H ∧ ∃ N : St → Hp → Prop, (∀ σ' H', N σ' H' → ∃ m', m' < m ∧ W (i + 1) m' σ' H') ∧ ∀ x H', (Itl K a).yld i H x H' → g x σ H' fun σ2 H2 => tb { D with nx := N, ct := N, bk := D.nx } σ2 H2) := by
  refine ⟨fun i m σ H => m = xs.length - i ∧ i ≤ xs.length ∧ Pv i σ H, ⟨xs.length, by simp, Nat.zero_le _, h0⟩, ?_⟩
  rintro i m σ H ⟨rfl, hi, p⟩
  have q := hl i σ H hi p
  by_cases hlt : i < xs.length
  · refine .inr ⟨⟨xs, xs[i], q, by simp [hlt]⟩, Pv (i + 1), fun σ' H' p' => ⟨xs.length - (i + 1), by omega, rfl, hlt, p'⟩, fun x H' y => ?_⟩
    obtain ⟨e, y⟩ := y
    subst e
    exact hs i x σ _ (y xs q) p
  · have e : i = xs.length := by omega
    subst e
    exact .inl ⟨⟨xs, q, Nat.le_refl _⟩, hd σ H p⟩
theorem for_tup {K : PySem.W.Frag} {a : Addr} {xs : List V} {g : TG} {tb : TS} {D : Ends} {σ : St} {H : Hp} (Pv : Nat → St → Hp → Prop) (h0 : Pv 0 σ H) (hl : ∀ i σ H, i ≤ xs.length → Pv i σ H → SqT K H a xs)
    (hs : ∀ i x σ H, xs[i]? = some x → Pv i σ H → g x σ H fun σ2 H2 => tb { D with nx := Pv (i + 1), ct := Pv (i + 1), bk := D.nx } σ2 H2) (hd : ∀ σ H, Pv xs.length σ H → D.nx σ H) :
    ∃ W : Nat → Nat → St → Hp → Prop, (∃ m, W 0 m σ H) ∧ ∀ i m σ H, W i m σ H →
      ((Itt K a).stop i H ∧ D.nx σ H) ∨ ((Itt K a).go i H ∧ ∃ N : St → Hp → Prop, (∀ σ' H', N σ' H' → ∃ m', m' < m ∧ W (i + 1) m' σ' H') ∧ ∀ x H', (Itt K a).yld i H x H' → g x σ H' fun σ2 H2 => tb { D with nx := N, ct := N, bk := D.nx } σ2 H2) := by
  refine ⟨fun i m σ H => m = xs.length - i ∧ i ≤ xs.length ∧ Pv i σ H, ⟨xs.length, by simp, Nat.zero_le _, h0⟩, ?_⟩
  rintro i m σ H ⟨rfl, hi, p⟩
  have q := hl i σ H hi p
  by_cases hlt : i < xs.length
  · refine .inr ⟨⟨xs, xs[i], q, by simp [hlt]⟩, Pv (i + 1), fun σ' H' p' => ⟨xs.length - (i + 1), by omega, rfl, hlt, p'⟩, fun x H' y => ?_⟩
    obtain ⟨e, y⟩ := y
    subst e
    exact hs i x σ _ (y xs q) p
  · have e : i = xs.length := by omega
    subst e
    exact .inl ⟨⟨xs, q, Nat.le_refl _⟩, hd σ H p⟩
theorem for_range {lo : Int} {n : Nat} {g : TG} {tb : TS} {D : Ends} {σ : St} {H : Hp} (Pv : Nat → St → Hp → Prop) (h0 : Pv 0 σ H)
    (hs : ∀ i σ H, i < n → Pv i σ H → g (.int (lo + i)) σ H fun σ2 H2 => tb { D with nx := Pv (i + 1), ct := Pv (i + 1), bk := D.nx } σ2 H2) (hd : ∀ σ H, Pv n σ H → D.nx σ H) :
    ∃ W : Nat → Nat → St → Hp → Prop, (∃ m, W 0 m σ H) ∧ ∀ i m σ H, W i m σ H →
      ((Itr lo n).stop i H ∧ D.nx σ H) ∨ ((Itr lo n).go i H ∧ ∃ N : St → Hp → Prop, (∀ σ' H', N σ' H' → ∃ m', m' < m ∧ W (i + 1) m' σ' H') ∧ ∀ x H', (Itr lo n).yld i H x H' → g x σ H' fun σ2 H2 => tb { D with nx := N, ct := N, bk := D.nx } σ2 H2) := by
  refine ⟨fun i m σ H => m = n - i ∧ i ≤ n ∧ Pv i σ H, ⟨n, by simp, Nat.zero_le _, h0⟩, ?_⟩
  rintro i m σ H ⟨rfl, hi, p⟩
  by_cases hlt : i < n
  · refine .inr ⟨hlt, Pv (i + 1), fun σ' H' p' => ⟨n - (i + 1), by omega, rfl, hlt, p'⟩, fun x H' y => ?_⟩
    obtain ⟨e, y⟩ := y
    subst e y
    exact hs i σ _ hlt p
  · have e : i = n := by omega
    subst e
    exact .inl ⟨Nat.le_refl _, hd σ H p⟩
end L2

namespace L2
open PySem PySem.Spec PyProof.Rows

noncomputable abbrev R2 := V → V → Hp → VK → Prop
noncomputable def OpR (X : Cx) (f : Value → Value → Sem Value) (r : R2) : Prop :=
  ∀ (pins : List (Addr × Obj)) (s : Shared) (σ : St) (H : Hp) (x y : V) (v u : Value) (Q : VK), Inv X pins σ H s → RelV x v → RelV y u → r x y H Q →
    wpAny (model X.prog X.w) X.A (f v u) (EP X pins σ Q) X.xe s
noncomputable def UnR (X : Cx) (f : Value → Sem Value) (r : V → Hp → VK → Prop) : Prop :=
  ∀ (pins : List (Addr × Obj)) (s : Shared) (σ : St) (H : Hp) (x : V) (v : Value) (Q : VK), Inv X pins σ H s → RelV x v → r x H Q →
    wpAny (model X.prog X.w) X.A (f v) (EP X pins σ Q) X.xe s
noncomputable def CallR (X : Cx) (f : Value) (r : List V → Hp → VK → Prop) : Prop :=
  ∀ (pins : List (Addr × Obj)) (s : Shared) (σ : St) (H : Hp) (xs : List V) (us : List Value) (Q : VK), Inv X pins σ H s → Vals xs us → r xs H Q →
    wpAny (model X.prog X.w) X.A (call f us) (EP X pins σ Q) X.xe s
noncomputable def tOp (r : R2) (ta tb : TE) : TE := fun σ H Q => ta σ H fun x H1 => tb σ H1 fun y H2 => r x y H2 Q
noncomputable def tUn (r : V → Hp → VK → Prop) (ta : TE) : TE := fun σ H Q => ta σ H fun x H1 => r x H1 Q
noncomputable def rI (C : Int → Int → Prop) (g : Int → Int → V) : R2 := fun x y H Q => ∃ i j, x = .int i ∧ y = .int j ∧ C i j ∧ Q (g i j) H
noncomputable def rI0 (g : Int → Int → V) : R2 := fun x y H Q => ∃ i j, x = .int i ∧ y = .int j ∧ Q (g i j) H
noncomputable def rU (g : Int → V) : V → Hp → VK → Prop := fun x H Q => ∃ i, x = .int i ∧ Q (g i) H

section
variable {X : Cx} {a b c : Expr} {ta tb tc : TE} {pos : Pos}

theorem binT (ha : PE X a ta) (hb : PE X b tb) {pins : List (Addr × Obj)} {s : Shared} {σ : St} {H : Hp} {R : V → V → Hp → Prop} (I : Inv X pins σ H s)
    (h : ta σ H fun x H1 => tb σ H1 fun y H2 => R x y H2) {Q : Value → Shared → Prop} {f : Value → Value → Sem Value}
    (hf : ∀ v u s2 x y H2, Inv X pins σ H2 s2 → RelV x v → RelV y u → R x y H2 → wpAny (model X.prog X.w) X.A (f v u) Q X.xe s2) :
    wpAny (model X.prog X.w) X.A (eval a X.env) (fun v s₁ => wpAny (model X.prog X.w) X.A (eval b X.env) (fun u s₂ => wpAny (model X.prog X.w) X.A (f v u) Q X.xe s₂) X.xe s₁) X.xe s := by
  refine thn (ha pins s σ H _ I h) fun v s1 ⟨x, H1, I1, r1, q1⟩ => ?_
  refine thn (hb pins s1 σ H1 _ I1 q1) fun u s2 ⟨y, H2, I2, r2, q2⟩ => ?_
  exact hf v u s2 x y H2 I2 r1 r2 q2

theorem pe_op {op : Operator} {r : R2} (ho : OpR X (binaryOp op) r) (ha : PE X a ta) (hb : PE X b tb) : PE X (.BinOp a op b pos) (tOp r ta tb) := by
  intro pins s σ H Q I h
  exact wpAny_BinOp (binT ha hb I h fun v u s2 x y H2 I2 rx ry q => ho pins s2 σ H2 x y v u Q I2 rx ry q)
theorem pe_un {op : UnaryOp} {r : V → Hp → VK → Prop} (ho : UnR X (unaryOp op) r) (ha : PE X a ta) : PE X (.UnaryOp op a pos) (tUn r ta) := by
  intro pins s σ H Q I h
  exact UnaryOp_ (thn (ha pins s σ H _ I h) fun v s1 ⟨x, H1, I1, r1, q1⟩ => ho pins s1 σ H1 x v Q I1 r1 q1)
theorem opI {f : Value → Value → Sem Value} {C : Int → Int → Prop} {g : Int → Int → Int}
    (rule : ∀ (i j : Int) (t u : Tok) (s : Shared) (Q : Value → Shared → Prop) (E : Value → Shared → Prop), C i j → Q (.int (g i j) s.toks) { s with toks := s.toks + 1 } → wpAny (model X.prog X.w) X.A (f (.int i t) (.int j u)) Q E s) :
    OpR X f (rI C fun i j => .int (g i j)) := by
  intro pins s σ H x y v u Q I rx ry h
  obtain ⟨i, j, rfl, rfl, hc, q⟩ := h
  obtain ⟨t, rfl⟩ := rx
  obtain ⟨t', rfl⟩ := ry
  exact rule i j t t' s _ _ hc ⟨.int (g i j), H, I.tok _, ⟨_, rfl⟩, q⟩
theorem opI0 {f : Value → Value → Sem Value} {g : Int → Int → Int}
    (rule : ∀ (i j : Int) (t u : Tok) (s : Shared) (Q : Value → Shared → Prop) (E : Value → Shared → Prop), Q (.int (g i j) s.toks) { s with toks := s.toks + 1 } → wpAny (model X.prog X.w) X.A (f (.int i t) (.int j u)) Q E s) :
    OpR X f (rI0 fun i j => .int (g i j)) := by
  intro pins s σ H x y v u Q I rx ry h
  obtain ⟨i, j, rfl, rfl, q⟩ := h
  obtain ⟨t, rfl⟩ := rx
  obtain ⟨t', rfl⟩ := ry
  exact rule i j t t' s _ _ ⟨.int (g i j), H, I.tok _, ⟨_, rfl⟩, q⟩
theorem opB0 {f : Value → Value → Sem Value} {g : Int → Int → Bool}
    (rule : ∀ (i j : Int) (t u : Tok) (s : Shared) (Q : Value → Shared → Prop) (E : Value → Shared → Prop), Q (.bool (g i j)) s → wpAny (model X.prog X.w) X.A (f (.int i t) (.int j u)) Q E s) :
    OpR X f (rI0 fun i j => .bl (g i j)) := by
  intro pins s σ H x y v u Q I rx ry h
  obtain ⟨i, j, rfl, rfl, q⟩ := h
  obtain ⟨t, rfl⟩ := rx
  obtain ⟨t', rfl⟩ := ry
  exact rule i j t t' s _ _ ⟨.bl (g i j), H, I, rfl, q⟩

noncomputable def CDiv (i j : Int) : Prop := 0 < j ∧ j < 1073741824
noncomputable def CPow (i j : Int) : Prop := 0 ≤ j ∧ j ≤ 1000000 ∧ i.natAbs < 2 ^ 64
noncomputable def CMul (i j : Int) : Prop := (-(2 ^ 64) < i ∧ i < 2 ^ 64) ∨ (-(2 ^ 64) < j ∧ j < 2 ^ 64)
theorem CMul.ok {i j : Int} (h : CMul i j) : IntMulOk i j := by
  rcases h with ⟨h1, h2⟩ | ⟨h1, h2⟩
  · exact .of_left (intBits_le_64 h1 h2)
  · exact .of_right (intBits_le_64 h1 h2)
theorem op_add : OpR X (binaryOp .Add) (rI0 fun i j => .int (i + j)) := opI0 fun _ _ _ _ _ _ _ q => add_int q
theorem op_sub : OpR X (binaryOp .Sub) (rI0 fun i j => .int (i - j)) := opI0 fun _ _ _ _ _ _ _ q => sub_int q
theorem op_mul : OpR X (binaryOp .Mult) (rI CMul fun i j => .int (i * j)) := opI fun _ _ _ _ _ _ _ hc q => mul_int q hc.ok
theorem op_fdiv : OpR X (binaryOp .FloorDiv) (rI CDiv fun i j => .int (i / j)) := opI fun i j _ _ _ _ _ hc q => by
  have h1 : (0 : Int) < j := hc.1
  have h2 : j < 1073741824 := hc.2
  exact floordiv_int (by omega) (by rw [Int.fdiv_eq_ediv_of_nonneg i (by omega)]; exact q) (.inl (PyProof.noPylong_small (by omega)))
theorem op_mod : OpR X (binaryOp .Mod) (rI (fun _ j => 0 < j) fun i j => .int (i % j)) := opI fun i j _ _ _ _ _ hc q => by
  have h1 : (0 : Int) < j := hc
  exact mod_int' (by omega) (by rw [Int.fmod_eq_emod_of_nonneg i (by omega)]; exact q)
theorem op_pow : OpR X (binaryOp .Pow) (rI CPow fun i j => .int (i ^ j.toNat)) := opI fun _ _ _ _ _ _ _ hc q => pow_int_small hc.1 hc.2.1 hc.2.2 q
theorem unI {f : Value → Sem Value} {g : Int → Int}
    (rule : ∀ (i : Int) (t : Tok) (s : Shared) (Q : Value → Shared → Prop) (E : Value → Shared → Prop), Q (.int (g i) s.toks) { s with toks := s.toks + 1 } → wpAny (model X.prog X.w) X.A (f (.int i t)) Q E s) :
    UnR X f (rU fun i => .int (g i)) := by
  intro pins s σ H x v Q I rx h
  obtain ⟨i, rfl, q⟩ := h
  obtain ⟨t, rfl⟩ := rx
  exact rule i t s _ _ ⟨.int (g i), H, I.tok _, ⟨_, rfl⟩, q⟩
theorem un_neg : UnR X (unaryOp .USub) (rU fun i => .int (-i)) := unI fun _ _ _ _ _ q => neg_int q
end

noncomputable def scal : V → V → Bool
  | .non, .non => true | .non, .int _ => true | .int _, .non => true | .non, .bl _ => true | .bl _, .non => true | .non, .str _ => true | .str _, .non => true
  | .int _, .int _ => true | .bl _, .bl _ => true | .str _, .str _ => true | .byt _, .byt _ => true
  | .int _, .str _ => true | .str _, .int _ => true | .bl _, .str _ => true | .str _, .bl _ => true
  | _, _ => false
noncomputable def rEq : R2 := fun x y H Q => scal x y = true ∧ Q (.bl (decide (x = y))) H
noncomputable def rNe : R2 := fun x y H Q => scal x y = true ∧ Q (.bl (!decide (x = y))) H

theorem dec_int {i j : Int} : decide (V.int i = V.int j) = (i == j) := by
  rw [Bool.eq_iff_iff]
  simp
theorem dec_bl {i j : Bool} : decide (V.bl i = V.bl j) = (i == j) := by
  rw [Bool.eq_iff_iff]
  simp
theorem dec_str {i j : Str} : decide (V.str i = V.str j) = (i == j) := by
  rw [Bool.eq_iff_iff]
  simp
theorem dec_byt {i j : Array UInt8} : decide (V.byt i = V.byt j) = (i.toList == j.toList) := by
  rw [Bool.eq_iff_iff]
  cases i
  cases j
  simp

section
variable {X : Cx} {a b c : Expr} {ta tb tc : TE} {pos : Pos}
theorem fin_bl {pins : List (Addr × Obj)} {σ : St} {H : Hp} {s : Shared} {Q : VK} {k k' : Bool} (I : Inv X pins σ H s) (q : Q (.bl k) H) (e : k = k') : EP X pins σ Q (.bool k') s := by
  subst e
  exact ⟨.bl k, H, I, rfl, q⟩
theorem op_eq : OpR X (compareOp .Eq) rEq := by
  intro pins s σ H x y v u Q I rx ry h
  obtain ⟨hs, q⟩ := h
  cases x with
  | non =>
    cases rx
    cases y with
    | non => cases ry; exact PySem.EqNone.eq_none_none (fin_bl I q (by simp))
    | bl j => cases ry; exact PySem.EqNone.eq_none_bool (fin_bl I q (by simp))
    | int j => obtain ⟨t', rfl⟩ := ry; exact PySem.EqNone.eq_none_int (fin_bl I q (by simp))
    | str j => obtain ⟨t', rfl⟩ := ry; exact PySem.EqNone.eq_none_str (fin_bl I q (by simp))
    | _ => exact absurd (show false = true from hs) Bool.false_ne_true
  | bl i =>
    cases rx
    cases y with
    | non => cases ry; exact PySem.EqNone.eq_bool_none (fin_bl I q (by simp))
    | bl j => cases ry; exact eq_bool (fin_bl I q dec_bl)
    | str j => obtain ⟨t', rfl⟩ := ry; exact PySem.EqMixed.eq_bool_str (fin_bl I q (by simp))
    | _ => exact absurd (show false = true from hs) Bool.false_ne_true
  | int i =>
    obtain ⟨t, rfl⟩ := rx
    cases y with
    | non => cases ry; exact PySem.EqNone.eq_int_none (fin_bl I q (by simp))
    | int j => obtain ⟨t', rfl⟩ := ry; exact eq_int (fin_bl I q dec_int)
    | str j => obtain ⟨t', rfl⟩ := ry; exact PySem.EqMixed.eq_int_str (fin_bl I q (by simp))
    | _ => exact absurd (show false = true from hs) Bool.false_ne_true
  | str i =>
    obtain ⟨t, rfl⟩ := rx
    cases y with
    | non => cases ry; exact PySem.EqNone.eq_str_none (fin_bl I q (by simp))
    | bl j => cases ry; exact PySem.EqMixed.eq_str_bool (fin_bl I q (by simp))
    | int j => obtain ⟨t', rfl⟩ := ry; exact PySem.EqMixed.eq_str_int (fin_bl I q (by simp))
    | str j => obtain ⟨t', rfl⟩ := ry; exact eq_str (fin_bl I q dec_str)
    | _ => exact absurd (show false = true from hs) Bool.false_ne_true
  | byt i =>
    obtain ⟨t, rfl⟩ := rx
    cases y with
    | byt j => obtain ⟨t', rfl⟩ := ry; exact PySem.W.eq_bytes (fin_bl I q dec_byt)
    | _ => exact absurd (show false = true from hs) Bool.false_ne_true
  | _ => cases y <;> exact absurd (show false = true from hs) Bool.false_ne_true
theorem op_ne : OpR X (compareOp .NotEq) rNe := by
  intro pins s σ H x y v u Q I rx ry h
  obtain ⟨hs, q⟩ := h
  cases x with
  | non =>
    cases rx
    cases y with
    | non => cases ry; exact PySem.EqNone.ne_none_none (fin_bl I q (by simp))
    | bl j => cases ry; exact PySem.EqNone.ne_none_bool (fin_bl I q (by simp))
    | int j => obtain ⟨t', rfl⟩ := ry; exact PySem.EqNone.ne_none_int (fin_bl I q (by simp))
    | str j => obtain ⟨t', rfl⟩ := ry; exact PySem.EqNone.ne_none_str (fin_bl I q (by simp))
    | _ => exact absurd (show false = true from hs) Bool.false_ne_true
  | bl i =>
    cases rx
    cases y with
    | non => cases ry; exact PySem.EqNone.ne_bool_none (fin_bl I q (by simp))
    | bl j => cases ry; exact ne_bool (fin_bl I q (congrArg not dec_bl))
    | str j => obtain ⟨t', rfl⟩ := ry; exact PySem.EqMixed.ne_bool_str (fin_bl I q (by simp))
    | _ => exact absurd (show false = true from hs) Bool.false_ne_true
  | int i =>
    obtain ⟨t, rfl⟩ := rx
    cases y with
    | non => cases ry; exact PySem.EqNone.ne_int_none (fin_bl I q (by simp))
    | int j => obtain ⟨t', rfl⟩ := ry; exact ne_int (fin_bl I q (congrArg not dec_int))
    | str j => obtain ⟨t', rfl⟩ := ry; exact PySem.EqMixed.ne_int_str (fin_bl I q (by simp))
    | _ => exact absurd (show false = true from hs) Bool.false_ne_true
  | str i =>
    obtain ⟨t, rfl⟩ := rx
    cases y with
    | non => cases ry; exact PySem.EqNone.ne_str_none (fin_bl I q (by simp))
    | bl j => cases ry; exact PySem.EqMixed.ne_str_bool (fin_bl I q (by simp))
    | int j => obtain ⟨t', rfl⟩ := ry; exact PySem.EqMixed.ne_str_int (fin_bl I q (by simp))
    | str j => obtain ⟨t', rfl⟩ := ry; exact ne_str (fin_bl I q (congrArg not dec_str))
    | _ => exact absurd (show false = true from hs) Bool.false_ne_true
  | byt i =>
    obtain ⟨t, rfl⟩ := rx
    cases y with
    | byt j => obtain ⟨t', rfl⟩ := ry; exact PySem.W.ne_bytes (fin_bl I q (congrArg not dec_byt))
    | _ => exact absurd (show false = true from hs) Bool.false_ne_true
  | _ => cases y <;> exact absurd (show false = true from hs) Bool.false_ne_true

theorem op_lt : OpR X (compareOp .Lt) (rI0 fun i j => .bl (decide (i < j))) := opB0 fun _ _ _ _ _ _ _ q => lt_int q
theorem op_le : OpR X (compareOp .LtE) (rI0 fun i j => .bl (decide (i ≤ j))) := opB0 fun _ _ _ _ _ _ _ q => le_int q
theorem op_gt : OpR X (compareOp .Gt) (rI0 fun i j => .bl (decide (j < i))) := opB0 fun _ _ _ _ _ _ _ q => gt_int q
theorem op_ge : OpR X (compareOp .GtE) (rI0 fun i j => .bl (decide (j ≤ i))) := opB0 fun _ _ _ _ _ _ _ q => ge_int q
theorem op_notin_str : OpR X (compareOp .NotIn) (fun x y H Q => ∃ i j, x = .str i ∧ y = .str j ∧ Q (.bl (!(!(Builtin.Str.occurrences j i 0 j.length 1).isEmpty))) H) := by
  intro pins s σ H x y v u Q I rx ry h
  obtain ⟨i, j, rfl, rfl, q⟩ := h
  obtain ⟨t, rfl⟩ := rx
  obtain ⟨t', rfl⟩ := ry
  exact notIn_str (fin_bl I q rfl)
theorem OpR.or {f : Value → Value → Sem Value} {r r' : R2} (h : OpR X f r) (h' : OpR X f r') : OpR X f (fun x y H Q => r x y H Q ∨ r' x y H Q) := by
  intro pins s σ H x y v u Q I rx ry q
  rcases q with q | q
  · exact h pins s σ H x y v u Q I rx ry q
  · exact h' pins s σ H x y v u Q I rx ry q

theorem nomark (b : Expr) {op : CmpOp} (h : op ≠ .In := by decide) (h2 : op ≠ .NotIn := by decide) : behindInMarks op b = false := by
  have e1 : (op == CmpOp.In) = false := by cases op <;> first | rfl | exact absurd rfl h
  have e2 : (op == CmpOp.NotIn) = false := by cases op <;> first | rfl | exact absurd rfl h2
  cases b <;> simp [behindInMarks, e1, e2]
theorem pe_cmpR {op : CmpOp} {r : R2} (ho : OpR X (compareOp op) r) (ha : PE X a ta) (hb : PE X b tb) (hm : behindInMarks op b = false) : PE X (.Compare a [op] [b] pos) (tOp r ta tb) := by
  intro pins s σ H Q I h
  exact wpAny_Compare1 (binT ha hb I h fun v u s2 x y H2 I2 rx ry q => ho pins s2 σ H2 x y v u Q I2 rx ry q) hm
noncomputable def tTest (t : TE) : TT := fun σ H Q => t σ H fun x H' => ∃ k, x = .bl k ∧ Q k H'
theorem pt_cmpR {op : CmpOp} {r : R2} (ho : OpR X (compareOp op) r) (ha : PE X a ta) (hb : PE X b tb) (hm : behindInMarks op b = false) : PT X (.Compare a [op] [b] pos) (tTest (tOp r ta tb)) := by
  intro pins s σ H Q I h
  refine wpAny_isTrue_Compare1 (thn (ha pins s σ H _ I h) fun v s1 ⟨x, H1, I1, r1, q1⟩ => thn (hb pins s1 σ H1 _ I1 q1) fun u s2 ⟨y, H2, I2, r2, q2⟩ =>
    thn (ho pins s2 σ H2 x y v u _ I2 r1 r2 q2) fun c s3 ⟨z, H3, I3, r3, k, e, q3⟩ => ?_) hm
  subst e
  cases r3
  exact wpAny_truthy_bool ⟨H3, I3, q3⟩
noncomputable def tChain (r r' : R2) (ta tb tc : TE) : TE := fun σ H Q => ta σ H fun x H1 => tb σ H1 fun y H2 => r x y H2 fun z H3 => ∃ k, z = .bl k ∧
  (if k = true then tc σ H3 fun w' H4 => r' y w' H4 Q else Q (.bl false) H3)
theorem pe_chain {op op' : CmpOp} {r r' : R2} (ho : OpR X (compareOp op) r) (ho' : OpR X (compareOp op') r') (ha : PE X a ta) (hb : PE X b tb) (hc : PE X c tc)
    (hm : lastMarks [op, op'] [b, c] = false := by with_unfolding_all rfl) : PE X (.Compare a [op, op'] [b, c] pos) (tChain r r' ta tb tc) := by
  intro pins s σ H Q I h
  refine Compare_chain (thn (ha pins s σ H _ I h) fun v s1 ⟨x, H1, I1, r1, q1⟩ => chain_link (thn (hb pins s1 σ H1 _ I1 q1) fun u s2 ⟨y, H2, I2, r2, q2⟩ =>
    thn (ho pins s2 σ H2 x y v u _ I2 r1 r2 q2) fun d s3 ⟨z, H3, I3, r3, k, e, q3⟩ => ?_)) hm
  subst e
  cases r3
  refine wpAny_truthy_bool ?_
  cases k with
  | false => exact ite_ff ⟨.bl false, H3, I3, rfl, q3⟩
  | true => exact ite_tt (chain_last (thn (hc pins s3 σ H3 _ I3 q3) fun w' s4 ⟨z', H4, I4, r4, q4⟩ => ho' pins s4 σ H4 y z' u w' Q I4 r2 r4 q4))
theorem pt_chain {op op' : CmpOp} {r r' : R2} (ho : OpR X (compareOp op) r) (ho' : OpR X (compareOp op') r') (ha : PE X a ta) (hb : PE X b tb) (hc : PE X c tc)
    (hm : lastMarks [op, op'] [b, c] = false := by with_unfolding_all rfl) : PT X (.Compare a [op, op'] [b, c] pos) (tTest (tChain r r' ta tb tc)) := by
  intro pins s σ H Q I h
  refine isTrue_chain (thn (ha pins s σ H _ I h) fun v s1 ⟨x, H1, I1, r1, q1⟩ => test_link (thn (hb pins s1 σ H1 _ I1 q1) fun u s2 ⟨y, H2, I2, r2, q2⟩ =>
    thn (ho pins s2 σ H2 x y v u _ I2 r1 r2 q2) fun d s3 ⟨z, H3, I3, r3, k, e, q3⟩ => ?_)) hm
  subst e
  cases r3
  refine wpAny_truthy_bool ?_
  cases k with
  | false =>
    obtain ⟨k', e', q'⟩ := q3
    cases e'
    exact ite_ff ⟨H3, I3, q'⟩
  | true =>
    refine ite_tt (test_last (thn (hc pins s3 σ H3 _ I3 q3) fun w' s4 ⟨z', H4, I4, r4, q4⟩ => thn (ho' pins s4 σ H4 y z' u w' _ I4 r2 r4 q4) fun d' s5 ⟨z2, H5, I5, r5, k2, e2, q5⟩ => ?_))
    subst e2
    cases r5
    exact wpAny_truthy_bool ⟨H5, I5, q5⟩

theorem line63 : (sizeLine : Nat) < 2 ^ 63 := by rw [sizeLine_eq]; decide
theorem op_add_str : OpR X (binaryOp .Add) (fun x y H Q => ∃ i j, x = .str i ∧ y = .str j ∧ i.length + j.length ≤ sizeLine ∧ Q (.str (i ++ j)) H) := by
  intro pins s σ H x y v u Q I rx ry h
  obtain ⟨i, j, rfl, rfl, hz, q⟩ := h
  obtain ⟨t, rfl⟩ := rx
  obtain ⟨t', rfl⟩ := ry
  exact add_str (fun t' tk => ⟨.str (i ++ j), H, I.tok _, ⟨_, rfl⟩, q⟩) hz
theorem vals1 {x : V} {us : List Value} (r : Vals [x] us) : ∃ u, us = [u] ∧ RelV x u := by
  cases r with
  | cons r1 r2 => cases r2; exact ⟨_, rfl, r1⟩
theorem vals2 {x y : V} {us : List Value} (r : Vals [x, y] us) : ∃ u w', us = [u, w'] ∧ RelV x u ∧ RelV y w' := by
  cases r with
  | cons r1 r2 =>
    cases r2 with
    | cons r3 r4 => cases r4; exact ⟨_, _, rfl, r1, r3⟩
theorem call_str_int : CallR X (.type "str") (fun xs H Q => ∃ i, xs = [.int i] ∧ i.natAbs.log2 < 1920 ∧ Q (.str (toString i)) H) := by
  intro pins s σ H xs us Q I r h
  obtain ⟨i, rfl, hz, q⟩ := h
  obtain ⟨u, rfl, t, rfl⟩ := vals1 r
  exact PySem.P.str_of_int hz ⟨.str _, H, I.tok _, ⟨_, rfl⟩, q⟩
end
end L2

namespace L2
open PySem PySem.Spec PyProof.Rows

structure ObjM (h : Heap) (x dx C : Addr) (mA : Str → Option Value) : Prop where
  obj : h.get? x = some (PySem.W.instObj C dx)
  ns : h.Ns1 dx mA
  ne : dx ≠ x

theorem lookIn_ns {h : Heap} {dx : Addr} {mA : Str → Option Value} (n : h.Ns1 dx mA) : ∃ od, h.get? dx = some od ∧ ∀ name, PySem.W.lookIn name od = some (mA name) := by
  obtain ⟨o, es, ep, ho, hd, hk, _, hm⟩ := n
  refine ⟨o, ho, fun name => ?_⟩
  have e := hm name
  unfold nsFind findBy at e
  rw [← Array.find?_toList] at e
  unfold PySem.W.lookIn
  rw [hd]
  dsimp only
  split
  · rename_i y q
    rw [q] at e
    exact congrArg some e
  · rename_i q
    rw [q] at e
    have a : es.toList.any (·.refKey) = false := by
      rw [List.any_eq_false]
      intro y hy
      obtain ⟨z, t, hkey⟩ := hk y (Array.mem_toList_iff.mp hy)
      simp [DictEntry.refKey, hkey]
    have a' : ¬ es.toList.any (·.refKey) = true := by rw [a]; exact Bool.false_ne_true
    rw [if_neg a']
    exact congrArg some e

theorem ObjM.look {h : Heap} {x dx C : Addr} {mA : Str → Option Value} (I : ObjM h x dx C mA) : ∃ od, PySem.W.InstAt h x (PySem.W.instObj C dx) C (some od) ∧ ∀ name, PySem.W.lookIn name od = some (mA name) :=
  let ⟨od, ho, hl⟩ := lookIn_ns I.ns
  ⟨od, ⟨I.obj, rfl, rfl, ho⟩, hl⟩

section
variable {prog : Program} {w : World} {A : Around} {E : Value → Shared → Prop} {s : Shared} {K : PySem.W.Frag} {x dx C f : Addr} {mA : Str → Option Value} {name : Str} {v : Value}

end

theorem RelO.some_of {v : V} {o : Option Value} (r : RelO (some v) o) : ∃ u, o = some u ∧ RelV v u := by
  cases o with
  | none => exact (show False from r).elim
  | some u => exact ⟨u, rfl, r⟩
section
variable {P : Program} {w : World} {H H' : Hp} {h h' : Heap} {a C dx : Addr} {fs fs' : List (Str × V)}
end

structure Cls (K : PySem.W.Frag) (C : Addr) : Prop where
  pg : PySem.W.plainGet K C Str.empty = true
  hd : PySem.W.hasDictIn K C = true
  po : PySem.W.plainOver K C = true
  sa : PySem.W.findIn K (.ref C) "__setattr__" = some (some (.builtin "object.__setattr__"))
theorem Cls.get {K : PySem.W.Frag} {C : Addr} (c : Cls K C) (f : Str) : PySem.W.plainGet K C f = true := c.pg
section
variable {X : Cx} {pins : List (Addr × Obj)} {σ : St} {H : Hp} {s : Shared} {a C dx : Addr} {fs : List (Str × V)} {f : Str} {v : V} {A : Around} {E : Value → Shared → Prop}

theorem Inv.made (I : Inv X pins σ H s) : Inv X pins σ (upd (upd H s.heap.objs.size (.own (s.heap.objs.size + 1))) (s.heap.objs.size + 1) (.ins C s.heap.objs.size []))
    { s with heap := (s.heap.push PySem.W.emptyDict).push (PySem.W.instObj C s.heap.objs.size) } := by
  have e1 : (s.heap.push PySem.W.emptyDict).get? s.heap.objs.size = some PySem.W.emptyDict := Heap.get?_push_size s.heap rfl
  have e2 : ((s.heap.push PySem.W.emptyDict).push (PySem.W.instObj C s.heap.objs.size)).get? (s.heap.objs.size + 1) = some (PySem.W.instObj C s.heap.objs.size) := by
    have := Heap.get?_push_size (s.heap.push PySem.W.emptyDict) (o := PySem.W.instObj C s.heap.objs.size) rfl
    rwa [Heap.size_push] at this
  have e3 : (s.heap.push PySem.W.emptyDict).Ns s.heap.objs.size (fun _ => none) := ⟨PySem.W.emptyDict, #[], _, e1, rfl, (fun e he => absurd he (by simp)), fun _ => rfl⟩
  have I1 := I.laid (a := s.heap.objs.size) (o := .own (s.heap.objs.size + 1)) (h' := s.heap.push PySem.W.emptyDict) (t' := s.toks) (fun b u q => Heap.get?_push_of_some _ q) (Nat.le_refl _) ⟨_, e1⟩
  refine I1.laid (a := s.heap.objs.size + 1) (o := .ins C s.heap.objs.size []) (t' := s.toks) (fun b u q => Heap.get?_push_of_some _ q) (Nat.le_of_eq (Heap.size_push _ _)) ?_
  have ne : s.heap.objs.size ≠ s.heap.objs.size + 1 := Nat.ne_of_lt (Nat.lt_succ_self _)
  refine ⟨by rw [upd_ne ne, upd_same], Nat.zero_le _, ne, e2, fun _ => none, (Heap.Ns1.of_empty e3).at fun o q => Heap.get?_push_of_some _ q, fun _ => True.intro, fun y hy => absurd rfl hy⟩

end

section
variable {X : Cx} {o e value : Expr} {f : Str} {pos pos' tpos : Pos} {ta tv : TE}
end

section
variable {X : Cx} {pins : List (Addr × Obj)} {σ : St} {H : Hp} {s : Shared} {A : Around} {E : Value → Shared → Prop} {Q : Value → Shared → Prop} {c : Value} {b : Bool}
end
end L2

namespace L2
open PySem PySem.Spec PyProof.Rows

structure Room (k : Nat) (A : Around) : Prop where
  hd : A.handled = none
  dp : A.depth + 3 * k + 5 < recursionLimit
  un : A.units + 16 * k + 200 < cLine
  gd : A.guards = some []
theorem Room.mono {j k : Nat} {A : Around} (r : Room k A) (h : j ≤ k) : Room j A := ⟨r.hd, by have := r.dp; omega, by have := r.un; omega, r.gd⟩
theorem Room.deeper {k : Nat} {A : Around} (r : Room (k + 1) A) (env : Env) : Room k (A.deeper env) :=
  ⟨r.hd, by have := r.dp; show A.depth + 1 + 3 * k + 5 < _; omega, by have := r.un; show A.units + 3 + 16 * k + 200 < _; omega, r.gd⟩
theorem Room.in1 {k : Nat} {A : Around} (r : Room (k + 1) A) : Room k A.in1 :=
  ⟨r.hd, by have := r.dp; show A.depth + 3 * k + 5 < _; omega, by have := r.un; show A.units + 1 + 16 * k + 200 < _; omega, r.gd⟩
theorem Room.depth {k : Nat} {A : Around} (r : Room k A) : A.depth < recursionLimit := by have := r.dp; omega
theorem Room.units {k : Nat} {A : Around} (r : Room k A) : A.units + 64 < cLine := by have := r.un; omega
noncomputable def tNil : TA := fun _ H Q => Q [] H
noncomputable def tCons (ta : TE) (tr : TA) : TA := fun σ H Q => ta σ H fun x H1 => tr σ H1 fun xs H2 => Q (x :: xs) H2
section
variable {X : Cx} {e : Expr} {es : List Expr} {te : TE} {t : TA} {pos : Pos}
theorem pa_nil : PA X [] tNil := fun _ _ _ _ H Q I h => Calls.spliced_nil ⟨[], H, I, .nil, h⟩
theorem pa_cons (ha : PE X e te) (hr : PA X es t) (hs : starEach (e :: es) X.env = (false, eval e X.env) :: starEach es X.env := by rfl) : PA X (e :: es) (tCons te t) := by
  intro pos pins s σ H Q I h
  rw [hs]
  show wpAny _ _ (spliced ((false, eval e X.env) :: backTo pos (starEach es X.env))) _ _ s
  refine Calls.spliced_cons (thn (ha pins s σ H _ I h) fun u s1 ⟨x, H1, I1, r1, q1⟩ => ?_)
  exact thn (hr pos pins s1 σ H1 _ I1 q1) fun us s2 ⟨xs, H2, I2, r2, q2⟩ => ⟨x :: xs, H2, I2, .cons r1 r2, q2⟩

noncomputable def tTup (t : TA) : TE := fun σ H Q => t σ H fun xs H1 => xs.length ≤ sizeLine ∧ ∀ p, H1 p = none → Q (.ref p) (upd H1 p (.tup xs))
noncomputable def tLst (t : TA) : TE := fun σ H Q => t σ H fun xs H1 => xs.length ≤ sizeLine ∧ ∀ p, H1 p = none → Q (.ref p) (upd H1 p (.lst xs))
theorem pe_tup {x1} (h : PA X es t) : PE X (.Tuple es x1 pos) (tTup t) := by
  intro pins s σ H Q I hq
  refine wpAny_Tuple_spliced (thn (h pos pins s σ H _ I hq) fun us s1 ⟨xs, H1, I1, r, z, q⟩ => ⟨by rw [← r.length]; exact z, ?_⟩)
  have hf : H1 s1.heap.objs.size = none := I1.hok.fresh (Nat.le_refl _)
  refine ⟨.ref s1.heap.objs.size, upd H1 s1.heap.objs.size (.tup xs), I1.laid (t' := s1.toks) (fun b u e => Heap.get?_push_of_some _ e) (Nat.le_refl _) ?_, rfl, q _ hf⟩
  exact ⟨z, us, r, ⟨_, Heap.get?_push_size _ rfl, rfl, _, rfl⟩⟩
theorem pe_lst (h : PA X es t) : PE X (.List es pos) (tLst t) := by
  intro pins s σ H Q I hq
  refine wpAny_List_spliced (thn (h pos pins s σ H _ I hq) fun us s1 ⟨xs, H1, I1, r, z, q⟩ => ⟨by rw [← r.length]; exact z, ?_⟩)
  have hf : H1 s1.heap.objs.size = none := I1.hok.fresh (Nat.le_refl _)
  refine ⟨.ref s1.heap.objs.size, upd H1 s1.heap.objs.size (.lst xs), I1.laid (t' := s1.toks) (fun b u e => Heap.get?_push_of_some _ e) (Nat.le_refl _) ?_, rfl, q _ hf⟩
  exact ⟨z, us, 0, r, Heap.get?_push_size _ rfl⟩
end

noncomputable abbrev Sp := List V → Hp → VK → XK → Prop
noncomputable abbrev CXT := List Env → Hp → Shared → XK → Value → Shared → Prop

structure Env0 (P : Program) (w : World) (K : PySem.W.Frag) (mg : Str → Option Value) (base : Heap) (A : Around) (outer : List Env) (s : Shared) (H : Hp) : Prop where
  frames : A.frames = some outer
  mod : Mod K mg base
  bs : ∀ b o, base.get? b = some o → s.heap.get? b = some o ∧ H b = none
  bsz : base.objs.size ≤ s.heap.objs.size
  funs : s.heap.FunFrames base outer
  frf : ∀ b ∈ frs outer, H b = none
  hok : HOk P w H s.heap
  bare : AllBare s.gens
noncomputable def CE (outer : List Env) (P : Program) (w : World) (H : Hp) (s : Shared) (Q : VK) (u : Value) (s' : Shared) : Prop :=
  ∃ v H', s'.os = s.os ∧ AllBare s'.gens ∧ Un (frs outer) [] H H' s.heap s'.heap ∧ HOk P w H' s'.heap ∧ RelV v u ∧ Q v H'
noncomputable def CR (CX : CXT) (outer : List Env) (P : Program) (w : World) (H : Hp) (s : Shared) (Q : VK) (E : XK) (r : Result) (s' : Shared) : Prop :=
  match r with
  | .ok (.ret u) => CE outer P w H s Q u s'
  | .ok _ => False
  | .error e => CX outer H s E e s'
structure FnOk (P : Program) (w : World) (K : PySem.W.Frag) (mg : Str → Option Value) (base : Heap) (CX : CXT) (k : Nat) (f : Addr) (fd : FuncData) (ps : List Str) (sp : Sp) : Prop where
  len : ∀ vs H Q E, sp vs H Q E → vs.length = ps.length
  run : ∀ (A : Around) (outer : List Env) (s : Shared) (H : Hp) (args : Args) (us : List Value) (vs : List V) (Q : VK) (E : XK), Room k A → Env0 P w K mg base A outer s H → BindsTo s fd args (ps.zip us) → Vals vs us → sp vs H Q E →
    codeAny (model P w) A (.call (.ref f) args) (CR CX outer P w H s Q E) s
theorem FnOk.mono {P : Program} {w : World} {K : PySem.W.Frag} {mg : Str → Option Value} {base : Heap} {CX : CXT} {j k : Nat} {f : Addr} {fd : FuncData} {ps : List Str} {sp : Sp} (F : FnOk P w K mg base CX j f fd ps sp) (h : j ≤ k) :
    FnOk P w K mg base CX k f fd ps sp := ⟨F.len, fun A outer s H args us vs Q E hr => F.run A outer s H args us vs Q E (hr.mono h)⟩
theorem Env0.in1 {P : Program} {w : World} {K : PySem.W.Frag} {mg : Str → Option Value} {base : Heap} {A : Around} {outer : List Env} {s : Shared} {H : Hp} (e : Env0 P w K mg base A outer s H) :
    Env0 P w K mg base A.in1 outer s H := ⟨e.frames, e.mod, e.bs, e.bsz, e.funs, e.frf, e.hok, e.bare⟩

section
variable {X : Cx} {pins : List (Addr × Obj)} {σ : St} {H : Hp} {s s' : Shared}
theorem Inv.env0 (I : Inv X pins σ H s) : Env0 X.prog X.w X.K X.mg X.base X.A X.stack s H :=
  ⟨I.ok.frames, I.ok.mod, I.bs, Nat.le_trans I.ok.bsz I.sz, I.stack, I.stkFree, I.hok, I.bare⟩
theorem Inv.after {Q : VK} {u : Value} (I : Inv X pins σ H s) (h : CE X.stack X.prog X.w H s Q u s') : EP X pins σ Q u s' := by
  obtain ⟨v, H', os, bare, un, hok, r, q⟩ := h
  obtain ⟨hh, g, d, t, os'⟩ := s'
  obtain rfl : os' = s.os := os
  exact ⟨v, H', I.call (h' := hh) (g' := g) (d' := d) (t' := t) (ch := []) un hok bare (fun b z => absurd z (by simp)), r, q⟩
end

noncomputable def tCall (sp : Sp) (dvs : List V) (E : XK) (t : TA) : TE := fun σ H Q => t σ H fun vs H1 => sp (vs ++ dvs) H1 Q E
noncomputable def Binds (K : PySem.W.Frag) (fd : FuncData) (ps : List Str) (ds : List Value) : Prop :=
  ∀ (s : Shared) (us : List Value), K.In s.heap → (us ++ ds).length = ps.length → BindsTo s fd ⟨us, []⟩ (ps.zip (us ++ ds))
theorem Binds.all {K : PySem.W.Frag} {fd : FuncData} {ps : List Str} (h : ∀ us : List Value, us.length = ps.length → bindArgs fd ⟨us, []⟩ = pure (ps.zip us)) : Binds K fd ps [] := fun s us _ hl => by
  rw [List.append_nil] at hl ⊢
  exact .of_eq (h us hl)

noncomputable def Passes (CX : CXT) (X : Cx) (E : XK) : Prop := ∀ (pins : List (Addr × Obj)) (σ : St) (H : Hp) (s : Shared) (e : Value) (s' : Shared), Inv X pins σ H s → CX X.stack H s E e s' → X.xe e s'

section
variable {X : Cx} {CX : CXT} {k : Nat} {f C : Addr} {fd : FuncData} {ps : List Str} {sp : Sp} {dvs : List V} {ds : List Value} {E : XK} {x m : Str} {p pos apos : Pos} {e o : Expr} {es : List Expr} {ta : TE} {t : TA}

theorem run_fn {pins : List (Addr × Obj)} {σ : St} {H : Hp} {s : Shared} {Q : VK} {us : List Value} {vs : List V} (F : FnOk X.prog X.w X.K X.mg X.base CX k f fd ps sp) (hr : Room k X.A) (hb : Binds X.K fd ps ds) (hd : Vals dvs ds) (hx : Passes CX X E)
    (I : Inv X pins σ H s) (r : Vals vs us) (h : sp (vs ++ dvs) H Q E) : wpAny (model X.prog X.w) X.A (call (.ref f) us) (EP X pins σ Q) X.xe s := by
  have r2 : Vals (vs ++ dvs) (us ++ ds) := r.append hd
  have hl : (us ++ ds).length = ps.length := by rw [← r2.length]; exact F.len _ _ _ _ h
  refine wpAny_call (codeAny_mono (F.run X.A X.stack s H ⟨us, []⟩ (us ++ ds) (vs ++ dvs) Q E hr I.env0 (hb s us I.kIn hl) r2 h) fun r s' hq => ?_)
  cases r with
  | error e => exact hx pins σ H s e s' I hq
  | ok fl =>
    cases fl with
    | ret u => exact I.after hq
    | next => exact False.elim hq
    | brk => exact False.elim hq
    | cont => exact False.elim hq

theorem pe_call (F : FnOk X.prog X.w X.K X.mg X.base CX k f fd ps sp) (hr : Room k X.A) (hg : Gl X x) (hm : X.mg x = some (.ref f)) (hk : PySem.W.keepIn X.K (.ref f) = true) (hb : Binds X.K fd ps ds) (hd : Vals dvs ds) (hx : Passes CX X E)
    (ha : PA X (e :: es) t) (hdb : (x == ("__debug__" : Str)) = false := by decide) (he : starEach (e :: es) X.env = (false, eval e X.env) :: starEach es X.env := by rfl) (hpl : (backTo pos (starEach es X.env)).any (·.1) = false := by rfl) :
    PE X (.Call (.Name x p) (e :: es) [] pos) (tCall sp dvs E t) := by
  intro pins s σ H Q I h
  refine wpAny_Call_Name_kw (ld_glob I hg hm ?_ hdb)
  refine PySem.W.callWith_K (h₀ := X.base) I.ok.mod.kin hk (thn (ha pos pins s σ H _ I h) fun us s1 ⟨vs, H1, I1, r, q⟩ => ⟨I1.kIn, ?_⟩) he hpl
  exact run_fn F hr hb hd hx I1 r q
end

section
variable {X : Cx} {CX : CXT} {k : Nat} {f C : Addr} {fd : FuncData} {ps ks : List Str} {sp : Sp} {E : XK} {x m : Str} {p pos apos kpos : Pos} {e o : Expr} {es : List Expr} {kws : List Keyword} {te ta : TE} {t tk : TA} {nm : Option Str}
variable {g : List Value → List Value → List Value} {gV : List V → List V → List V}
end

structure FnScope (N P : List Str) (sc : Scope) : Prop where
  kind : sc.kind = .function
  co : sc.isCoroutine = false
  gen : sc.isGenerator = false
  nd : N.Nodup
  pre : N.take P.length = P
  par : ∀ x ∈ P, sc.names.lookup x = some .local ∨ sc.names.lookup x = some .cell
  nofree : ∀ y ∈ sc.names, y.2 ≠ .free

theorem bindL_out {kindOf : Str → Option NameKind} {x : Str} : ∀ {binds : List (Str × Value)} {m : Str → Option Value}, (∀ v, (x, v) ∉ binds) → bindL kindOf binds m x = m x
  | [], _, _ => rfl
  | (n, v) :: r, m, h => by
    unfold bindL
    rw [bindL_out fun w hw => h w (List.mem_cons_of_mem _ hw)]
    split
    · have : x ≠ n := by rintro rfl; exact h v List.mem_cons_self
      simp [this]
    · rfl
theorem bindC_out {kindOf : Str → Option NameKind} {x : Str} : ∀ {binds : List (Str × Value)} {m : Str → Option Value}, (∀ v, (x, v) ∉ binds) → bindC kindOf binds m x = m x
  | [], _, _ => rfl
  | (n, v) :: r, m, h => by
    unfold bindC
    rw [bindC_out fun w hw => h w (List.mem_cons_of_mem _ hw)]
    split
    · rfl
    · have : x ≠ n := by rintro rfl; exact h v List.mem_cons_self
      simp [this]
theorem bindL_get {kindOf : Str → Option NameKind} {x : Str} {v : Value} : ∀ {P : List Str} {vs : List Value} {i : Nat} {m : Str → Option Value}, P.Nodup → P[i]? = some x → vs[i]? = some v → kindOf x = some .local →
    bindL kindOf (P.zip vs) m x = some v
  | [], _, _, _, _, h, _, _ => by simp at h
  | _ :: _, [], _, _, _, _, h, _ => by simp at h
  | p :: P, w :: vs, 0, m, nd, h1, h2, hk => by
    simp at h1 h2; subst h1; subst h2
    show bindL kindOf ((p, w) :: P.zip vs) m p = _
    unfold bindL
    rw [bindL_out fun v hv => (List.nodup_cons.mp nd).1 (List.of_mem_zip hv).1, if_pos hk]
    simp
  | p :: P, w :: vs, i + 1, m, nd, h1, h2, hk => by
    show bindL kindOf ((p, w) :: P.zip vs) m x = _
    unfold bindL
    exact bindL_get (i := i) (List.nodup_cons.mp nd).2 (by simpa using h1) (by simpa using h2) hk
theorem bindC_get {kindOf : Str → Option NameKind} {x : Str} {v : Value} : ∀ {P : List Str} {vs : List Value} {i : Nat} {m : Str → Option Value}, P.Nodup → P[i]? = some x → vs[i]? = some v → kindOf x ≠ some .local →
    bindC kindOf (P.zip vs) m x = some v
  | [], _, _, _, _, h, _, _ => by simp at h
  | _ :: _, [], _, _, _, _, h, _ => by simp at h
  | p :: P, w :: vs, 0, m, nd, h1, h2, hk => by
    simp at h1 h2; subst h1; subst h2
    show bindC kindOf ((p, w) :: P.zip vs) m p = _
    unfold bindC
    rw [bindC_out fun v hv => (List.nodup_cons.mp nd).1 (List.of_mem_zip hv).1, if_neg hk]
    simp
  | p :: P, w :: vs, i + 1, m, nd, h1, h2, hk => by
    show bindC kindOf ((p, w) :: P.zip vs) m x = _
    unfold bindC
    exact bindC_get (i := i) (List.nodup_cons.mp nd).2 (by simpa using h1) (by simpa using h2) hk

noncomputable def start (N : List Str) (vs : List V) : St := vs.map some ++ List.replicate (N.length - vs.length) none

noncomputable def cxOf (CX : CXT) (P : Program) (w : World) (K : PySem.W.Frag) (mg : Str → Option Value) (base : Heap) (N : List Str) (qual : Str) (scope : Scope) (f : Addr) (cd : Value) (A : Around) (outer : List Env) (s : Shared) (H : Hp) (E : XK) : Cx where
  prog := P
  w := w
  K := K
  mg := mg
  base := base
  A := A.deeper (envOfC qual scope s.heap.objs.size f cd)
  N := N
  s₀ := s
  H₀ := H
  env := envOfC qual scope s.heap.objs.size f cd
  outer := outer
  stack := envOfC qual scope s.heap.objs.size f cd :: outer
  ex := []
  calm := true
  fn := fun _ => true
  pn := []
  xe := fun e s' => wpAny (model P w) (A.deeper (envOfC qual scope s.heap.objs.size f cd)) (leaving (envOfC qual scope s.heap.objs.size f cd) e) (fun _ s'' => CX outer H s E e s'') (fun e' s'' => CX outer H s E e' s'') s'

theorem cell_has {sc : Scope} {n : Nat} {x : Str} (h : sc.names.lookup x = some .cell) : ∃ c, (cellsFrom n sc.names []).lookup x = some c := by
  have q := PySem.W.cellsFrom_some sc.names n [] (.inl h)
  exact Option.isSome_iff_exists.mp q

theorem inv_start {CX : CXT} {P : Program} {w : World} {K : PySem.W.Frag} {mg : Str → Option Value} {base : Heap} {N ps : List Str} {qual : Str} {scope : Scope} {f : Addr} {cd : Value} {A : Around} {outer : List Env} {s s1 : Shared} {H : Hp} {E : XK} {us : List Value} {vs : List V}
    (S : FnScope N ps scope) (hd : A.handled = none) (e0 : Env0 P w K mg base A outer s H) (hl : vs.length = ps.length) (r : Vals vs us)
    (x : InCallC s s.heap.objs.size (bindL (envOfC qual scope s.heap.objs.size f cd).kindOf (ps.zip us) fun _ => none) (cellsFrom (s.heap.objs.size + 1) scope.names []) (bindC (envOfC qual scope s.heap.objs.size f cd).kindOf (ps.zip us) fun _ => none) s1) :
    Inv (cxOf CX P w K mg base N qual scope f cd A outer s H E) [] (start N vs) H s1 := by
  have hpl : ps.length ≤ N.length := by have := congrArg List.length S.pre; rw [List.length_take] at this; omega
  obtain ⟨h1, tk, rfl, hk⟩ := x.done
  have noA : ∀ b : Addr, b ∉ (cxOf CX P w K mg base N qual scope f cd A outer s H E).ex := fun b z => absurd (show b ∈ ([] : List Addr) from z) (by simp)
  refine ⟨⟨e0.mod, S.kind, rfl, rfl, Nat.le_refl _, fun y z c h1 h2 => ?_, fun y hy => ?_, fun y c _ h => ?_, fun _ => hd, Around.frames_deeper e0.frames, .inr ⟨rfl, rfl⟩, fun b z => absurd z (noA b), e0.bs, e0.bsz, fun b _ _ => noA b, fun b z => absurd z (noA b), e0.funs, e0.frf⟩,
    rfl, e0.bare, Un.kept hk, ⟨_, x.toInCall.ns, fun i y v h1 h2 h3 => ?_⟩, fun y c h => ⟨_, x.cell y c h⟩, e0.hok.fresh (Nat.le_refl _), fun y c h => ?_, fun p hp => absurd (show p ∈ ([] : List (Addr × Obj)) from hp) (by simp), e0.hok.kept hk, ?_⟩
  · exact name_of_addr x.apart (PySem.mem_of_lookup h1) (PySem.mem_of_lookup h2)
  · have hy : scope.names.lookup y = some .cell ∨ scope.names.lookup y = some .free := hy
    rcases hy with hy | hy
    · exact cell_has hy
    · exact absurd rfl (S.nofree _ (PySem.mem_of_lookup hy))
  · exact Nat.le_of_lt (x.above y c (PySem.mem_of_lookup h))
  · have hi : i < vs.length := by
      unfold start at h2
      by_cases hi : i < vs.length
      · exact hi
      · rw [List.getElem?_append_right (by simpa using hi)] at h2
        rw [List.getElem?_replicate] at h2
        split at h2 <;> cases h2
    have ha : vs[i]? = some v := by
      unfold start at h2
      rw [List.getElem?_append_left (by simpa using hi), List.getElem?_map] at h2
      cases e : vs[i]? with
      | none => rw [e] at h2; cases h2
      | some a => rw [e] at h2; cases h2; rfl
    obtain ⟨u, hu, rv⟩ := r.get ha
    have hp : ps[i]? = some y := by
      rw [← S.pre, List.getElem?_take_of_lt (by omega)]; exact h1
    have ndP : ps.Nodup := by rw [← S.pre]; exact S.nd.sublist (List.take_sublist _ _)
    refine ⟨u, rv, ?_⟩
    rcases S.par y (List.mem_of_getElem? hp) with k | k
    · exact .inl ⟨k, bindL_get ndP hp hu k⟩
    · obtain ⟨c, e⟩ := cell_has (n := s.heap.objs.size + 1) k
      refine .inr ⟨.inl k, c, e, ?_⟩
      have q := x.cell y c e
      rw [bindC_get ndP hp hu (by show scope.names.lookup y ≠ _; rw [k]; decide)] at q
      exact q
  · exact e0.hok.fresh (Nat.le_of_lt (x.above y c (PySem.mem_of_lookup h)))
  · unfold start
    show _ = N.length
    rw [List.length_append, List.length_map, List.length_replicate]
    omega

theorem fn_of {CX : CXT} {P : Program} {w : World} {K : PySem.W.Frag} {mg : Str → Option Value} {base : Heap} {k : Nat} {f : Addr} {name qual : Str} {params : Arguments} {body : List Stmt} {scope : Scope} {dV kV doc pm cdv ct oc : Value} {an od : Option Addr}
    {osl : Array (Option Value)} {N ps : List Str} {sp : Sp} (lk : K.lookup f = some ⟨oc, od, .func (PySem.W.fnOf name qual params body scope dV kV doc pm an cdv ct), osl⟩) (hcd : PySem.W.codeIn K cdv qual = true) (S : FnScope N ps scope)
    (len : ∀ vs H Q E, sp vs H Q E → vs.length = ps.length)
    (hbody : ∀ (A : Around) (outer : List Env) (s : Shared) (H : Hp) (vs : List V) (Q : VK) (E : XK), Room k (A.deeper (envOfC qual scope s.heap.objs.size f cdv)) → sp vs H Q E →
      ∃ t, PSs (cxOf CX P w K mg base N qual scope f cdv A outer s H E) body t ∧ t { nx := fun _ H' => Q .non H', rt := Q } (start N vs) H) :
    FnOk P w K mg base CX (k + 1) f (PySem.W.fnOf name qual params body scope dV kV doc pm an cdv ct) ps sp := by
  refine ⟨len, fun A outer s H args us vs Q E hr e0 hb r hsp => ?_⟩
  have hl := len _ _ _ _ hsp
  have KX : K.In s.heap := e0.mod.kin.keeps fun b o e => (e0.bs b o e).1
  have lim : s.heap.NoLimit := e0.mod.nolimit.keeps fun b o e => (e0.bs b o e).1
  have hkind : ∀ y ∈ ps.zip us, scope.names.lookup y.1 = some .local ∨ (scope.names.lookup y.1 = some .cell ∧ ((cellsFrom (s.heap.objs.size + 1) scope.names []).lookup y.1).isSome = true) := fun ⟨n, v⟩ hy => by
    rcases S.par n (List.of_mem_zip hy).1 with q | q
    · exact .inl q
    · exact .inr ⟨q, PySem.W.cellsFrom_some _ _ _ (.inl q)⟩
  refine codeAny_call_function hr.depth (KX _ _ lk) rfl S.co S.gen rfl (PySem.W.codeRec_of KX hcd) (hb _ _ _ _ ?_)
  refine wpAny_newFunctionEnv_cells S.kind hkind fun env he s1 x => ?_
  subst he
  refine ⟨lim.keeps x.toInCall.keep, codeAny_func ?_⟩
  obtain ⟨t, ht, hq⟩ := hbody A outer s H vs Q E (hr.deeper _) hsp
  have I : Inv (cxOf CX P w K mg base N qual scope f cdv A outer s H E) [] (start N vs) H s1 := inv_start S hr.hd e0 hl r x
  refine wpAny_mono (ht [] s1 (start N vs) H _ I hq) (fun fl s' hs => ?_) fun e s' hs => hs
  have fin : ∀ {σ' : St} {H' : Hp} {v : V} {u : Value}, Inv (cxOf CX P w K mg base N qual scope f cdv A outer s H E) [] σ' H' s' → RelV v u → Q v H' → CE outer P w H s Q u s' :=
    fun {σ' H' v u} J rv q => ⟨v, H', J.os, J.bare, J.base, J.hok, rv, q⟩
  cases fl with
  | ret u =>
    obtain ⟨v, σ', H', J, rv, q⟩ := hs
    exact fin J rv q
  | next =>
    obtain ⟨σ', H', J, q⟩ := hs
    exact fin (v := V.non) (u := Value.none) J rfl q
  | brk =>
    obtain ⟨_, _, _, q⟩ := hs
    exact False.elim q
  | cont =>
    obtain ⟨_, _, _, q⟩ := hs
    exact False.elim q
end L2

namespace L2
open PySem PySem.Spec PyProof.Rows
section
variable {X : Cx} {x : Str} {p pos : Pos} {e : Expr} {es : List Expr} {t : TA} {id T : String} {r : List V → Hp → VK → Prop}

noncomputable def tCB (r : List V → Hp → VK → Prop) (t : TA) : TE := fun σ H Q => t σ H fun vs H1 => r vs H1 Q
theorem pe_callB (hc : CallR X (.builtin id) r) (hg : Gl X x) (hm : X.mg x = none) (hv : bootBuiltins x = some (.builtin id)) (ha : PA X (e :: es) t) (hn : x ≠ "__name__" := by decide) (hdb : (x == ("__debug__" : Str)) = false := by decide)
    (he : starEach (e :: es) X.env = (false, eval e X.env) :: starEach es X.env := by rfl) (hpl : (backTo pos (starEach es X.env)).any (·.1) = false := by rfl) : PE X (.Call (.Name x p) (e :: es) [] pos) (tCB r t) := by
  intro pins s σ H Q I h
  refine wpAny_Call_Name_kw (ld_blt I hg hm hv ?_ hn hdb)
  exact PyProof.Rows.callWith_builtin1 (thn (ha pos pins s σ H _ I h) fun us s1 ⟨vs, H1, I1, r1, q1⟩ => hc pins s1 σ H1 vs us Q I1 r1 q1) he hpl
theorem pe_callTy (hc : CallR X (.type T) r) (hg : Gl X x) (hm : X.mg x = none) (hv : bootBuiltins x = some (.type T)) (ha : PA X (e :: es) t) (hn : x ≠ "__name__" := by decide) (hdb : (x == ("__debug__" : Str)) = false := by decide)
    (he : starEach (e :: es) X.env = (false, eval e X.env) :: starEach es X.env := by rfl) (hpl : (backTo pos (starEach es X.env)).any (·.1) = false := by rfl) : PE X (.Call (.Name x p) (e :: es) [] pos) (tCB r t) := by
  intro pins s σ H Q I h
  refine wpAny_Call_Name_kw (ld_blt I hg hm hv ?_ hn hdb)
  exact PyProof.Rows.callWith_type1 (thn (ha pos pins s σ H _ I h) fun us s1 ⟨vs, H1, I1, r1, q1⟩ => hc pins s1 σ H1 vs us Q I1 r1 q1) he hpl
end
end L2

namespace HT
open PySem PyProof.Rows

section
open PySem.SeqAt
open PySem.AutoSeq1 (wpAny_loadPart')
open PySem.MeetsSeq PySem.MeetsSeq2 PySem.MeetsSeq3

end

section
variable {prog : Program} {w : World} {A : Around} {E : Value → Shared → Prop} {s : Shared}

noncomputable def sIx (n d : Nat) : Option Int → Nat
  | none => d
  | some v => if v < 0 then (v + (n : Int)).toNat else min v.toNat n
end
end HT

namespace L2
open PySem PySem.Spec PyProof.Rows

noncomputable abbrev TO := St → Hp → (Option Int → Hp → Prop) → Prop
noncomputable def PO (X : Cx) (e : Option Expr) (t : TO) : Prop :=
  ∀ (pins : List (Addr × Obj)) (s : Shared) (σ : St) (H : Hp) (Q : Option Int → Hp → Prop), Inv X pins σ H s → t σ H Q →
    wpAny (model X.prog X.w) X.A (evalPart e X.env) (fun u s' => ∃ o H', Inv X pins σ H' s' ∧ IsPart u o ∧ Q o H') X.xe s
noncomputable def tNoPart : TO := fun _ H Q => Q none H
noncomputable def tPart (t : TE) : TO := fun σ H Q => t σ H fun x H1 => ∃ i, x = .int i ∧ Q (some i) H1

theorem intsAre_of {ns : List Int} : ∀ {us : List Value}, Vals (ns.map V.int) us → IntsAre us ns := by
  induction ns with
  | nil => intro us r; rw [List.map_nil] at r; cases r; exact .nil
  | cons n ns ih =>
    intro us r
    rw [List.map_cons] at r
    cases r with
    | cons r1 r2 =>
      obtain ⟨t, e⟩ := r1
      subst e
      exact .cons n t (ih r2)

section
variable {X : Cx} {e : Expr} {te : TE} {lo hi : Option Expr} {tl th : TO} {pos p2 : Pos}

theorem po_none : PO X none tNoPart := by
  intro pins s σ H Q I h
  rw [evalPart_none]
  exact wpAny_pure ⟨none, H, I, .none, h⟩
theorem po_some (h : PE X e te) : PO X (some e) (tPart te) := by
  intro pins s σ H Q I hw
  rw [evalPart_some]
  refine thn (h pins s σ H _ I hw) fun u s1 ⟨x, H1, I1, r1, q1⟩ => ?_
  obtain ⟨i, rfl, q⟩ := q1
  obtain ⟨t, rfl⟩ := r1
  exact ⟨some i, H1, I1, .int i t, q⟩

noncomputable def SlR (X : Cx) (r : V → Option Int → Option Int → Hp → VK → Prop) : Prop :=
  ∀ (pins : List (Addr × Obj)) (s : Shared) (σ : St) (H : Hp) (x : V) (v vl vu : Value) (lo hi : Option Int) (sl : Addr) (Q : VK), Inv X pins σ H s → RelV x v → s.heap.IsSliceOf sl vl vu .none → IsPart vl lo → IsPart vu hi → r x lo hi H Q →
    ∃ T id, typeLookup (.type T) "__getitem__" = pure (some (.builtin id)) ∧ s.TypeIs v T ∧ wpAny (model X.prog X.w) X.A (getItem v (.ref sl)) (EP X pins σ Q) X.xe s
theorem SlR.or {r r' : V → Option Int → Option Int → Hp → VK → Prop} (h : SlR X r) (h' : SlR X r') : SlR X (fun x lo hi H Q => r x lo hi H Q ∨ r' x lo hi H Q) := by
  intro pins s σ H x v vl vu lo hi sl Q I rx hs pl pu q
  rcases q with q | q
  · exact h pins s σ H x v vl vu lo hi sl Q I rx hs pl pu q
  · exact h' pins s σ H x v vl vu lo hi sl Q I rx hs pl pu q
noncomputable def tSl (r : V → Option Int → Option Int → Hp → VK → Prop) (te : TE) (tl th : TO) : TE := fun σ H Q => te σ H fun x H1 => tl σ H1 fun l H2 => th σ H2 fun u H3 => r x l u H3 Q
theorem pe_slice {r : V → Option Int → Option Int → Hp → VK → Prop} (hr : SlR X r) (he : PE X e te) (hl : PO X lo tl) (hu : PO X hi th) : PE X (.Subscript e (.Slice lo hi none p2) pos) (tSl r te tl th) := by
  intro pins s σ H Q I h
  refine Subscript_ (thn (he pins s σ H _ I h) fun v s1 ⟨x, H1, I1, r1, q1⟩ => ?_)
  refine wpAny_Slice (thn (hl pins s1 σ H1 _ I1 q1) fun vl s2 ⟨l, H2, I2, pl, q2⟩ => thn (hu pins s2 σ H2 _ I2 q2) fun vu s3 ⟨u, H3, I3, pu, q3⟩ => ?_)
  rw [evalPart_none]
  refine wpAny_pure ?_
  have I4 : Inv X pins σ H3 { s3 with heap := s3.heap.push { cls := .type "slice", data := .fields #[vl, vu, .none] } } := I3.kept (t' := s3.toks) fun b ob q => Heap.get?_push_of_some _ q
  obtain ⟨T, id, hT, ht, hg⟩ := hr pins { s3 with heap := s3.heap.push { cls := .type "slice", data := .fields #[vl, vu, .none] } } σ H3 x v vl vu l u s3.heap.objs.size Q I4 r1 (Heap.IsSliceOf.new ..) pl pu q3
  show wpAny (model X.prog X.w) X.A (subscriptTail e (.Slice lo hi none p2) v (.ref s3.heap.objs.size)) (EP X pins σ Q) X.xe { s3 with heap := s3.heap.push { cls := .type "slice", data := .fields #[vl, vu, .none] } }
  exact tail_any (ops := [.ref s3.heap.objs.size, v]) ht hT hg (by with_unfolding_all rfl)

noncomputable def cutV (xs : List V) (lo hi : Option Int) : List V := (xs.drop (HT.sIx xs.length 0 lo)).take (HT.sIx xs.length xs.length hi - HT.sIx xs.length 0 lo)
theorem cutV_length (xs : List V) (lo hi : Option Int) : (cutV xs lo hi).length ≤ xs.length := by
  unfold cutV
  rw [List.length_take, List.length_drop]
  omega
end
end L2

namespace L2
open PySem PySem.Spec PyProof.Rows

noncomputable def ixN (n : Nat) (i : Int) : Option Nat := if 0 ≤ i then (if i < n then some i.toNat else none) else if -(n : Int) ≤ i then some (i + n).toNat else none
noncomputable def atI {α : Type} (xs : List α) (i : Int) : Option α := (ixN xs.length i).bind fun j => xs[j]?
theorem ixN_seq {n : Nat} {i : Int} {j : Nat} (h : ixN n i = some j) : seqIndex? i n = some j ∧ j < n ∧ -(n : Int) ≤ i ∧ i < n := by
  unfold ixN at h
  by_cases h0 : 0 ≤ i
  · rw [if_pos h0] at h
    by_cases h1 : i < n
    · rw [if_pos h1] at h
      have e : i.toNat = j := Option.some.inj h
      exact ⟨by rw [seqIndex_of h0 h1, e], by omega, by omega, h1⟩
    · rw [if_neg h1] at h; cases h
  · rw [if_neg h0] at h
    by_cases h1 : -(n : Int) ≤ i
    · rw [if_pos h1] at h
      have e : (i + n).toNat = j := Option.some.inj h
      exact ⟨by rw [seqIndex_neg (by omega) h1, e], by omega, h1, by omega⟩
    · rw [if_neg h1] at h; cases h
theorem atI_get {α : Type} {xs : List α} {i : Int} {v : α} (h : atI xs i = some v) : ∃ j, seqIndex? i xs.length = some j ∧ xs[j]? = some v ∧ j < xs.length ∧ -(xs.length : Int) ≤ i ∧ i < xs.length := by
  unfold atI at h
  cases e : ixN xs.length i with
  | none => rw [e] at h; cases h
  | some j =>
    rw [e] at h
    obtain ⟨h1, h2, h3, h4⟩ := ixN_seq e
    exact ⟨j, h1, h, h2, h3, h4⟩
theorem atI_nat {α : Type} {xs : List α} {j : Nat} {v : α} (h : xs[j]? = some v) : atI xs (j : Int) = some v := by
  have hj : j < xs.length := (List.getElem?_eq_some_iff.mp h).1
  have e : ixN xs.length (j : Int) = some j := by
    unfold ixN
    rw [if_pos (by omega), if_pos (by omega)]; simp
  unfold atI; rw [e]; exact h
noncomputable def PlainIx (b : Expr) : Prop := ∀ o i, subscripted b false o i = operate [o, i] (getItem o i)
noncomputable def IxR (X : Cx) (r : R2) : Prop :=
  ∀ (value slice : Expr) (pins : List (Addr × Obj)) (s : Shared) (σ : St) (H : Hp) (x y : V) (v u : Value) (Q : VK), Inv X pins σ H s → RelV x v → RelV y u → r x y H Q →
    subscripted slice false v u = operate [v, u] (getItem v u) → wpAny (model X.prog X.w) X.A (subscriptTail value slice v u) (EP X pins σ Q) X.xe s
noncomputable def MtR (X : Cx) (id : String) (r : V → List V → Hp → VK → Prop) : Prop :=
  ∀ (pins : List (Addr × Obj)) (s : Shared) (σ : St) (H : Hp) (x : V) (xs : List V) (v : Value) (us : List Value) (Q : VK), Inv X pins σ H s → RelV x v → Vals xs us → r x xs H Q →
    wpAny (model X.prog X.w) X.A (call (.builtin id) (v :: us)) (EP X pins σ Q) X.xe s
section
variable {X : Cx} {a b : Expr} {ta tb : TE} {pos : Pos}
theorem IxR.or {r r' : R2} (h : IxR X r) (h' : IxR X r') : IxR X (fun x y H Q => r x y H Q ∨ r' x y H Q) := by
  intro value slice pins s σ H x y v u Q I rx ry q hs
  rcases q with q | q
  · exact h value slice pins s σ H x y v u Q I rx ry q hs
  · exact h' value slice pins s σ H x y v u Q I rx ry q hs
theorem MtR.or {id : String} {r r' : V → List V → Hp → VK → Prop} (h : MtR X id r) (h' : MtR X id r') : MtR X id (fun x xs H Q => r x xs H Q ∨ r' x xs H Q) := by
  intro pins s σ H x xs v us Q I rx rs q
  rcases q with q | q
  · exact h pins s σ H x xs v us Q I rx rs q
  · exact h' pins s σ H x xs v us Q I rx rs q
theorem pe_ix {r : R2} (hr : IxR X r) (ha : PE X a ta) (hb : PE X b tb) (hs : PlainIx b) : PE X (.Subscript a b pos) (tOp r ta tb) := by
  intro pins s σ H Q I h
  exact Subscript_ (binT ha hb I h fun v u s2 x y H2 I2 rx ry q => hr a b pins s2 σ H2 x y v u Q I2 rx ry q (hs _ _))

noncomputable def rIxL (K : PySem.W.Frag) : R2 := fun x y H Q => ∃ p xs i v, x = .ref p ∧ y = .int i ∧ SqL K H p xs ∧ atI xs i = some v ∧ Q v H
noncomputable def rIxT (K : PySem.W.Frag) : R2 := fun x y H Q => ∃ p xs i v, x = .ref p ∧ y = .int i ∧ SqT K H p xs ∧ atI xs i = some v ∧ Q v H
noncomputable def rIxS : R2 := fun x y H Q => ∃ z i c, x = .str z ∧ y = .int i ∧ z.length ≤ sizeLine ∧ atI z.cps.toList i = some c ∧ Q (.str ⟨#[c]⟩) H
theorem ix_list : IxR X (rIxL X.K) := by
  intro value slice pins s σ H x y v u Q I rx ry h hs
  obtain ⟨p, xs, i, z, rfl, rfl, hq, he, q⟩ := h
  cases rx
  obtain ⟨t, rfl⟩ := ry
  obtain ⟨its, r, pl, hz⟩ := I.list hq
  obtain ⟨j, h1, h2, h3, h4, h5⟩ := atI_get he
  obtain ⟨w, ew, rw'⟩ := r.get h2
  have hl := r.length
  have hn := line63
  have fin : EP X pins σ Q w s := ⟨z, H, I, rw', q⟩
  by_cases h0 : 0 ≤ i
  · have hj : i.toNat = j := by
      rw [seqIndex_of h0 h5] at h1
      exact Option.some.inj h1
    exact item_listR pl.isList h0 (by omega) (by rw [hj]; simpa using ew) fin hs
  · have hj : (i + (its.toArray.size : Int)).toNat = j := by
      rw [seqIndex_neg (by omega) h4] at h1
      rw [List.size_toArray, ← hl]
      exact Option.some.inj h1
    exact subscriptTail_builtinR (x := w) pl.isList.typeIs slot_list_getitem.lookup
      (wpAny_getItem_list_neg (Q := fun r s' => r = w ∧ EP X pins σ Q r s') pl.isList (by omega) (by rw [List.size_toArray] <;> omega) (by omega) (by rw [hj]; simpa using ew) ⟨rfl, fin⟩) hs
theorem ix_tup : IxR X (rIxT X.K) := by
  intro value slice pins s σ H x y v u Q I rx ry h hs
  obtain ⟨p, xs, i, z, rfl, rfl, hq, he, q⟩ := h
  cases rx
  obtain ⟨t, rfl⟩ := ry
  obtain ⟨its, r, pl, hz⟩ := I.tuple hq
  obtain ⟨j, h1, h2, h3, h4, h5⟩ := atI_get he
  obtain ⟨w, ew, rw'⟩ := r.get h2
  have hl := r.length
  have hn := line63
  have fin : EP X pins σ Q w s := ⟨z, H, I, rw', q⟩
  exact subscriptTail_builtinR (x := w) pl.typeIs slot_tuple_getitem.lookup
    (getItem_tuple (j := j) (Q := fun r s' => r = w ∧ EP X pins σ Q r s') pl (by omega) (by omega) (by rw [List.size_toArray, ← hl]; exact h1) (by simpa using ew) ⟨rfl, fin⟩) hs
theorem ix_str : IxR X rIxS := by
  intro value slice pins s σ H x y v u Q I rx ry h hs
  obtain ⟨z, i, c, rfl, rfl, hz, he, q⟩ := h
  obtain ⟨t, rfl⟩ := rx
  obtain ⟨t', rfl⟩ := ry
  obtain ⟨j, h1, h2, h3, h4, h5⟩ := atI_get he
  have hl : z.cps.toList.length = z.length := by simp [Str.length]
  rw [hl] at h1 h4 h5
  have hn := line63
  exact tail_any (typeIs_str s z t) slot_str_getitem.lookup (getItem_str (c := c) (by
    have e1 : decide (i < -(2 ^ 63 : Int)) = false := decide_eq_false (by omega)
    have e2 : decide (i ≥ 2 ^ 63) = false := decide_eq_false (by omega)
    rw [e1, e2, Bool.or_false]) (by rw [h1]; simpa using h2) ⟨.str ⟨#[c]⟩, H, I.tok _, ⟨_, rfl⟩, q⟩) hs
theorem mapSeq_set (its : List Value) (n j : Nat) (u : Value) : Obj.mapSeq (·.setIfInBounds j u) { cls := .type "list", data := .seq its.toArray n } = { cls := .type "list", data := .seq (its.set j u).toArray n } := by
  simp [Obj.mapSeq]
theorem Inv.lst {pins : List (Addr × Obj)} {σ : St} {H : Hp} {s : Shared} {p : Addr} {xs : List V} (I : Inv X pins σ H s) (h : H p = some (.lst xs)) :
    ∃ (its : List Value) (n : Nat), Vals xs its ∧ s.heap.get? p = some { cls := .type "list", data := .seq its.toArray n } ∧ xs.length ≤ sizeLine := by
  obtain ⟨z, its, n, r, e⟩ := I.hok p _ h
  exact ⟨its, n, r, e, z⟩
theorem Inv.lstUpd {pins : List (Addr × Obj)} {σ : St} {H : Hp} {s : Shared} {p : Addr} {xs ys : List V} {its its' : List Value} {n n' : Nat} {f : Obj → Obj} (I : Inv X pins σ H s) (h : H p = some (.lst xs))
    (ho : s.heap.get? p = some { cls := .type "list", data := .seq its.toArray n }) (hf : f { cls := .type "list", data := .seq its.toArray n } = { cls := .type "list", data := .seq its'.toArray n' }) (r : Vals ys its') (hz : ys.length ≤ sizeLine) (t : Nat) :
    Inv X pins σ (upd H p (.lst ys)) { s with heap := s.heap.update p f, toks := t } := by
  have e : (s.heap.update p f).get? p = some { cls := .type "list", data := .seq its'.toArray n' } := by
    rw [Heap.get?_update_self f ho (by rw [hf] <;> rfl), hf]
  refine I.write (x := p) (e := p) (by rw [h]; trivial) (.inl rfl) (fun b u hb q => (Heap.get?_update_other _ _ (Ne.symm hb)).trans q) ⟨_, e⟩ ?_
  exact ⟨hz, its', n', r, e⟩
noncomputable def rSetL : V → V → V → Hp → (Hp → Prop) → Prop := fun o i v H Q => ∃ p xs k j, o = .ref p ∧ i = .int k ∧ H p = some (.lst xs) ∧ ixN xs.length k = some j ∧ Q (upd H p (.lst (xs.set j v)))
theorem set_list : PSet X rSetL := by
  intro pins s σ H o i v ov iv u Q I ro ri rv h
  obtain ⟨p, xs, k, j, rfl, rfl, hp, hj, q⟩ := h
  cases ro
  obtain ⟨t, rfl⟩ := ri
  obtain ⟨its, n, r, ho, hz⟩ := I.lst hp
  obtain ⟨h1, h2, h3, h4⟩ := ixN_seq hj
  have hl := r.length
  have hn := line63
  have I' : Inv X pins σ (upd H p (.lst (xs.set j v))) { s with heap := s.heap.update p (Obj.mapSeq (·.setIfInBounds j u)) } :=
    I.lstUpd hp ho (mapSeq_set its n j u) (r.set rv j) (by rw [List.length_set]; exact hz) s.toks
  by_cases h0 : 0 ≤ k
  · have hk : k.toNat = j := by
      rw [seqIndex_of h0 h4] at h1
      exact Option.some.inj h1
    exact PySem.W.ki_setAt ho h0 (by omega) (by rw [List.size_toArray, ← hl]; exact h4) (by rw [hk]; exact ⟨_, I', q⟩)
  · have hk : (k + (its.toArray.size : Int)).toNat = j := by
      rw [seqIndex_neg (by omega) h3] at h1
      rw [List.size_toArray, ← hl]
      exact Option.some.inj h1
    exact PySem.W.ki_setBack ho (by omega) (by rw [List.size_toArray, ← hl]; exact h3) (by omega) (by rw [hk]; exact ⟨_, I', q⟩)

theorem slice_bounds (lo hi : Option Int) (n : Nat) : (sliceBounds lo hi none n).1 = ((HT.sIx n 0 lo : Nat) : Int) ∧ (sliceBounds lo hi none n).2.1 = ((HT.sIx n n hi : Nat) : Int) ∧ (sliceBounds lo hi none n).2.2 = 1 := by
  refine ⟨?_, ?_, rfl⟩
  · cases lo with
    | none => simp [sliceBounds, HT.sIx]
    | some i =>
      simp only [sliceBounds, HT.sIx, Option.getD_none, show (1 : Int) > 0 by decide, if_true]
      by_cases h : i < 0
      · simp only [h, if_true] <;> omega
      · simp only [h, if_false] <;> omega
  · cases hi with
    | none => simp [sliceBounds, HT.sIx]
    | some i =>
      simp only [sliceBounds, HT.sIx, Option.getD_none, show (1 : Int) > 0 by decide, if_true]
      by_cases h : i < 0
      · simp only [h, if_true] <;> omega
      · simp only [h, if_false] <;> omega
theorem slicePick_cut (its : List Value) (lo hi : Option Int) : slicePick its.toArray lo hi none = ((its.drop (HT.sIx its.length 0 lo)).take (HT.sIx its.length its.length hi - HT.sIx its.length 0 lo)).toArray := by
  obtain ⟨h1, h2, h3⟩ := slice_bounds lo hi its.toArray.size
  unfold slicePick
  rw [h1, h2, h3]
  simp only [sliceRange_one, pick_run, List.size_toArray] <;> rfl
noncomputable def rSlL (K : PySem.W.Frag) : V → Option Int → Option Int → Hp → VK → Prop := fun x lo hi H Q => ∃ a xs, x = .ref a ∧ SqL K H a xs ∧ ∀ p, H p = none → Q (.ref p) (upd H p (.lst (cutV xs lo hi)))
theorem sl_list : SlR X (rSlL X.K) := by
  intro pins s σ H x v vl vu lo hi sl Q I rx hs pl pu h
  obtain ⟨a, xs, rfl, hx, q⟩ := h
  cases rx
  obtain ⟨its, r, ht, hz⟩ := I.list hx
  have hlen := r.length
  refine ⟨"list", _, slot_list_getitem.lookup, ht.isList.typeIs, ?_⟩
  refine wpAny_getItem_list_slice ht.isList hs pl pu .none (by simp) ?_ (by rw [List.size_toArray] <;> omega)
  rw [slicePick_cut, ← hlen]
  refine ⟨.ref s.heap.objs.size, _, I.laid (t' := s.toks) (o := .lst (cutV xs lo hi)) (fun b ob q => Heap.get?_push_of_some _ q) (Nat.le_refl _) ?_, rfl, q _ (I.hok.fresh (Nat.le_refl _))⟩
  exact ⟨Nat.le_trans (cutV_length xs lo hi) hz, _, 0, (r.drop (HT.sIx xs.length 0 lo)).take (HT.sIx xs.length xs.length hi - HT.sIx xs.length 0 lo), Heap.get?_push_size _ rfl⟩

noncomputable def flatV : V → Bool
  | .non => true
  | .bl _ => true
  | .int _ => true
  | .str _ => true
  | _ => false
noncomputable def eqV : V → V → Bool
  | .non, .non => true
  | .bl a, .bl b => a == b
  | .bl a, .int b => (if a then 1 else 0) == b
  | .int a, .bl b => a == (if b then 1 else 0)
  | .int a, .int b => a == b
  | .str a, .str b => a == b
  | _, _ => false
theorem eqAt_V {A : Around} {s : Shared} {y x : V} {u v : Value} (ry : RelV y u) (rx : RelV x v) (fy : flatV y = true) (fx : flatV x = true) : SeqAt.EqAt A s u v (eqV y x) := by
  cases y with
  | non =>
    cases ry
    cases x with
    | non => cases rx; exact SeqAt.EqAt.same _
    | bl b => cases rx; exact SeqAt.EqAt.none_bool b
    | int b => obtain ⟨t, rfl⟩ := rx; exact SeqAt.EqAt.none_int b t
    | str b => obtain ⟨t, rfl⟩ := rx; exact SeqAt.EqAt.none_str b t
    | _ => exact absurd (show false = true from fx) Bool.false_ne_true
  | bl a =>
    cases ry
    cases x with
    | non => cases rx; exact SeqAt.EqAt.bool_none a
    | bl b => cases rx; exact SeqAt.EqAt.bool_bool a b
    | int b => obtain ⟨t, rfl⟩ := rx; exact SeqAt.EqAt.bool_int a b t
    | str b => obtain ⟨t, rfl⟩ := rx; exact SeqAt.EqAt.bool_str a b t
    | _ => exact absurd (show false = true from fx) Bool.false_ne_true
  | int a =>
    obtain ⟨t', rfl⟩ := ry
    cases x with
    | non => cases rx; exact SeqAt.EqAt.int_none a t'
    | bl b => cases rx; exact SeqAt.EqAt.int_bool a t' b
    | int b => obtain ⟨t, rfl⟩ := rx; exact SeqAt.EqAt.int_int a t' b t
    | str b => obtain ⟨t, rfl⟩ := rx; exact SeqAt.EqAt.int_str a t' b t
    | _ => exact absurd (show false = true from fx) Bool.false_ne_true
  | str a =>
    obtain ⟨t', rfl⟩ := ry
    cases x with
    | non => cases rx; exact SeqAt.EqAt.str_none a t'
    | bl b => cases rx; exact SeqAt.EqAt.str_bool a t' b
    | int b => obtain ⟨t, rfl⟩ := rx; exact SeqAt.EqAt.str_int a t' b t
    | str b => obtain ⟨t, rfl⟩ := rx; exact SeqAt.EqAt.str_str a t' b t
    | _ => exact absurd (show false = true from fx) Bool.false_ne_true
  | _ => exact absurd (show false = true from fy) Bool.false_ne_true
noncomputable def eqU (x : V) (u : Value) : Bool := match u with
  | .none => eqV .non x
  | .bool b => eqV (.bl b) x
  | .int i _ => eqV (.int i) x
  | .str z _ => eqV (.str z) x
  | _ => false
theorem eqU_of {x y : V} {u : Value} (r : RelV y u) (f : flatV y = true) : eqU x u = eqV y x := by
  cases y with
  | non => cases r; rfl
  | bl b => cases r; rfl
  | int i => obtain ⟨t, rfl⟩ := r; rfl
  | str z => obtain ⟨t, rfl⟩ := r; rfl
  | _ => exact absurd (show false = true from f) Bool.false_ne_true
theorem any_eqU {x : V} : ∀ {xs : List V} {us : List Value}, Vals xs us → xs.all flatV = true → us.any (eqU x) = xs.any fun y => eqV y x
  | _, _, .nil, _ => rfl
  | y :: xs, u :: us, .cons r t, f => by
    rw [List.all_cons, Bool.and_eq_true] at f
    rw [List.any_cons, List.any_cons, eqU_of r f.1, any_eqU t f.2]
theorem mem_eqAt {A : Around} {s : Shared} {x : V} {v : Value} (rx : RelV x v) (fx : flatV x = true) : ∀ {xs : List V} {us : List Value}, Vals xs us → xs.all flatV = true → ∀ u ∈ us, SeqAt.EqAt A s u v (eqU x u)
  | _, _, .nil, _ => fun u hu => by cases hu
  | y :: xs, u :: us, .cons r t, f => fun u' hu => by
    rw [List.all_cons, Bool.and_eq_true] at f
    rcases List.mem_cons.mp hu with rfl | hu
    · rw [eqU_of r f.1]; exact eqAt_V r rx f.1 fx
    · exact mem_eqAt rx fx t f.2 u' hu
noncomputable def inV (x : V) (xs : List V) : Bool := xs.any fun y => eqV y x
noncomputable def rIn (K : PySem.W.Frag) (neg : Bool) : R2 := fun x y H Q => ∃ p xs, y = .ref p ∧ (SqL K H p xs ∨ SqT K H p xs) ∧ flatV x = true ∧ xs.all flatV = true ∧ Q (.bl (if neg then !inV x xs else inV x xs)) H
theorem op_in_seq : OpR X (compareOp .In) (rIn X.K false) := by
  intro pins s σ H x y v u Q I rx ry h
  obtain ⟨p, xs, rfl, hq, fx, fs, q⟩ := h
  cases ry
  rcases hq with hq | hq
  · obtain ⟨its, r, pl, hz⟩ := I.list hq
    refine SeqAt.in_listAt (eqU x) pl.isList (fun w hw => mem_eqAt rx fx r fs w (by simpa using hw)) ⟨.bl _, H, I, rfl, ?_⟩
    rw [show its.toArray.any (eqU x) = its.any (eqU x) by simp, any_eqU r fs]
    exact q
  · obtain ⟨its, r, pl, hz⟩ := I.tuple hq
    refine SeqAt.in_tupleAt (eqU x) pl (fun w hw => mem_eqAt rx fx r fs w (by simpa using hw)) ⟨.bl _, H, I, rfl, ?_⟩
    rw [show its.toArray.any (eqU x) = its.any (eqU x) by simp, any_eqU r fs]
    exact q
theorem call_len_seq : CallR X (.builtin "len") (fun xs H Q => ∃ p ys, xs = [.ref p] ∧ (SqL X.K H p ys ∨ SqT X.K H p ys) ∧ Q (.int ys.length) H) := by
  intro pins s σ H xs us Q I r h
  obtain ⟨p, ys, rfl, hq, q⟩ := h
  obtain ⟨u, rfl, rx⟩ := vals1 r
  cases rx
  have hn := line63
  rcases hq with hq | hq
  · obtain ⟨its, r', pl, hz⟩ := I.list hq
    have hlen := r'.length
    exact Calls.call_len_list pl.isList (by simp only [List.size_toArray] <;> omega) ⟨.int ys.length, H, I.tok _, ⟨s.toks + 1, by rw [List.size_toArray, hlen]⟩, q⟩
  · obtain ⟨its, r', pl, hz⟩ := I.tuple hq
    have hlen := r'.length
    exact len_tuple pl (by simp only [List.size_toArray] <;> omega) ⟨.int ys.length, H, I.tok _, ⟨s.toks + 1, by rw [List.size_toArray, hlen]⟩, q⟩
theorem call_len_str : CallR X (.builtin "len") (fun xs H Q => ∃ z, xs = [.str z] ∧ z.length ≤ sizeLine ∧ Q (.int z.length) H) := by
  intro pins s σ H xs us Q I r h
  obtain ⟨z, rfl, hz, q⟩ := h
  obtain ⟨u, rfl, t, rfl⟩ := vals1 r
  have hn := line63
  exact len_str (by omega) ⟨.int z.length, H, I.tok _, ⟨_, rfl⟩, q⟩
theorem CallR.or {f : Value} {r r' : List V → Hp → VK → Prop} (h : CallR X f r) (h' : CallR X f r') : CallR X f (fun xs H Q => r xs H Q ∨ r' xs H Q) := by
  intro pins s σ H xs us Q I rs q
  rcases q with q | q
  · exact h pins s σ H xs us Q I rs q
  · exact h' pins s σ H xs us Q I rs q
theorem call_list_of : CallR X (.type "list") (fun xs H Q => ∃ p ys, xs = [.ref p] ∧ (SqL X.K H p ys ∨ SqT X.K H p ys) ∧ ∀ l, H l = none → Q (.ref l) (upd H l (.lst ys))) := by
  intro pins s σ H xs us Q I r h
  obtain ⟨p, ys, rfl, hq, q⟩ := h
  obtain ⟨u, rfl, rx⟩ := vals1 r
  cases rx
  have fin : ∀ (its : List Value), Vals ys its → ys.length ≤ sizeLine → ∀ (h' : Heap) (c' : Nat), (∀ b o', s.heap.get? b = some o' → h'.get? b = some o') →
      h'.get? s.heap.objs.size = some { cls := .type "list", dict := none, data := .seq its.toArray c', slots := #[] } → EP X pins σ Q (.ref s.heap.objs.size) { s with heap := h' } := fun its r' hz h' c' kp e =>
    ⟨.ref s.heap.objs.size, _, I.laid (t' := s.toks) kp (Nat.le_refl _) (show ObjOk X.prog X.w _ h' _ (.lst ys) from ⟨hz, its, c', r', e⟩), rfl, q _ (I.hok.fresh (Nat.le_refl _))⟩
  rcases hq with hq | hq
  · obtain ⟨its, r', pl, hz⟩ := I.list hq
    have hlen := r'.length
    obtain ⟨o, ho, hc, n, hd⟩ := pl.isList
    exact call_list_seq p (.inl rfl) ho hc hd (fun h' c' kp e => fin its r' hz h' c' kp e) (by simp only [List.size_toArray] <;> omega)
  · obtain ⟨its, r', pl, hz⟩ := I.tuple hq
    have hlen := r'.length
    obtain ⟨o, ho, hc, n, hd⟩ := pl
    exact call_list_seq p (.inr rfl) ho hc hd (fun h' c' kp e => fin its r' hz h' c' kp e) (by simp only [List.size_toArray] <;> omega)
theorem call_tuple_of : CallR X (.type "tuple") (fun xs H Q => ∃ p ys, xs = [.ref p] ∧ ((SqL X.K H p ys ∧ ∀ l, H l = none → Q (.ref l) (upd H l (.tup ys))) ∨ (SqT X.K H p ys ∧ Q (.ref p) H))) := by
  intro pins s σ H xs us Q I r h
  obtain ⟨p, ys, rfl, h⟩ := h
  obtain ⟨u, rfl, rx⟩ := vals1 r
  cases rx
  rcases h with ⟨hq, q⟩ | ⟨hq, q⟩
  · obtain ⟨its, r', pl, hz⟩ := I.list hq
    have hlen := r'.length
    refine call_tuple_list pl.isList (fun h' kp => ?_) (by simp only [List.size_toArray] <;> omega)
    have I1 : Inv X pins σ H { s with heap := h' } := I.kept (t' := s.toks) kp
    have I2 : Inv X pins σ (upd H h'.objs.size (.tup ys)) { s with heap := h'.push { cls := .type "tuple", data := .seq its.toArray } } :=
      I1.laid (t' := s.toks) (fun b o e => Heap.get?_push_of_some _ e) (Nat.le_refl _) (show ObjOk X.prog X.w _ _ _ (.tup ys) from ⟨hz, its, r', IsTup.new _ _⟩)
    exact ⟨.ref h'.objs.size, _, I2, rfl, q _ (I1.hok.fresh (Nat.le_refl _))⟩
  · obtain ⟨its, r', pl, hz⟩ := I.tuple hq
    exact call_tuple_same pl ⟨.ref p, H, I, rfl, q⟩

noncomputable def tyV (K : PySem.W.Frag) (T : String) (x : V) (H : Hp) : Prop := match x with
  | .str _ => T = "str"
  | .int _ => T = "int"
  | .ref p => (T = "list" ∧ ∃ xs, SqL K H p xs) ∨ (T = "tuple" ∧ ∃ o, K.lookup p = some o ∧ o.cls = .type "tuple" ∧ o.dict = none) ∨
      (T = "dict" ∧ ((∃ kvs, H p = some (.dK kvs)) ∨ ∃ kvs, H p = some (.dT kvs))) ∨ (T = "set" ∧ ∃ S n, H p = some (.set S n))
  | _ => False
theorem tyV_is {pins : List (Addr × Obj)} {σ : St} {H : Hp} {s : Shared} {T : String} {x : V} {v : Value} (I : Inv X pins σ H s) (r : RelV x v) (ty : tyV X.K T x H) :
    s.TypeIs v T ∧ ∀ a, v = .ref a → ∃ ob, s.heap.get? a = some ob ∧ ob.dict = none := by
  cases x with
  | str z =>
    obtain ⟨t, rfl⟩ := r
    cases (show T = "str" from ty)
    exact ⟨typeIs_str s z t, fun _ e => nomatch e⟩
  | int i =>
    obtain ⟨t, rfl⟩ := r
    cases (show T = "int" from ty)
    exact ⟨typeIs_int s i t, fun _ e => nomatch e⟩
  | ref p =>
    cases r
    rcases ty with ⟨rfl, xs, hq⟩ | ⟨rfl, o, hk, hc, hd⟩ | ⟨rfl, hk⟩ | ⟨rfl, S, n, hk⟩
    · obtain ⟨its, _, pl, _⟩ := I.list hq
      refine ⟨pl.isList.typeIs, fun a e => ?_⟩
      cases e
      obtain ⟨o, n, e, c, hd, _⟩ := pl
      exact ⟨o, e, hd⟩
    · refine ⟨⟨o, I.kIn p o hk, hc⟩, fun a e => ?_⟩
      cases e
      exact ⟨o, I.kIn _ o hk, hd⟩
    · have z : ∃ o, s.heap.get? p = some o ∧ o.ExactDict := by
        rcases hk with ⟨kvs, hk⟩ | ⟨kvs, hk⟩
        · obtain ⟨_, _, _, _, o, _, _, e, ex, _⟩ := I.hok p _ hk
          exact ⟨o, e, ex⟩
        · obtain ⟨_, _, _, _, o, _, _, e, ex, _⟩ := I.hok p _ hk
          exact ⟨o, e, ex⟩
      obtain ⟨o, e, ex⟩ := z
      refine ⟨⟨o, e, ex.1⟩, fun a e2 => ?_⟩
      cases e2
      exact ⟨o, e, ex.2.1⟩
    · obtain ⟨o, _, _, _, e, ex, _⟩ := I.hok p _ hk
      refine ⟨⟨o, e, ex.1⟩, fun a e2 => ?_⟩
      cases e2
      exact ⟨o, e, ex.2.1⟩
  | _ => exact False.elim ty
noncomputable def tBM (K : PySem.W.Frag) (T : String) (r : V → List V → Hp → VK → Prop) (to : TE) (t : TA) : TE := fun σ H Q => to σ H fun x H1 => tyV K T x H1 ∧ t σ H1 fun xs H2 => r x xs H2 Q
variable {o e : Expr} {es : List Expr} {to : TE} {t : TA} {name : Str} {apos cpos : Pos} {T id : String} {r : V → List V → Hp → VK → Prop}
theorem pe_bm (pa : PlainAttrs T) (slot : Slot T name id) (hty : typeOf (.builtin id) = pure (.type "method_descriptor")) (hm : MtR X id r) (ho : PE X o to) (ha : PA X (e :: es) t)
    (hbase : attributeBase o name X.env (eval o X.env) = eval o X.env := by rfl)
    (hfew : ((backTo cpos (starEach (e :: es) X.env)).all (fun x => !x.1) && (backToKw cpos (keywordEach [] X.env)).all (fun x => x.1.isSome)
      && decide ((e :: es).length + ([] : List Keyword).length + (if ([] : List Keyword).isEmpty then 0 else 1) < 30)) = true := by rfl)
    (hline : (apos.endLine == cpos.line) = true := by rfl) (hs : starEach (e :: es) X.env = (false, eval e X.env) :: starEach es X.env := by rfl) (hplain : (backTo cpos (starEach es X.env)).any (·.1) = false := by rfl) :
    PE X (.Call (.Attribute o name apos) (e :: es) [] cpos) (tBM X.K T r to t) := by
  intro pins s σ H Q I h
  refine wpAny_Call_method_late hbase hfew hline rfl (thn (ho pins s σ H _ I h) fun v s1 ⟨x, H1, I1, r1, ty, q1⟩ => ?_)
  obtain ⟨h1, h2⟩ := tyV_is I1 r1 ty
  refine ⟨T, id, pa, slot, hty, h1, h2, ?_⟩
  have hA := ha cpos pins s1 σ H1 _ I1 q1
  rw [hs] at hA ⊢
  refine Calls.callWith_builtin (by show (false || (backTo cpos (starEach es X.env)).any (·.1)) = false; rw [hplain] <;> rfl) (Calls.evalArgs_plain ?_)
  exact thn hA fun us s2 ⟨vs, H2, I2, r2, q2⟩ => hm pins s2 σ H2 x vs v us Q I2 r1 r2 q2
end
end L2

namespace L2
open PySem PySem.Spec PyProof.Rows

noncomputable def MtM (X : Cx) (id : String) (r : V → List V → Hp → VK → Prop) : Prop :=
  ∀ (pins : List (Addr × Obj)) (s : Shared) (σ : St) (H : Hp) (x : V) (xs : List V) (v : Value) (us : List Value) (Q : VK), Inv X pins σ H s → RelV x v → Vals xs us → r x xs H Q →
    wpAny (model X.prog X.w) X.A (call (.builtin id) (v :: us)) (EP X pins σ Q) X.xe s

theorem Vals.one : ∀ {x : V} {us : List Value}, Vals [x] us → ∃ u, us = [u] ∧ RelV x u
  | _, _, .cons r .nil => ⟨_, rfl, r⟩
theorem Vals.two : ∀ {x y : V} {us : List Value}, Vals [x, y] us → ∃ u v, us = [u, v] ∧ RelV x u ∧ RelV y v
  | _, _, _, .cons r (.cons q .nil) => ⟨_, _, rfl, r, q⟩
theorem Vals.zero : ∀ {us : List Value}, Vals [] us → us = []
  | _, .nil => rfl
theorem Vals.dropLast {xs : List V} {us : List Value} (h : Vals xs us) : Vals xs.dropLast us.dropLast := by
  induction h with
  | nil => exact .nil
  | cons r t ih =>
    cases t with
    | nil => exact .nil
    | cons q t' => exact .cons r ih
theorem Vals.eraseIdx : ∀ {xs : List V} {us : List Value} (i : Nat), Vals xs us → Vals (xs.eraseIdx i) (us.eraseIdx i)
  | _, _, _, .nil => .nil
  | _, _, 0, .cons _ t => t
  | _, _, i + 1, .cons r t => .cons r (Vals.eraseIdx i t)
theorem Vals.reverse {xs : List V} {us : List Value} (h : Vals xs us) : Vals xs.reverse us.reverse := by
  induction h with
  | nil => exact .nil
  | cons r t ih => rw [List.reverse_cons, List.reverse_cons]; exact Vals.append ih (.cons r .nil)
theorem Vals.rep {xs : List V} {us : List Value} (h : Vals xs us) : ∀ k : Nat, Vals (List.replicate k xs).flatten (List.replicate k us).flatten
  | 0 => .nil
  | k + 1 => by
    rw [List.replicate_succ, List.replicate_succ, List.flatten_cons, List.flatten_cons]
    exact Vals.append h (Vals.rep h k)
theorem len_erase {α : Type} : ∀ (l : List α) (i : Nat), (l.eraseIdx i).length ≤ l.length
  | [], _ => Nat.le_refl _
  | _ :: _, 0 => Nat.le_succ _
  | _ :: r, i + 1 => Nat.succ_le_succ (len_erase r i)
section
variable {X : Cx} {pins : List (Addr × Obj)} {σ : St} {H : Hp} {s : Shared} {l b : Addr} {xs ys zs : List V}

theorem Inv.lset {its its' : List Value} {n : Nat} {f : Array Value → Array Value} {t' : Nat} (I : Inv X pins σ H s) (hH : H l = some (.lst xs))
    (e : s.heap.get? l = some { cls := .type "list", data := .seq its.toArray n }) (hf : f its.toArray = its'.toArray) (hv : Vals ys its') (hz : ys.length ≤ sizeLine) :
    Inv X pins σ (upd H l (.lst ys)) { s with heap := s.heap.update l (Obj.mapSeq f), toks := t' } := by
  have q := PySem.IsL.update e f
  rw [hf] at q
  refine I.write (x := l) (e := l) (by rw [hH]; exact trivial) (.inl rfl) (fun b' u hb hu => (Heap.get?_update_other s.heap (Obj.mapSeq f) (Ne.symm hb)).trans hu) ⟨_, q⟩ ?_
  exact ⟨hz, its', _, hv, q⟩
theorem Inv.lnew {its : List Value} {t' : Nat} (I : Inv X pins σ H s) (hv : Vals ys its) (hz : ys.length ≤ sizeLine) :
    Inv X pins σ (upd H s.heap.objs.size (.lst ys)) { s with heap := s.heap.push { cls := .type "list", data := .seq its.toArray }, toks := t' } :=
  I.laid (fun _ _ q => Heap.get?_push_of_some _ q) (Nat.le_refl _) ⟨hz, its, 0, hv, Heap.get?_push_size _ rfl⟩
theorem Inv.fresh (I : Inv X pins σ H s) : H s.heap.objs.size = none := I.hok.fresh (Nat.le_refl _)
theorem Inv.lstM (I : Inv X pins σ H s) (hH : H l = some (.lst xs)) : xs.length ≤ sizeLine ∧ ∃ (its : List Value) (n : Nat), Vals xs its ∧ xs.length = its.length ∧ s.heap.get? l = some { cls := .type "list", data := .seq its.toArray n } := by
  obtain ⟨z, its, n, r, e⟩ := I.hok l _ hH
  exact ⟨z, its, n, r, r.length, e⟩

end

section
variable {X : Cx}

noncomputable def rAppend : V → List V → Hp → VK → Prop := fun x vs H Q => ∃ l xs y, x = .ref l ∧ vs = [y] ∧ H l = some (.lst xs) ∧ xs.length < sizeLine ∧ Q .non (upd H l (.lst (xs ++ [y])))
theorem mt_append : MtM X "list.append" rAppend := by
  intro pins s σ H x vs v us Q I rx rv h
  obtain ⟨l, xs, y, rfl, rfl, hH, hz, q⟩ := h
  cases rx
  obtain ⟨u, rfl, ru⟩ := rv.one
  obtain ⟨z, its, n, r, hl, e⟩ := I.lstM hH
  refine call_meets F.slot_list_append ⟨_, e, rfl⟩ F.entry_list_append (F.args_list_append_2 _ _) (PySem.list_append l its.toArray n u (by rw [List.size_toArray]; omega)) ⟨e, ?_⟩
  refine ⟨.non, _, I.lset (its' := its ++ [u]) hH e (by simp) (r.append (.cons ru .nil)) ?_, rfl, q⟩
  rw [List.length_append, List.length_singleton]
  omega

noncomputable def rPopAt : V → List V → Hp → VK → Prop := fun x vs H Q => ∃ l xs i k y, x = .ref l ∧ vs = [.int i] ∧ H l = some (.lst xs) ∧ -(2 ^ 63) ≤ i ∧ i < 2 ^ 63 ∧ seqIndex? i xs.length = some k ∧ xs[k]? = some y ∧ Q y (upd H l (.lst (xs.eraseIdx k)))
theorem mt_popAt : MtM X "list.pop" rPopAt := by
  intro pins s σ H x vs v us Q I rx rv h
  obtain ⟨l, xs, i, k, y, rfl, rfl, hH, h1, h2, hk, hy, q⟩ := h
  cases rx
  obtain ⟨u, rfl, ru⟩ := rv.one
  obtain ⟨t, rfl⟩ := ru
  obtain ⟨z, its, n, r, hl, e⟩ := I.lstM hH
  obtain ⟨w, hw, rw'⟩ := r.get hy
  refine call_meets F.slot_list_pop ⟨_, e, rfl⟩ F.entry_list_pop (F.args_list_pop_2 _ _)
    (MeetsSeq.list_pop_at l its.toArray n i t k w (fitsIndex_both h1 h2) (by rw [List.size_toArray, ← hl]; exact hk) (by rw [← Array.getElem?_toList]; exact hw) (by rw [List.size_toArray]; omega)) ⟨e, ?_⟩
  refine ⟨y, _, I.lset (its' := its.eraseIdx k) hH e ?_ (r.eraseIdx k) ?_, rw', q⟩
  · show its.toArray.eraseIdxIfInBounds k = (its.eraseIdx k).toArray
    rw [List.eraseIdxIfInBounds_toArray]
  · have := len_erase xs k
    omega

noncomputable def rCat : R2 := fun x y H Q => ∃ l b xs zs, x = .ref l ∧ y = .ref b ∧ H l = some (.lst xs) ∧ H b = some (.lst zs) ∧ xs.length + zs.length ≤ sizeLine ∧ ∀ p, H p = none → Q (.ref p) (upd H p (.lst (xs ++ zs)))
theorem op_cat : OpR X (binaryOp .Add) rCat := by
  intro pins s σ H x y v u Q I rx ry h
  obtain ⟨l, b, xs, zs, rfl, rfl, hH, hB, hz, q⟩ := h
  cases rx
  cases ry
  obtain ⟨z, its, n, r, hl, e⟩ := I.lstM hH
  obtain ⟨z2, its2, n2, r2, hl2, e2⟩ := I.lstM hB
  refine PySem.P.add_list e e2 ?_ (by rw [List.size_toArray, List.size_toArray]; omega)
  have ea : its.toArray ++ its2.toArray = (its ++ its2).toArray := by simp
  rw [ea]
  exact ⟨.ref _, _, I.lnew (t' := s.toks) (r.append r2) (by rw [List.length_append]; omega), rfl, q _ I.fresh⟩
end

section
variable {prog : Program} {w : World} {A : Around} {E : Value → Shared → Prop} {s : Shared}
end

section
variable {X : Cx}
end
end L2

namespace L2
open PySem PySem.Spec PyProof.Rows

section
variable {κ : Type} [DecidableEq κ]
noncomputable def valV (kvs : List (κ × V)) (k : κ) : Option V := (kvs.find? fun kv => decide (kv.1 = k)).map (·.2)
noncomputable def putK (kvs : List (κ × V)) (k : κ) (v : V) : List (κ × V) :=
  if (kvs.any fun kv => decide (kv.1 = k)) = true then kvs.map (fun kv => if kv.1 = k then (kv.1, v) else kv) else kvs ++ [(k, v)]
noncomputable def dropK (kvs : List (κ × V)) (k : κ) : List (κ × V) := kvs.filter fun kv => decide (kv.1 ≠ k)

theorem valV_pos {p : κ × V} {r : List (κ × V)} {k : κ} (e : p.1 = k) : valV (p :: r) k = some p.2 := by simp [valV, List.find?_cons, e]
theorem valV_neg {p : κ × V} {r : List (κ × V)} {k : κ} (e : ¬ p.1 = k) : valV (p :: r) k = valV r k := by simp [valV, List.find?_cons, e]
theorem valV_any (k : κ) : ∀ kvs : List (κ × V), (kvs.any fun kv => decide (kv.1 = k)) = (valV kvs k).isSome
  | [] => rfl
  | p :: r => by
    rw [List.any_cons]
    by_cases e : p.1 = k
    · simp only [valV_pos e, decide_eq_true e, Bool.true_or, Option.isSome_some]
    · rw [valV_neg e, decide_eq_false e, Bool.false_or]; exact valV_any k r
theorem length_putK (kvs : List (κ × V)) (k : κ) (v : V) : (putK kvs k v).length ≤ kvs.length + 1 := by
  unfold putK
  split
  · rw [List.length_map]; omega
  · rw [List.length_append, List.length_cons, List.length_nil]; omega
theorem RelO.isSome_eq {o : Option V} {u : Option Value} (r : RelO o u) : o.isSome = u.isSome := by
  cases o with
  | none => cases u with
    | none => rfl
    | some _ => exact (show False from r).elim
  | some _ => cases u with
    | none => exact (show False from r).elim
    | some _ => rfl
theorem RelO.getD {o : Option V} {u : Option Value} {d : V} {d' : Value} (r : RelO o u) (rd : RelV d d') : RelV (o.getD d) (u.getD d') := by
  cases o with
  | none => cases u with
    | none => exact rd
    | some _ => exact (show False from r).elim
  | some _ => cases u with
    | none => exact (show False from r).elim
    | some _ => exact r

theorem KV.val {kvs : List (κ × V)} {vs : List (κ × Value)} (r : KV kvs vs) (k : κ) : RelO (valV kvs k) (valueAt vs k) := by
  unfold KV at r
  induction r with
  | nil => exact True.intro
  | @cons p q ps qs h t ih =>
    obtain ⟨h1, h2⟩ := h
    by_cases e : p.1 = k
    · have e' : q.1 = k := h1.symm.trans e
      have b : valueAt (q :: qs) k = some q.2 := by simp [valueAt, List.find?_cons, e']
      rw [valV_pos e, b]; exact h2
    · have e' : ¬ q.1 = k := fun z => e (h1.trans z)
      have b : valueAt (q :: qs) k = valueAt qs k := by simp [valueAt, List.find?_cons, e']
      rw [valV_neg e, b]; exact ih
theorem KV.any {kvs : List (κ × V)} {vs : List (κ × Value)} (r : KV kvs vs) (k : κ) : (kvs.any fun kv => decide (kv.1 = k)) = vs.any fun kv => decide (kv.1 = k) := by
  unfold KV at r
  induction r with
  | nil => rfl
  | cons h t ih => rw [List.any_cons, List.any_cons, ih, h.1]
theorem KV.repl {kvs : List (κ × V)} {vs : List (κ × Value)} (r : KV kvs vs) (k : κ) {y : V} {u : Value} (ry : RelV y u) :
    KV (kvs.map fun kv => if kv.1 = k then (kv.1, y) else kv) (vs.map fun kv => if kv.1 = k then (kv.1, u) else kv) := by
  unfold KV at r ⊢
  induction r with
  | nil => exact .nil
  | @cons p q ps qs h t ih =>
    rw [List.map_cons, List.map_cons]
    refine .cons ?_ ih
    obtain ⟨h1, h2⟩ := h
    by_cases e : p.1 = k
    · rw [if_pos e, if_pos (h1.symm.trans e)]; exact ⟨h1, ry⟩
    · rw [if_neg e, if_neg (fun z => e (h1.trans z))]; exact ⟨h1, h2⟩
theorem KV.put {kvs : List (κ × V)} {vs : List (κ × Value)} (r : KV kvs vs) (k : κ) {y : V} {u : Value} (ry : RelV y u) : KV (putK kvs k y) (stored vs k u) := by
  unfold putK stored
  rw [r.any k]
  by_cases e : (vs.any fun kv => decide (kv.1 = k)) = true
  · rw [if_pos e, if_pos e]; exact r.repl k ry
  · rw [if_neg e, if_neg e]; exact Paired.snoc r ⟨rfl, ry⟩
theorem KV.drop {kvs : List (κ × V)} {vs : List (κ × Value)} (r : KV kvs vs) (k : κ) : KV (dropK kvs k) (without vs k) := by
  unfold KV at r ⊢
  unfold dropK without
  induction r with
  | nil => exact .nil
  | @cons p q ps qs h t ih =>
    obtain ⟨h1, h2⟩ := h
    rw [List.filter_cons, List.filter_cons]
    by_cases e : p.1 = k
    · have a : ¬ decide (p.1 ≠ k) = true := by simp [e]
      have b : ¬ decide (q.1 ≠ k) = true := by simp [h1.symm.trans e]
      rw [if_neg a, if_neg b]; exact ih
    · have e' : ¬ q.1 = k := fun z => e (h1.trans z)
      have a : decide (p.1 ≠ k) = true := by simp [e]
      have b : decide (q.1 ≠ k) = true := by simp [e']
      rw [if_pos a, if_pos b]; exact .cons ⟨h1, h2⟩ ih
theorem KV.keys {kvs : List (κ × V)} {vs : List (κ × Value)} (r : KV kvs vs) : kvs.map (·.1) = vs.map (·.1) := by
  unfold KV at r
  induction r with
  | nil => rfl
  | cons h t ih => rw [List.map_cons, List.map_cons, ih, h.1]
theorem KV.length {kvs : List (κ × V)} {vs : List (κ × Value)} (r : KV kvs vs) : kvs.length = vs.length := Paired.length r
end


theorem kV_is {P : Program} {w : World} {k : Key} {u : Value} (r : RelV (kV k) u) : (mixKind P w).is k u = true := by
  cases k with
  | inl i => obtain ⟨t, e⟩ := (show ∃ t, u = Value.int i t from r); subst e; exact mixKind_int P w i t
  | inr x => obtain ⟨t, e⟩ := (show ∃ t, u = Value.str x t from r); subst e; exact mixKind_str P w x t
theorem items_are {P : Program} {w : World} : ∀ {ks : List Key} {us : List Value}, Vals (ks.map kV) us → ItemsAre (mixKind P w) ks us
  | [], _, r => by rw [List.map_nil] at r; cases r; exact .nil
  | k :: ks, _, r => by
    rw [List.map_cons] at r
    cases r with
    | cons h t => exact .cons (kV_is h) (items_are t)

noncomputable abbrev KT (H : Hp) : List (List Key × V) → List (List Key × Addr × Value) → Prop := Paired fun p q => p.1 = q.1 ∧ RdT H q.2.1 (p.1.map kV) ∧ RelV p.2 q.2.2
theorem KT.val {H : Hp} {kvs : List (List Key × V)} {xs : List (List Key × Addr × Value)} (r : KT H kvs xs) (k : List Key) : RelO (valV kvs k) ((atKey xs k).map (·.2)) := by
  induction r with
  | nil => exact True.intro
  | @cons p q ps qs h t ih =>
    obtain ⟨h1, _, h2⟩ := h
    by_cases e : p.1 = k
    · have e' : q.1 = k := h1.symm.trans e
      have b : atKey (q :: qs) k = some q.2 := by simp [atKey, List.find?_cons, e']
      rw [valV_pos e, b]; exact h2
    · have e' : ¬ q.1 = k := fun z => e (h1.trans z)
      have b : atKey (q :: qs) k = atKey qs k := by simp [atKey, List.find?_cons, e']
      rw [valV_neg e, b]; exact ih
theorem KT.repl {H : Hp} {kvs : List (List Key × V)} {xs : List (List Key × Addr × Value)} (r : KT H kvs xs) (k : List Key) {y : V} {u : Value} (ry : RelV y u) :
    KT H (kvs.map fun kv => if kv.1 = k then (kv.1, y) else kv) (xs.map (putAt k u)) := by
  induction r with
  | nil => exact .nil
  | @cons p q ps qs h t ih =>
    rw [List.map_cons, List.map_cons]
    refine .cons ?_ ih
    obtain ⟨h1, h2, h3⟩ := h
    unfold putAt
    by_cases e : p.1 = k
    · rw [if_pos e, if_pos (h1.symm.trans e)]; exact ⟨h1, h2, ry⟩
    · rw [if_neg e, if_neg (fun z => e (h1.trans z))]; exact ⟨h1, h2, h3⟩
theorem KT.put {H : Hp} {kvs : List (List Key × V)} {xs : List (List Key × Addr × Value)} (r : KT H kvs xs) (k : List Key) {b : Addr} {y : V} {u : Value} (hb : RdT H b (k.map kV)) (ry : RelV y u) :
    KT H (putK kvs k y) (storedH xs k b u) := by
  have e : (kvs.any fun kv => decide (kv.1 = k)) = (atKey xs k).isSome := by
    rw [valV_any, (r.val k).isSome_eq, Option.isSome_map]
  unfold putK storedH
  rw [e]
  by_cases q : (atKey xs k).isSome = true
  · rw [if_pos q, if_pos q]; exact r.repl k ry
  · rw [if_neg q, if_neg q]; exact Paired.snoc r ⟨rfl, hb, ry⟩
theorem KT.keeps {H H' : Hp} {kvs : List (List Key × V)} {xs : List (List Key × Addr × Value)} (r : KT H kvs xs) (ht : ∀ b ys, RdT H b ys → RdT H' b ys) : KT H' kvs xs :=
  Paired.mapP r fun _ _ z => ⟨z.1, ht _ _ z.2.1, z.2.2⟩

section
variable {P : Program} {w : World} {H : Hp} {h : Heap} {a : Addr}
theorem rd_of {u : HO} (ok : HOk P w H h) (e : Rd H a u) : ObjOk P w H h a u := e.ok ok
theorem dk_rd {kvs : List (Key × V)} (ok : HOk P w H h) (e : Rd H a (.dK kvs)) : kvs.length ≤ sizeLine ∧ (a == sysModules) = false ∧ ∃ vs, KV kvs vs ∧ h.DictOf (mixKind P w) a vs :=
  show ObjOk P w H h a (.dK kvs) from rd_of ok e
theorem dk_of {kvs : List (Key × V)} (ok : HOk P w H h) (e : H a = some (.dK kvs)) : kvs.length ≤ sizeLine ∧ (a == sysModules) = false ∧ ∃ vs, KV kvs vs ∧ h.DictOf (mixKind P w) a vs := dk_rd ok (.inl e)
theorem key_of {ks : List Key} (ok : HOk P w H h) (e : RdT H a (ks.map kV)) : (tupleKind (mixKind P w)).is h ks a := by
  obtain ⟨_, its, r, o, h1, h2, n, h3⟩ := (show ObjOk P w H h a (.tup (ks.map kV)) from Rd.ok (show Rd H a _ from e) ok)
  exact ⟨o, its.toArray, n, h1, h2, h3, by simpa using items_are r⟩
theorem dt_rd {kvs : List (List Key × V)} (ok : HOk P w H h) (e : Rd H a (.dT kvs)) : kvs.length ≤ sizeLine ∧ (a == sysModules) = false ∧
    ∃ xs, KT H kvs xs ∧ h.DictOfH (tupleKind (mixKind P w)) a xs := by
  obtain ⟨z, y, xs, r, o, es, ep, h1, h2, h3, h4, h5⟩ := (show ObjOk P w H h a (.dT kvs) from rd_of ok e)
  refine ⟨z, y, xs, r, o, es, ep, h1, h2, h3, h4, fun x hx => ?_, h5⟩
  have all : ∀ {l : List (List Key × V)} {m : List (List Key × Addr × Value)}, KT H l m → ∀ x ∈ m, (tupleKind (mixKind P w)).is h x.1 x.2.1 := by
    intro l m q
    induction q with
    | nil => intro x hx; exact nomatch hx
    | @cons p q ps qs hq t ih =>
      intro x hx
      rcases List.mem_cons.mp hx with e | hx
      · subst e
        exact key_of ok (by rw [← hq.1]; exact hq.2.1)
      · exact ih x hx
  exact all r x hx
theorem dt_of {kvs : List (List Key × V)} (ok : HOk P w H h) (e : H a = some (.dT kvs)) : kvs.length ≤ sizeLine ∧ (a == sysModules) = false ∧
    ∃ xs, KT H kvs xs ∧ h.DictOfH (tupleKind (mixKind P w)) a xs := dt_rd ok (.inl e)
end

noncomputable def DGet (H : Hp) (a : Addr) (y : V) (r : Option V) : Prop :=
  (∃ kvs k, Rd H a (.dK kvs) ∧ y = kV k ∧ r = valV kvs k) ∨ ∃ kvs k b, Rd H a (.dT kvs) ∧ y = .ref b ∧ RdT H b (k.map kV) ∧ r = valV kvs k
noncomputable def DPut (H : Hp) (a : Addr) (y v : V) (H' : Hp) : Prop :=
  (∃ kvs k, H a = some (.dK kvs) ∧ y = kV k ∧ kvs.length < sizeLine ∧ H' = upd H a (.dK (putK kvs k v))) ∨
  ∃ kvs k b, H a = some (.dT kvs) ∧ y = .ref b ∧ RdT H b (k.map kV) ∧ kvs.length < sizeLine ∧ H' = upd H a (.dT (putK kvs k v))
theorem DGet.k {H : Hp} {a : Addr} {kvs : List (Key × V)} {k : Key} (e : H a = some (.dK kvs)) : DGet H a (kV k) (valV kvs k) := .inl ⟨kvs, k, .inl e, rfl, rfl⟩
theorem DGet.t {H : Hp} {a b : Addr} {kvs : List (List Key × V)} {k : List Key} (e : H a = some (.dT kvs)) (eb : H b = some (.tup (k.map kV))) : DGet H a (.ref b) (valV kvs k) := .inr ⟨kvs, k, b, .inl e, rfl, .inl eb, rfl⟩
theorem DPut.k {H : Hp} {a : Addr} {kvs : List (Key × V)} {k : Key} {v : V} (e : H a = some (.dK kvs)) (hl : kvs.length < sizeLine) : DPut H a (kV k) v (upd H a (.dK (putK kvs k v))) := .inl ⟨kvs, k, e, rfl, hl, rfl⟩
theorem DPut.t {H : Hp} {a b : Addr} {kvs : List (List Key × V)} {k : List Key} {v : V} (e : H a = some (.dT kvs)) (eb : H b = some (.tup (k.map kV))) (hl : kvs.length < sizeLine) :
    DPut H a (.ref b) v (upd H a (.dT (putK kvs k v))) := .inr ⟨kvs, k, b, e, rfl, .inl eb, hl, rfl⟩


section
variable {X : Cx} {pins : List (Addr × Obj)} {σ : St} {H : Hp} {s : Shared} {a : Addr} {y v : V} {u r : Value} {o : Option V} {A : Around} {E : Value → Shared → Prop}

theorem Inv.big (I : Inv X pins σ H s) : sysModules < s.heap.objs.size := by
  have h : mainGlobals < s.heap.objs.size := (I.mod.glob.keeps I.bk).lt
  exact Nat.lt_trans (by decide) h

theorem d_getItem {Q : Value → Shared → Prop} (hu : A.units + 1 < cLine) (I : Inv X pins σ H s) (g : DGet H a y (some v)) (ry : RelV y u) (h : ∀ w' s', Inv X pins σ H s' → RelV v w' → Q w' s') :
    wpAny (model X.prog X.w) A (getItem (.ref a) u) Q E s := by
  rcases g with ⟨kvs, k, e, ey, l⟩ | ⟨kvs, k, b, e, ey, eb, l⟩
  · subst ey
    obtain ⟨z, hd, vs, rel, dd⟩ := dk_rd I.hok e
    obtain ⟨w', hw, rw'⟩ := RelO.some_of (v := v) (o := valueAt vs k) (by rw [l]; exact rel.val k)
    exact wpAny_getItem_of (kV_is ry) dd.mapOf hw (h w' _ (I.tok _) rw')
  · subst ey
    cases (show u = Value.ref b from ry)
    obtain ⟨z, hd, xs, rel, dd⟩ := dt_rd I.hok e
    obtain ⟨w', hw, rw'⟩ := RelO.some_of (v := v) (o := (atKey xs k).map (·.2)) (by rw [l]; exact rel.val k)
    obtain ⟨p, hp, hp2⟩ := Option.map_eq_some_iff.mp hw
    refine wpAny_getItem_heap (tupleKind_room_in1 hu) (key_of I.hok eb) dd hp ?_
    rw [hp2]
    exact h w' _ (I.tok _) rw'
theorem d_notIn {Q : Value → Shared → Prop} (hu : A.units + 1 < cLine) (I : Inv X pins σ H s) (g : DGet H a y o) (ry : RelV y u) (h : ∀ s', Inv X pins σ H s' → Q (.bool (!o.isSome)) s') :
    wpAny (model X.prog X.w) A (compareOp .NotIn u (.ref a)) Q E s := by
  rcases g with ⟨kvs, k, e, ey, l⟩ | ⟨kvs, k, b, e, ey, eb, l⟩
  · subst ey
    obtain ⟨z, hd, vs, rel, dd⟩ := dk_rd I.hok e
    refine wpAny_notIn_of (kV_is ry) hd dd.mapOf ?_
    rw [← (rel.val k).isSome_eq, ← l]
    exact h _ (I.tok _)
  · subst ey
    cases (show u = Value.ref b from ry)
    obtain ⟨z, hd, xs, rel, dd⟩ := dt_rd I.hok e
    refine wpAny_notIn_heap (tupleKind_room_in1 hu) (key_of I.hok eb) hd dd ?_
    have q := (rel.val k).isSome_eq
    rw [Option.isSome_map] at q
    rw [← q, ← l]
    exact h _ (I.tok _)
theorem d_write {h' : Heap} {t' : Nat} {ob : HO} (I : Inv X pins σ H s) (mu : Mut (H a)) (hs : Heap.SameBut a s.heap h') (he : ∃ q, h'.get? a = some q) (new : ObjOk X.prog X.w (upd H a ob) h' a ob) :
    Inv X pins σ (upd H a ob) { s with heap := h', toks := t' } :=
  I.write (x := a) (e := a) mu (.inl rfl) (fun b q hb z => (hs.2 b hb).trans z) he new
theorem dk_new {P : Program} {w : World} {H' : Hp} {h' : Heap} {kvs : List (Key × V)} {vs : List (Key × Value)} (z : kvs.length ≤ sizeLine) (hd : (a == sysModules) = false) (rel : KV kvs vs) (dd : h'.DictOf (mixKind P w) a vs) :
    ObjOk P w H' h' a (.dK kvs) := ⟨z, hd, vs, rel, dd⟩
end

section
variable {X : Cx} {pins : List (Addr × Obj)} {σ : St} {H : Hp} {s : Shared} {a : Addr} {kvs : List (Key × V)} {k : Key} {u : Value} {A : Around} {E : Value → Shared → Prop}
end


noncomputable def NoSl (i : Expr) : Prop := ∀ ov iv, subscripted i false ov iv = operate [ov, iv] (getItem ov iv)
theorem subD_of {prog : Program} {w : World} {A : Around} {E : Value → Shared → Prop} {s : Shared} {env : Env} {value slice : Expr} {pos : Pos} {T id : String} {Q : Value → Shared → Prop}
    (hl : typeLookup (.type T) "__getitem__" = pure (some (.builtin id))) (hs : NoSl slice)
    (h : wpAny (model prog w) A (eval value env) (fun o s₁ => wpAny (model prog w) A (eval slice env) (fun i s₂ => s₂.TypeIs o T ∧ wpAny (model prog w) A (getItem o i) Q E s₂) E s₁) E s) :
    wpAny (model prog w) A (eval (.Subscript value slice pos) env) Q E s := by
  refine Subscript_ (wpAny_mono h (fun o s₁ h₁ => wpAny_mono h₁ (fun i s₂ h₂ => ?_) fun _ _ x => x) fun _ _ x => x)
  obtain ⟨hT, h₂⟩ := h₂
  unfold subscriptTail
  refine wpAny_bind ?_
  rw [getitemInPython_of_ne hT.not_modules]
  refine wpAny_bind (wpAny_specialOf hT hl ?_)
  have fin : wpAny (model prog w) A (subscripted slice false o i) (fun r s₃ => wpAny (model prog w) A (letTemporaryGo value o r >>= fun _ => pure r) Q E s₃) E s₂ := by
    rw [hs o i]
    exact wpAny_operating (wpAny_mono h₂ (fun r s₃ h₃ => wpAny_bind (wpAny_letTemporaryGo (wpAny_pure h₃))) fun _ _ x => x)
  first
    | exact wpAny_pure (wpAny_bind fin)
    | exact wpAny_bind (wpAny_pure (wpAny_bind fin))
    | exact wpAny_bind fin

theorem dict_typeIs {X : Cx} {pins : List (Addr × Obj)} {σ : St} {H : Hp} {s : Shared} {a : Addr} {y : V} {o : Option V} (I : Inv X pins σ H s) (g : DGet H a y o) : s.TypeIs (.ref a) "dict" := by
  rcases g with ⟨kvs, k, e, _, _⟩ | ⟨kvs, k, b, e, _, _, _⟩
  · obtain ⟨_, _, vs, _, dd⟩ := dk_rd I.hok e
    exact dd.typeIs
  · obtain ⟨_, _, xs, _, dd⟩ := dt_rd I.hok e
    exact dd.typeIs
noncomputable def tDGet (td ty : TE) : TE := fun σ H Q => td σ H fun x H1 => ty σ H1 fun y H2 => ∃ a v, x = .ref a ∧ DGet H2 a y (some v) ∧ Q v H2
noncomputable def tDNotIn (ty td : TE) : TE := fun σ H Q => ty σ H fun y H1 => td σ H1 fun x H2 => ∃ a o, x = .ref a ∧ DGet H2 a y o ∧ Q (.bl (!o.isSome)) H2
section
variable {X : Cx} {o i e value : Expr} {pos pos' tpos : Pos} {td ty tv : TE}
theorem pe_dget (hu : X.A.units + 1 < cLine) (ho : PE X o td) (hi : PE X i ty) (hs : NoSl i) : PE X (.Subscript o i pos) (tDGet td ty) := by
  intro pins s σ H Q I h
  refine subD_of PySem.F.slot_dict_getitem.lookup hs (thn (ho pins s σ H _ I h) fun u s1 ⟨x, H1, I1, rx, q1⟩ => thn (hi pins s1 σ H1 _ I1 q1) fun iv s2 ⟨y, H2, I2, ry, a, v, ex, g, q2⟩ => ?_)
  subst ex
  obtain rfl : u = Value.ref a := rx
  exact ⟨dict_typeIs I2 g, d_getItem hu I2 g ry fun w' s3 I3 rw' => ⟨v, H2, I3, rw', q2⟩⟩
theorem pc_dnotin (hu : X.A.units + 1 < cLine) (hi : PE X i ty) (ho : PE X o td) : PC X .NotIn i o (tDNotIn ty td) := by
  intro pins s σ H Q I h
  refine thn (hi pins s σ H _ I h) fun iv s1 ⟨y, H1, I1, ry, q1⟩ => thn (ho pins s1 σ H1 _ I1 q1) fun u s2 ⟨x, H2, I2, rx, a, ov, ex, g, q2⟩ => ?_
  subst ex
  obtain rfl : u = Value.ref a := rx
  exact d_notIn hu I2 g ry fun s3 I3 => ⟨.bl (!ov.isSome), H2, I3, rfl, q2⟩
end


theorem dk_empty {P : Program} {w : World} {H : Hp} (h : Heap) (hb : sysModules < h.objs.size) : ObjOk P w H (h.push { cls := .type "dict", data := .dict #[] }) h.objs.size (.dK []) :=
  ⟨Nat.zero_le _, beq_eq_false_iff_ne.mpr (Ne.symm (Nat.ne_of_lt hb)), [], .nil, Heap.DictOf.new h⟩
theorem dt_empty {P : Program} {w : World} {H : Hp} (h : Heap) (hb : sysModules < h.objs.size) : ObjOk P w H (h.push { cls := .type "dict", data := .dict #[] }) h.objs.size (.dT []) :=
  ⟨Nat.zero_le _, beq_eq_false_iff_ne.mpr (Ne.symm (Nat.ne_of_lt hb)), [], .nil, _, #[], 0, Heap.get?_push_size _ rfl, ⟨rfl, rfl, rfl⟩, rfl, rfl, List.nodup_nil⟩
section
variable {X : Cx} {pos : Pos}
end

noncomputable def tPairs : List (TE × TE) → St → Hp → (List (V × V) → Hp → Prop) → Prop
  | [], _, H, Q => Q [] H
  | (tk, tv) :: r, σ, H, Q => tk σ H fun x H1 => tv σ H1 fun y H2 => tPairs r σ H2 fun ps H3 => Q ((x, y) :: ps) H3
noncomputable abbrev VV : List (V × V) → List (Value × Value) → Prop := Paired fun p q => RelV p.1 q.1 ∧ RelV p.2 q.2
noncomputable def PPs (X : Cx) (pos : Pos) (keys : List (Option Expr)) (values : List Expr) (trs : List (TE × TE)) : Prop :=
  ∀ (pins : List (Addr × Obj)) (s : Shared) (σ : St) (H : Hp) (Q : List (V × V) → Hp → Prop), Inv X pins σ H s → tPairs trs σ H Q →
    wpAny (model X.prog X.w) X.A (evalPairs (pairTrees keys values X.env pos)) (fun vs s' => ∃ ps H', Inv X pins σ H' s' ∧ VV ps vs ∧ Q ps H') X.xe s
theorem pps_nil {X : Cx} {pos : Pos} : PPs X pos [] [] [] := fun pins s σ H Q I h => pairTrees_nil_walk ⟨[], H, I, .nil, h⟩
theorem pps_cons {X : Cx} {pos : Pos} {k v : Expr} {ks : List (Option Expr)} {vs : List Expr} {tk tv : TE} {trs : List (TE × TE)} (hk : PE X k tk) (hv : PE X v tv) (hr : PPs X pos ks vs trs) :
    PPs X pos (some k :: ks) (v :: vs) ((tk, tv) :: trs) := fun pins s σ H Q I h =>
  pairTrees_cons_walk (thn (hk pins s σ H _ I h) fun u s1 ⟨x, H1, I1, rx, q1⟩ => thn (hv pins s1 σ H1 _ I1 q1) fun w2 s2 ⟨y, H2, I2, ry, q2⟩ =>
    thn (hr pins s2 σ H2 _ I2 q2) fun ws s3 ⟨ps, H3, I3, rel, q3⟩ => ⟨(x, y) :: ps, H3, I3, .cons ⟨rx, ry⟩ rel, q3⟩)

noncomputable def mergeK (kvs more : List (Key × V)) : List (Key × V) := more.foldl (fun acc kv => putK acc kv.1 kv.2) kvs
theorem KV.merge : ∀ {more : List (Key × V)} {rs : List (Key × Value)} {kvs : List (Key × V)} {vs : List (Key × Value)}, KV more rs → KV kvs vs → KV (mergeK kvs more) (merged vs rs) := by
  intro more rs kvs vs r
  unfold KV at r
  induction r generalizing kvs vs with
  | nil => intro q; exact q
  | @cons p q ps qs h t ih =>
    intro r0
    have e : KV (putK kvs p.1 p.2) (stored vs q.1 q.2) := by
      have := r0.put p.1 h.2
      rw [← h.1]; exact this
    exact ih e
theorem length_mergeK : ∀ (more kvs : List (Key × V)), (mergeK kvs more).length ≤ kvs.length + more.length
  | [], kvs => by show kvs.length ≤ kvs.length + 0; omega
  | p :: r, kvs => by
    have h1 := length_mergeK r (putK kvs p.1 p.2)
    have h2 := length_putK kvs p.1 p.2
    show (mergeK (putK kvs p.1 p.2) r).length ≤ _
    rw [List.length_cons]; omega
theorem carries_of {P : Program} {w : World} : ∀ {kvs : List (Key × V)} {ws : List (Value × Value)}, VV (kvs.map fun kv => (kV kv.1, kv.2)) ws → ∃ rs, Carries (mixKind P w) ws rs ∧ KV kvs rs
  | [], _, r => by rw [List.map_nil] at r; cases r; exact ⟨[], True.intro, .nil⟩
  | p :: kvs, _, r => by
    rw [List.map_cons] at r
    cases r with
    | @cons a b as bs h t =>
      obtain ⟨rs, c, q⟩ := carries_of (P := P) (w := w) t
      obtain ⟨b1, b2⟩ := b
      exact ⟨(p.1, b2) :: rs, ⟨kV_is h.1, rfl, c⟩, .cons ⟨rfl, h.2⟩ q⟩
noncomputable def tDisp (trs : List (TE × TE)) : TE := fun σ H Q => ∀ p, H p = none → tPairs trs σ (upd H p (.dK [])) fun ps H2 => H2 p = some (.dK []) ∧ ∃ kvs : List (Key × V), ps = kvs.map (fun kv => (kV kv.1, kv.2)) ∧ kvs.length ≤ 15 ∧ Q (.ref p) (upd H2 p (.dK (mergeK [] kvs)))
theorem pe_disp {X : Cx} {pos : Pos} {keys : List (Option Expr)} {values : List Expr} {trs : List (TE × TE)} (h : PPs X pos keys values trs) (hall : keys.all (·.isSome) = true) (hl : keys.length = values.length) (h0 : keys ≠ [])
    (h15 : keys.length ≤ 15) : PE X (.Dict keys values pos) (tDisp trs) := by
  intro pins s σ H Q I q
  have hn := I.hok.fresh (Nat.le_refl s.heap.objs.size)
  have I1 := I.laid (a := s.heap.objs.size) (o := .dK []) (h' := s.heap.push { cls := .type "dict", data := .dict #[] }) (t' := s.toks) (fun _ _ q => Heap.get?_push_of_some _ q) (Nat.le_refl _) (dk_empty s.heap I.big)
  refine wpAny_Dict_walk (knd := mixKind X.prog X.w) hall hl h0 h15 (thn (h pins _ σ _ _ I1 (q _ hn)) fun ws s2 ⟨ps, H2, I2, rel, e, kvs, ep, lk, q2⟩ => ?_)
  subst ep
  obtain ⟨rs, c, rk⟩ := carries_of (P := X.prog) (w := X.w) rel
  obtain ⟨z, hd, vs0, r0, dd⟩ := dk_of I2.hok e
  cases r0
  refine ⟨rs, c, dd, fun h' dd' hs => ⟨.ref s.heap.objs.size, _, ?_, rfl, q2⟩⟩
  have hz : (mergeK [] kvs).length ≤ sizeLine := by
    have h1 := length_mergeK kvs []
    rw [List.length_nil] at h1
    rw [sizeLine_eq]; omega
  have he : ∃ q, h'.get? s.heap.objs.size = some q := let ⟨q, _, _, hq, _⟩ := dd'; ⟨q, hq⟩
  exact d_write I2 (by rw [e]; exact True.intro) hs he (dk_new hz hd (rk.merge .nil) dd')


structure M1 (X : Cx) (o : Expr) (m : Str) (apos : Pos) (e : Expr) (cpos : Pos) : Prop where
  base : attributeBase o m X.env (eval o X.env) = eval o X.env
  few : ((backTo cpos (starEach [e] X.env)).all (fun x => !x.1) && (backToKw cpos (keywordEach [] X.env)).all (fun x => x.1.isSome)
    && decide (([e] : List Expr).length + ([] : List Keyword).length + (if ([] : List Keyword).isEmpty then 0 else 1) < 30)) = true
  line : (apos.endLine == cpos.line) = true
  trees : backTo cpos (starEach [e] X.env) = [(false, eval e X.env)]
structure M2 (X : Cx) (o : Expr) (m : Str) (apos : Pos) (e f : Expr) (cpos : Pos) : Prop where
  base : attributeBase o m X.env (eval o X.env) = eval o X.env
  few : ((backTo cpos (starEach [e, f] X.env)).all (fun x => !x.1) && (backToKw cpos (keywordEach [] X.env)).all (fun x => x.1.isSome)
    && decide (([e, f] : List Expr).length + ([] : List Keyword).length + (if ([] : List Keyword).isEmpty then 0 else 1) < 30)) = true
  line : (apos.endLine == cpos.line) = true
  trees : backTo cpos (starEach [e, f] X.env) = [(false, eval e X.env), (false, eval f X.env)]

section
variable {X : Cx} {pins : List (Addr × Obj)} {σ : St} {H : Hp} {s : Shared} {a : Addr} {y d : V} {u r : Value} {o : Option V} {A : Around} {E : Value → Shared → Prop}
end

section
variable {X : Cx} {o e f : Expr} {apos cpos : Pos} {td ty tx : TE}
end

section
variable {X : Cx} {pins : List (Addr × Obj)} {σ : St} {H : Hp} {s : Shared} {a : Addr} {kvs : List (Key × V)} {A : Around} {E : Value → Shared → Prop}
end


section
variable {X : Cx} {pins : List (Addr × Obj)} {σ : St} {H : Hp} {s : Shared} {a : Addr} {y : V} {u : Value} {A : Around} {E : Value → Shared → Prop}
end
end L2

namespace Att
open PySem PySem.W PySem.Calls PyProof.Rows

theorem ints_of_wellAll {P : Params} {h : Heap} : ∀ (ns : List Int) (vs : List Value), WellAll P h vs (ns.map WData.int) → IntsAre vs ns := by
  intro ns
  induction ns with
  | nil =>
    intro vs w
    rw [List.map_nil] at w
    cases w
    exact .nil
  | cons n ns ih =>
    intro vs w
    rw [List.map_cons] at w
    cases w with
    | cons a b =>
      cases a
      exact .cons _ _ (ih _ b)

theorem script_of {l : OpenLaw} {n : Nat} (hn : l.most = some n) {P : Params} {h : Heap} {args : List WData} {vals : List Value}
    (hpre : l.row.toRowW.claim.pre args = true) (hwl : WellAll P h vals args) :
    ∃ a vs ns, vals = [Value.ref a] ∧ args = [WData.list (ns.map WData.int)] ∧ h.get? a = some { cls := .type "list", data := .seq vs.toArray } ∧ IntsAre vs ns ∧ ns.length ≤ n := by
  have hsh : WShape.hasAll [] args [.list .int] = true := (pre_splitW hpre).1
  have hc : l.pre.holds [] { args := args } = true := (pre_splitW hpre).2
  obtain ⟨d, r, rfl, h1, h2⟩ := hasAllW_cons hsh
  obtain rfl := hasAllW_nil h2
  obtain ⟨xs, rfl, h3⟩ := hasW_list h1
  obtain ⟨ns, rfl⟩ := items_int h3
  have hlen : ns.length ≤ n := by
    unfold OpenLaw.pre at hc
    have h4 : (WTm.not (.lt (.lit (.int (n : Int))) (.len (.arg 0)))).holds [] { args := [.list (ns.map .int)] } = true := by
      have h4 := (holds_andW hc).1
      rw [hn] at h4
      exact h4
    have h5 := condW_of h4 (w_not (w_lt w_lit (w_len_list (w_arg rfl))))
    rw [List.length_map] at h5
    refine Nat.le_of_not_lt fun q => ?_
    have q' : (n : Int) < ((ns.length : Nat) : Int) := by omega
    first
      | (rw [decide_eq_true q'] at h5; exact absurd h5 (by decide))
      | (simp at h5; omega)
  cases hwl with
  | cons w1 w2 =>
    cases w2
    cases w1 with
    | list ho hall => exact ⟨_, _, ns, rfl, rfl, ho, ints_of_wellAll ns _ hall, hlen⟩

theorem post_true (l : OpenLaw) (args : List WData) : l.row.toRowW.claim.post args (.bool true) args = true :=
  postW_of (r := l.row.toRowW) (X := (true == true))
    (show WShape.has [] (.bool true) .bool = true by first | rfl | decide | simp [WShape.has, WShape.arms, WShape.armsAll])
    (show (WTm.eq .res (.lit (.bool true))).value [] { args := args, res := some (.bool true), after := args } = some (.bool (true == true)) from w_eq_bool (w_res rfl) w_lit) rfl

theorem attach_call {l : OpenLaw} {n : Nat} {q : Program} {loose : List Str} {XP : (Str → Option Value) → Heap → Prop} {YP : World → Heap → Prop} {d : DefRec}
    (hn : l.most = some n) (hdf : d.params.defaults = [])
    (call : ∀ (w : World) (s₀ s₁ : Shared) (mg mb : Str → Option Value) (fa : Addr) (o : Obj) (pm cd doc : Value) (a : Addr) (vs : List Value) (ns : List Int),
      Ground q loose [] XP w s₀ mg mb s₁.heap → YP w s₁.heap →
      s₁.heap.get? fa = some o → o.data = .func (docDef d.name d.params d.body d.scope pm cd doc) → s₁.heap.CodeRec cd d.name → mg d.name = some (.ref fa) →
      s₁.heap.get? a = some { cls := .type "list", data := .seq vs.toArray } → IntsAre vs ns → ns.length ≤ n → s₁.gens = #[] →
      codeAny (model l.prog w) callerA (.call (.ref fa) ⟨[.ref a], []⟩) (fun r s' => r = .ok (.ret (.bool true)) ∧ OldK s₁.heap s'.heap ∧ s'.os = s₁.os ∧ AllBare s'.gens) s₁) :
    WalkO q loose XP YP l.row.toRowW d [] (fun f vs => PySem.call f vs) := by
  intro w s₀ s₁ mg mb G Y fa o pm cd doc dV kV ho hd hcd hD hmg hg args vals as hpre hlay hrd hwl hlo
  obtain rfl : dV = .none := Dflts.none hD hdf
  obtain rfl : kV = .none := Dflts.noKw hD
  obtain ⟨a, vs, ns, rfl, rfl, hobj, hints, hlen⟩ := script_of hn hpre hwl
  refine enter_call (codeAny_mono (call w s₀ s₁ mg mb fa o pm cd doc a vs ns G Y ho (fd_plain hd) hcd hmg hobj hints hlen hg) fun r s' hq => ?_)
  obtain ⟨rfl, h2, h3, h4⟩ := hq
  exact ⟨.inl ⟨.bool true, .bool true, [], rfl, fun _ => rfl, .bool true, post_true l _, fun _ => ⟨List.Pairwise.nil, fun _ hm => (nomatch hm)⟩⟩, h2, h3, h4⟩

section
variable {prog : Program} {w : World} {A : Around} {E : Value → Shared → Prop} {s : Shared} {K : Frag}

end
end Att

namespace L2
open PySem PySem.Spec PyProof.Rows

theorem vals_ints : ∀ {vs : List Value} {ns : List Int}, IntsAre vs ns → Vals (ns.map V.int) vs
  | _, _, .nil => .nil
  | _, _, .cons n t h => .cons ⟨t, rfl⟩ (vals_ints h)

noncomputable def Only (H : Hp) : Prop := ∀ b, H b = none ∨ ∃ o xs, H b = some (.frz o (.lst xs))

theorem law_call {P : Program} {w : World} {K : PySem.W.Frag} {mg mb : Str → Option Value} {CX : CXT} {k : Nat} {fa a : Addr} {fd : FuncData} {x : Str} {sp : Sp} {s₁ : Shared} {vs : List Value} {ns : List Int}
    (KX : K.In s₁.heap) (hns : s₁.heap.Ns mainGlobals mg) (hb : s₁.heap.Ns builtinsNs mb) (hbb : ∀ x : Str, x ≠ "__name__" → mb x = bootBuiltins x) (hlim : s₁.heap.NoLimit) (hg : s₁.gens = #[])
    (ha : s₁.heap.get? a = some { cls := .type "list", data := .seq vs.toArray }) (hi : IntsAre vs ns) (hl : ns.length ≤ sizeLine) (hr : Room k callerA)
    (F : ∀ base : Heap, K.In base → base.Ns mainGlobals mg → FnOk P w K mg base CX k fa fd [x] sp) (hbind : ∀ (s : Shared) (u : Value), BindsTo s fd ⟨[u], []⟩ [(x, u)])
    (hsp : ∀ H : Hp, Only H → SqL K H a (ns.map V.int) → sp [.ref a] H (fun v _ => v = .bl true) fun _ _ _ => False)
    (hCX : ∀ H e s', CX [] H s₁ (fun _ _ _ => False) e s' → False) :
    codeAny (model P w) callerA (.call (.ref fa) ⟨[.ref a], []⟩) (fun r s' => r = .ok (.ret (.bool true)) ∧ OldK s₁.heap s'.heap ∧ s'.os = s₁.os ∧ AllBare s'.gens) s₁ := by
  have rv := vals_ints hi
  have lenV := hi.length
  -- from an abstract heap in which nothing but the script may be tracked
  have core : ∀ H : Hp, Only H → SqL K H a (ns.map V.int) → HOk P w H s₁.heap → (∀ b, H b ≠ none → b = a) → (H a ≠ none → K.lookup a = none) →
      codeAny (model P w) callerA (.call (.ref fa) ⟨[.ref a], []⟩) (fun r s' => r = .ok (.ret (.bool true)) ∧ OldK s₁.heap s'.heap ∧ s'.os = s₁.os ∧ AllBare s'.gens) s₁ := by
    intro H hO hS hok hA hK
    have base_of : ∀ {b : Addr} {o : Obj}, s₁.heap.get? b = some o → H b = none → (hidT s₁.heap H).get? b = some o := fun e n => hidT_get e n
    have noA : ∀ {b : Addr} {o : Obj} {es : Array DictEntry} {ep : Nat}, s₁.heap.get? b = some o → o.data = .dict es ep → H b = none := fun {b o es ep} e d => by
      cases q : H b with
      | none => rfl
      | some u =>
        have e' : b = a := hA b (by rw [q]; simp)
        subst e'
        rw [ha] at e; cases e
        have d' : Data.seq vs.toArray _ = Data.dict es ep := d
        cases d'
    have nsK : ∀ {b : Addr} {m : Str → Option Value}, s₁.heap.Ns b m → (hidT s₁.heap H).Ns b m := fun {b m} ⟨o, es, ep, e, d, r⟩ => ⟨o, es, ep, base_of e (noA e d), d, r⟩
    have hKb : K.In (hidT s₁.heap H) := fun b o e => base_of (KX b o e) (by
      cases q : H b with
      | none => rfl
      | some u =>
        have e' : b = a := hA b (by rw [q]; simp)
        subst e'
        rw [hK (by rw [q]; simp)] at e; cases e)
    have hM : Mod K mg (hidT s₁.heap H) := ⟨hKb, nsK hns, ⟨mb, nsK hb, hbb⟩, let ⟨mc, h1, h2⟩ := hlim; ⟨mc, nsK h1, h2⟩⟩
    have e0 : Env0 P w K mg (hidT s₁.heap H) callerA [] s₁ H := ⟨rfl, hM, fun b o e => of_hidT e, Nat.le_of_eq (hidT_size _ _), trivial, fun b hb => absurd (show b ∈ ([] : List Addr) from hb) (by simp), hok, .of_eq hg⟩
    refine codeAny_mono ((F _ hKb (nsK hns)).run callerA [] s₁ H ⟨[.ref a], []⟩ [.ref a] [.ref a] _ _ hr e0 (hbind s₁ (.ref a)) (.cons rfl .nil) (hsp H hO hS)) fun r s' h => ?_
    cases r with
    | error e => exact (hCX H e s' h).elim
    | ok fl =>
      cases fl with
      | next => exact False.elim h
      | brk => exact False.elim h
      | cont => exact False.elim h
      | ret u =>
        obtain ⟨v, H', os, bare, un, hok', r', q⟩ := h
        have q' : v = .bl true := q
        subst q'
        obtain rfl : u = Value.bool true := r'
        refine ⟨rfl, OldK.of_keep fun b o e => ?_, os, bare⟩
        cases q : H b with
        | none => exact un.keep b o e q (by intro z; exact absurd (show b ∈ ([] : List Addr) from z) (by simp)) (by simp)
        | some u =>
          rcases hO b with z | ⟨ob, xs, z⟩
          · rw [q] at z; cases z
          · have z2 := un.frzs b ob _ z
            obtain ⟨e1, _⟩ := hok b _ z
            obtain ⟨e2, _⟩ := hok' b _ z2
            rw [e] at e1; cases e1
            exact e2
  cases hk : K.lookup a with
  | some o =>
    -- the script is one of the module's own objects
    have e := KX a o hk
    rw [ha] at e
    cases e
    refine core (fun _ => none) (fun _ => .inl rfl) (.inr ⟨_, vs.toArray, _, hk, rfl, rfl, rfl, by rw [List.size_toArray, lenV]; exact hl, by simpa using rv⟩) (fun b u z => by have z' : (none : Option HO) = some u := z; cases z') (fun b z => absurd rfl z) fun z => absurd rfl z
  | none =>
    refine core (fun b => if b = a then some (.frz { cls := .type "list", data := .seq vs.toArray } (.lst (ns.map V.int))) else none) (fun b => ?_) (.inl (.inr ⟨{ cls := .type "list", data := .seq vs.toArray }, if_pos rfl⟩)) (fun b u z => ?_) (fun b z => ?_) fun _ => hk
    · by_cases hb : b = a
      · exact .inr ⟨_, _, if_pos hb⟩
      · exact .inl (if_neg hb)
    · by_cases hb : b = a
      · have z' := (if_pos hb).symm.trans z
        cases z'
        subst hb
        exact ⟨ha, by rw [List.length_map]; exact hl, vs, _, rv, ha⟩
      · have z' := (if_neg hb).symm.trans z
        cases z'
    · by_cases hb : b = a
      · exact hb
      · exact absurd (if_neg hb) z
end L2

namespace L2
open PySem PySem.Spec PyProof.Rows

theorem walk_of {l : PySem.W.OpenLaw} {n k : Nat} {q : Program} {loose : List Str} {XP : (Str → Option Value) → Heap → Prop} {YP : World → Heap → Prop} {d : DefRec} {K : Params → PySem.W.Frag} {CX : World → CXT} {sp : World → Sp} {x : Str}
    (hn : l.most = some n) (hn2 : n ≤ sizeLine) (hdf : d.params.defaults = []) (hr : Room k callerA)
    (hY : ∀ (w : World) (h : Heap), YP w h → (K w.params).In h)
    (F : ∀ (w : World) (mg : Str → Option Value) (fa : Addr) (h : Heap), (K w.params).In h → h.Ns mainGlobals mg → mg d.name = some (.ref fa) →
      ∃ fd : FuncData, (∀ (s : Shared) (u : Value), BindsTo s fd ⟨[u], []⟩ [(x, u)]) ∧
        ∀ base : Heap, (K w.params).In base → base.Ns mainGlobals mg → FnOk l.prog w (K w.params) mg base (CX w) k fa fd [x] (sp w))
    (hsp : ∀ (w : World) (H : Hp) (a : Addr) (ns : List Int), ns.length ≤ n → Only H → SqL (K w.params) H a (ns.map V.int) → sp w [.ref a] H (fun v _ => v = .bl true) fun _ _ _ => False)
    (hCX : ∀ (w : World) (H : Hp) (s : Shared) (e : Value) (s' : Shared), CX w [] H s (fun _ _ _ => False) e s' → False) :
    PySem.W.WalkO q loose XP YP l.row.toRowW d [] (fun f vs => PySem.call f vs) := by
  refine Att.attach_call hn hdf fun w s₀ s₁ mg mb fa o pm cd doc a vs ns G Y ho hd hcd hmg hobj hints hlen hg => ?_
  have KX := hY w _ Y
  obtain ⟨fd, hb, hF⟩ := F w mg fa _ KX G.T.g hmg
  exact law_call KX G.T.g G.T.b G.T.builtins G.T.nolimit hg hobj hints (Nat.le_trans hlen hn2) hr hF hb (fun H hO hS => hsp w H a ns hlen hO hS) fun H e s' => hCX w H s₁ e s'
end L2


namespace L2
open PySem PySem.Spec PyProof.Rows


noncomputable abbrev CX0 : CXT := fun _ _ _ _ _ _ => False
noncomputable abbrev E0 : XK := fun _ _ _ => False
theorem pass0 {X : Cx} : Passes CX0 X E0 := fun _ _ _ _ _ _ _ h => h.elim

structure Fun (K : PySem.W.Frag) (x qual : Str) (st : Stmt) (f : Addr) (fd : FuncData) : Prop where
  ex : ∃ (oc : Value) (od : Option Addr) (kV doc pm : Value) (an : Option Addr) (cdv ct : Value) (osl : Array (Option Value)),
    fd = PySem.W.fnOf x qual (defArgs st) (defBody st) (defScope st) .none kV doc pm an cdv ct ∧ K.lookup f = some ⟨oc, od, .func fd, osl⟩ ∧ PySem.W.codeIn K cdv qual = true
  kp : PySem.W.keepIn K (.ref f) = true
section
variable {P : Program} {w : World} {K : PySem.W.Frag} {mg : Str → Option Value} {base : Heap}
theorem Fun.ok {x qual : Str} {st : Stmt} {f : Addr} {fd : FuncData} {N ps : List Str} {k : Nat} {sp : Sp} (F : Fun K x qual st f fd) (S : FnScope N ps (defScope st)) (len : ∀ vs H Q E, sp vs H Q E → vs.length = ps.length)
    (hbody : ∀ (cdv : Value) (A : Around) (outer : List Env) (s : Shared) (H : Hp) (vs : List V) (Q : VK) (E : XK), Room k (A.deeper (envOfC qual (defScope st) s.heap.objs.size f cdv)) → sp vs H Q E →
      ∃ t, PSs (cxOf CX0 P w K mg base N qual (defScope st) f cdv A outer s H E).nox (defBody st) t ∧ t { nx := fun _ H' => Q .non H', rt := Q } (start N vs) H) : FnOk P w K mg base CX0 (k + 1) f fd ps sp := by
  obtain ⟨oc, od, kV, doc, pm, an, cdv, ct, osl, rfl, lk, hcd⟩ := F.ex
  refine fn_of lk hcd S len fun A outer s H vs Q E hr hsp => ?_
  obtain ⟨t, h, q⟩ := hbody cdv A outer s H vs Q E hr hsp
  exact ⟨t, h.nox, q⟩
theorem Fun.binds {x qual : Str} {st : Stmt} {f : Addr} {fd : FuncData} {ps : List Str} (F : Fun K x qual st f fd)
    (h : ∀ (kV doc pm : Value) (an : Option Addr) (cdv ct : Value) (us : List Value), us.length = ps.length → bindArgs (PySem.W.fnOf x qual (defArgs st) (defBody st) (defScope st) .none kV doc pm an cdv ct) ⟨us, []⟩ = pure (ps.zip us)) : Binds K fd ps [] := by
  obtain ⟨oc, od, kV, doc, pm, an, cdv, ct, osl, rfl, lk, hcd⟩ := F.ex
  exact .all (h kV doc pm an cdv ct)
theorem fun_mk {x qual : Str} {st : Stmt} {f : Addr} {oc : Value} {od an : Option Addr} {osl : Array (Option Value)} {kV doc pm cdv ct : Value} (l : K.lookup f = some ⟨oc, od, .func (PySem.W.fnOf x qual (defArgs st) (defBody st) (defScope st) .none kV doc pm an cdv ct), osl⟩)
    (c : PySem.W.codeIn K cdv qual = true) (k : PySem.W.keepIn K (.ref f) = true) : Fun K x qual st f (PySem.W.fnOf x qual (defArgs st) (defBody st) (defScope st) .none kV doc pm an cdv ct) := ⟨⟨oc, od, kV, doc, pm, an, cdv, ct, osl, rfl, l, c⟩, k⟩
end
theorem hu_of {A : Around} {k : Nat} (hr : Room k A) : A.units + 1 < cLine := Nat.lt_of_le_of_lt (Nat.add_le_add_left (by decide : 1 ≤ 64) _) hr.units
section
variable {X : Cx}
theorem pv (i : Nat) {x : Str} {pos : Pos} (hN : X.N[i]? = some x := by rfl) (hv : Vis X.env.scope x := by first | exact Or.inl rfl | exact Or.inr (Or.inl rfl) | exact Or.inr (Or.inr rfl)) (hd : (x == ("__debug__" : Str)) = false := by decide)
    (hcd : (x == ("__classdict__" : Str)) = false := by decide) : PE X (.Name x pos) (tVar i) := pe_var hN hv hd hcd
end

theorem iteF {A B : Prop} (h : B) : if false = true then A else B := by
  rw [if_neg Bool.false_ne_true]
  exact h
theorem iteT {A B : Prop} (h : A) : if true = true then A else B := by
  rw [if_pos rfl]
  exact h
theorem ite2 {c A B : Prop} [Decidable c] (h1 : c → A) (h2 : ¬ c → B) : if c then A else B := by
  by_cases h : c
  · rw [if_pos h]
    exact h1 h
  · rw [if_neg h]
    exact h2 h
noncomputable def Same (H H' : Hp) : Prop := ∀ b o, H b = some o → H' b = some o
theorem Same.refl (H : Hp) : Same H H := fun _ _ h => h
theorem Same.trans {H H1 H2 : Hp} (a : Same H H1) (b : Same H1 H2) : Same H H2 := fun c o h => b c o (a c o h)
theorem Same.free {H H' : Hp} (e : Same H H') {l : Addr} (h : H' l = Option.none) : H l = Option.none := by
  cases q : H l with
  | none => rfl
  | some o =>
    rw [e l o q] at h
    cases h
theorem Same.seq {K : PySem.W.Frag} {H H' : Hp} {a : Addr} {xs : List V} (e : Same H H') (h : SqL K H a xs) : SqL K H' a xs := by
  rcases h with (h | ⟨o, h⟩) | h
  · exact .inl (.inl (e _ _ h))
  · exact .inl (.inr ⟨o, e _ _ h⟩)
  · exact .inr h

end L2

namespace L2
open PySem PySem.Spec PyProof.Rows
section
variable {X : Cx}
end
section
variable {κ : Type} [DecidableEq κ]
end
end L2
set_option maxHeartbeats 4000000
namespace L2
open PySem PySem.Spec PyProof.Rows

theorem comp_loop_any {prog : Program} {w : World} {A : Around} {R : Result → Shared → Prop} {s : Shared}
    {elt tg iter : Expr} {ifs : List Expr} {scope : Scope} {pos : Pos} {it acc : Value} {env : Env}
    (I : Nat → Shared → Prop)
    (turn : ∀ n s, I n s → wpAny (model prog w) A (pyNext it)
      (fun r s1 => match r with
        | none => R (.ok .next) s1
        | some v => wpAny (model prog w) A (letOwnedTupleGo tg it v) (fun _ s2 =>
            wpAny (model prog w) A (assign tg env v) (fun _ s3 =>
            wpAny (model prog w) A
              (forIn ifs true fun c r => if r = true then do
                  let ok ← isTrue c env (eval c env)
                  pure (ForInStep.yield ok)
                else pure (ForInStep.yield r))
              (fun ok s4 => if ok = true then
                  wpAny (model prog w) A (eval elt env) (fun x s5 =>
                    wpAny (model prog w) A (call (.builtin "list.append") [acc, x])
                      (fun _ s6 => ∃ m, m < n ∧ I m s6) (fun _ _ => False) s5) (fun _ _ => False) s4
                else ∃ m, m < n ∧ I m s4) (fun _ _ => False) s3) (fun _ _ => False) s2)
            (fun _ _ => False) s1)
      (fun _ _ => False) s)
    (n : Nat) (h : I n s) :
    codeAny (model prog w) A (.compLoop (.ListComp elt [⟨tg, iter, ifs, 0⟩] scope pos) 0 it acc env) R s := by
  refine codeAny_loop rfl I (fun n s hI => ?_) n h
  show wpAny _ A ((compTurn _ 0 it acc env).onRaise (fun x => do noteFrame x env; theTreesLotGoes x)) _ _ s
  refine wpAny_noted (E := fun e s' => R (.error e) s') ?_
  rw [compTurn_list]
  refine wpAny_bind (wpAny_standAt (wpAny_bind (wpAny_mono (turn n s hI) (fun r s1 h1 => ?_) fun _ _ z => z.elim)))
  cases r with
  | none => exact wpAny_pure h1
  | some v =>
    refine wpAny_bind (wpAny_mono h1 (fun _ s2 h2 => wpAny_bind (wpAny_mono h2 (fun _ s3 h3 =>
      wpAny_bind (wpAny_mono h3 (fun ok s4 h4 => ?_) fun _ _ z => z.elim)) fun _ _ z => z.elim)) fun _ _ z => z.elim)
    cases ok with
    | false => exact wpAny_pure ⟨rfl, h4⟩
    | true =>
      exact wpAny_bind (wpAny_bind (wpAny_mono h4 (fun x s5 h5 => wpAny_bind (wpAny_mono h5
        (fun _ s6 h6 => wpAny_pure (wpAny_pure ⟨rfl, h6⟩)) fun _ _ z => z.elim)) fun _ _ z => z.elim))

theorem closure_ok {scope : Scope} {env : Env} (h : ∀ y ∈ scope.names, y.2 = .free → ∃ c, env.cells.lookup y.1 = some c) :
    ∃ cl, closureFor scope env = pure cl ∧ (∀ x c, cl.lookup x = some c → env.cells.lookup x = some c) ∧
      ∀ y ∈ scope.names, y.2 = .free → ∃ c, cl.lookup y.1 = some c := by
  have all : ∀ (ns : List (Str × NameKind)), (∀ y ∈ ns, y.2 = .free → ∃ c, env.cells.lookup y.1 = some c) → ∀ cl0 : List (Str × Addr),
      (∀ x c, cl0.lookup x = some c → env.cells.lookup x = some c) →
      ∃ cl, (forIn ns cl0 fun (x : Str × NameKind) (r : List (Str × Addr)) =>
          (if (x.2 == NameKind.free) = true then do
            let a ← cellOf env x.1
            pure (ForInStep.yield ((x.1, a) :: r))
          else pure (ForInStep.yield r) : Sem _)) = pure cl ∧ (∀ x c, cl.lookup x = some c → env.cells.lookup x = some c) ∧
        (∀ x c, cl0.lookup x = some c → ∃ c, cl.lookup x = some c) ∧ ∀ y ∈ ns, y.2 = .free → ∃ c, cl.lookup y.1 = some c := by
    intro ns
    induction ns with
    | nil => exact fun _ cl0 h0 => ⟨cl0, rfl, h0, fun x c e => ⟨c, e⟩, fun y hy => nomatch hy⟩
    | cons y r ih =>
      intro hy cl0 h0
      by_cases hk : y.2 = .free
      · obtain ⟨c, hc⟩ := hy y (.head _) hk
        have h1 : ∀ x d, ((y.1, c) :: cl0).lookup x = some d → env.cells.lookup x = some d := fun x d e => by
          rw [List.lookup_cons] at e
          cases q : x == y.1 with
          | true =>
            rw [q] at e
            have : x = y.1 := eq_of_beq q
            subst this
            exact (Option.some.inj e) ▸ hc
          | false =>
            rw [q] at e
            exact h0 x d e
        obtain ⟨cl, e, a, b, d⟩ := ih (fun z hz => hy z (.tail _ hz)) ((y.1, c) :: cl0) h1
        have keep : ∀ x d, cl0.lookup x = some d → ∃ d, cl.lookup x = some d := fun x d e => by
          cases q : x == y.1 with
          | true => exact b x c (by rw [List.lookup_cons, q])
          | false => exact b x d (by rw [List.lookup_cons, q]; exact e)
        refine ⟨cl, ?_, a, keep, fun z hz hf => ?_⟩
        · rw [List.forIn_cons]
          have : (y.2 == NameKind.free) = true := by rw [hk]; rfl
          rw [if_pos this]
          have ec : cellOf env y.1 = pure c := by unfold cellOf; rw [hc]
          rw [ec]
          exact e
        · rcases List.mem_cons.mp hz with rfl | hz
          · exact b z.1 c (by rw [List.lookup_cons, beq_self_eq_true])
          · exact d z hz hf
      · obtain ⟨cl, e, a, b, d⟩ := ih (fun z hz => hy z (.tail _ hz)) cl0 h0
        refine ⟨cl, ?_, a, b, fun z hz hf => ?_⟩
        · rw [List.forIn_cons]
          have : ¬ (y.2 == NameKind.free) = true := by simpa using hk
          rw [if_neg this]
          exact e
        · rcases List.mem_cons.mp hz with rfl | hz
          · exact absurd hf hk
          · exact d z hz hf
  obtain ⟨cl, e, a, _, d⟩ := all scope.names h [] (fun x c e => by simp at e)
  exact ⟨cl, congrArg (fun (m : Sem (List (Str × Addr))) => m >>= fun cs => pure cs) e, a, d⟩

theorem relabel_kind {scope : Scope} {env : Env} {x : Str} (hc : ∀ y ∈ scope.names, y.2 ≠ .cell)
    (h : (relabel scope env).names.lookup x = some .cell ∨ (relabel scope env).names.lookup x = some .free) : ∃ y ∈ scope.names, y.1 = x ∧ y.2 = .free := by
  have all : ∀ ns : List (Str × NameKind), (∀ y ∈ ns, y.2 ≠ .cell) → ∀ k, (k = NameKind.cell ∨ k = NameKind.free) →
      (ns.map fun (n, k) => if (k == .free && env.scope.kind == .function && env.kindOf n == some .cell) then (n, .cell) else (n, k)).lookup x = some k → ∃ y ∈ ns, y.1 = x ∧ y.2 = .free := by
    intro ns
    induction ns with
    | nil => intro _ k _ e; simp at e
    | cons y r ih =>
      intro hn k hk e
      obtain ⟨n, j⟩ := y
      rw [List.map_cons, List.lookup_cons] at e
      have step : (∃ z ∈ r, z.1 = x ∧ z.2 = .free) → ∃ z ∈ (n, j) :: r, z.1 = x ∧ z.2 = .free := fun ⟨z, hz, q⟩ => ⟨z, .tail _ hz, q⟩
      by_cases hcc : (j == NameKind.free && env.scope.kind == .function && env.kindOf n == some .cell) = true
      · have hj : j = .free := by
          simp only [Bool.and_eq_true, beq_iff_eq] at hcc
          exact hcc.1.1
        simp only [hcc, if_true] at e
        cases q : x == n with
        | true => exact ⟨(n, j), .head _, (eq_of_beq q).symm, hj⟩
        | false =>
          rw [q] at e
          exact step (ih (fun z hz => hn z (.tail _ hz)) k hk e)
      · simp only [hcc, if_false, Bool.false_eq_true] at e
        cases q : x == n with
        | true =>
          rw [q] at e
          have ej : j = k := Option.some.inj e
          refine ⟨(n, j), .head _, (eq_of_beq q).symm, ?_⟩
          rcases hk with hk | hk
          · exact absurd (ej.trans hk) (hn (n, j) (.head _))
          · exact ej.trans hk
        | false =>
          rw [q] at e
          exact step (ih (fun z hz => hn z (.tail _ hz)) k hk e)
  rcases h with h | h
  · exact all scope.names hc _ (.inl rfl) h
  · exact all scope.names hc _ (.inr rfl) h

noncomputable def cxComp (X : Cx) (N : List Str) (scope : Scope) (cl : List (Str × Addr)) (fp : List Addr) (s : Shared) (H : Hp) : Cx where
  prog := X.prog
  w := X.w
  K := X.K
  mg := X.mg
  base := X.base
  A := X.A
  N := N
  s₀ := s
  H₀ := H
  env := compEnvC scope cl s.heap.objs.size X.env
  outer := X.stack
  stack := X.stack
  ex := fp
  fn := fun _ => false
  calm := X.calm
  pn := []
  xe := fun _ _ => False

noncomputable def blockSt (n : Nat) (cap : List Nat) (σ : St) : St := List.replicate n none ++ cap.map fun j => (σ[j]?).join

noncomputable def PTs (X : Cx) (ifs : List Expr) (t : TT) : Prop :=
  ∀ (pins : List (Addr × Obj)) (s : Shared) (σ : St) (H : Hp) (Q : Bool → Hp → Prop), Inv X pins σ H s → t σ H Q →
    wpAny (model X.prog X.w) X.A (forIn ifs true fun c r => if r = true then do
        let ok ← isTrue c X.env (eval c X.env)
        pure (ForInStep.yield ok)
      else pure (ForInStep.yield r)) (TP X pins σ Q) X.xe s
noncomputable def tYes : TT := fun _ H Q => Q true H
theorem pts_nil {X : Cx} : PTs X [] tYes := fun _ _ _ H _ I h => wpAny_tests_nil ⟨H, I, h⟩
theorem pts_one {X : Cx} {c : Expr} {t : TT} (h : PT X c t) : PTs X [c] t := fun pins s σ H Q I hw => wpAny_tests_one (h pins s σ H Q I hw)

noncomputable def compRun (J : It) (D : Addr) (n : Nat) (cap : List Nat) (σ : St) (g : TG) (tt : TT) (te : TE) (Q : VK) (H1 : Hp) : Prop :=
  ∃ W : Nat → Nat → Hp → Prop, (∃ m, W 0 m (upd H1 D (.lst []))) ∧ ∀ i m H, W i m H →
    (J.stop i H ∧ Q (.ref D) H) ∨ (J.go i H ∧ ∃ N : Hp → Prop, (∀ H', N H' → ∃ m', m' < m ∧ W (i + 1) m' H') ∧ ∀ x H', J.yld i H x H' → g x (blockSt n cap σ) H' fun σ2 H2 =>
      tt σ2 H2 fun b H3 => if b = true then te σ2 H3 fun y H4 => ∃ xs, H4 D = some (.lst xs) ∧ xs.length < sizeLine ∧ N (upd H4 D (.lst (xs ++ [y])))
        else N H3)
noncomputable def tComp (n : Nat) (cap : List Nat) (wi : TI) (g : TG) (tt : TT) (te : TE) : TE := fun σ H Q => wi σ H fun J H1 => ∀ D, H1 D = none → compRun J D n cap σ g tt te Q H1

section
variable {X : Cx} {elt tg iter : Expr} {ifs : List Expr} {scope : Scope} {pos : Pos} {N : List Str} {n : Nat} {cap : List Nat} {wi : TI} {g : TG} {tt : TT} {te : TE}

structure Blk (X : Cx) (scope : Scope) (N : List Str) (n : Nat) (cap : List Nat) : Prop where
  kind : scope.kind = .function
  cell : ∀ y ∈ scope.names, y.2 ≠ .cell
  names : ∀ y ∈ scope.names, y.2 = .local → scope.names.lookup y.1 = some .local
  free : ∀ y ∈ scope.names, y.2 = .free → X.env.kindOf y.1 = some .cell ∨ X.env.kindOf y.1 = some .free
  len : N.length = n + cap.length
  caps : ∀ (i j : Nat) (x : Str), cap[i]? = some j → N[n + i]? = some x → X.N[j]? = some x ∧ (scope.names.lookup x = some .free)
end

noncomputable def blkOk (names : List (Str × NameKind)) (N : List Str) (n : Nat) (cap : List Nat) (No : List Str) (so : List (Str × NameKind)) : Bool :=
  names.all (fun y => y.2 != .cell) && names.all (fun y => y.2 != .local || names.lookup y.1 == some .local) &&
  names.all (fun y => y.2 != .free || (so.lookup y.1 == some .cell || so.lookup y.1 == some .free)) && (N.length == n + cap.length) &&
  (List.range cap.length).all fun i => match cap[i]?, N[n + i]? with
    | some j, some x => No[j]? == some x && names.lookup x == some .free
    | _, _ => true
theorem blk_of {X : Cx} {scope : Scope} {N : List Str} {n : Nat} {cap : List Nat} (hk : scope.kind = .function) (h : blkOk scope.names N n cap X.N X.env.scope.names = true) : Blk X scope N n cap := by
  unfold blkOk at h
  simp only [Bool.and_eq_true, List.all_eq_true] at h
  obtain ⟨⟨⟨⟨h1, h2⟩, h3⟩, h4⟩, h5⟩ := h
  refine ⟨hk, fun y hy z => ?_, fun y hy z => ?_, fun y hy z => ?_, by simpa using h4, fun i j x e1 e2 => ?_⟩
  · have := h1 y hy
    rw [z] at this
    cases this
  · have := h2 y hy
    rw [z] at this
    simpa using this
  · have := h3 y hy
    rw [z] at this
    show X.env.scope.names.lookup y.1 = some .cell ∨ X.env.scope.names.lookup y.1 = some .free
    simpa using this
  · have hi : i < cap.length := (List.getElem?_eq_some_iff.mp e1).1
    have := h5 i (List.mem_range.mpr hi)
    rw [e1, e2] at this
    simpa using this

theorem blk_get {n : Nat} {cap : List Nat} {σ : St} {i : Nat} {v : V} (h : (blockSt n cap σ)[i]? = some (some v)) :
    ∃ k j, i = n + k ∧ cap[k]? = some j ∧ σ[j]? = some (some v) := by
  unfold blockSt at h
  by_cases hi : i < n
  · rw [List.getElem?_append_left (by simpa using hi), List.getElem?_replicate, if_pos hi] at h
    cases h
  · rw [List.getElem?_append_right (by simpa using Nat.not_lt.mp hi)] at h
    simp only [List.length_replicate, List.getElem?_map] at h
    cases e : cap[i - n]? with
    | none => rw [e] at h; cases h
    | some j =>
      rw [e] at h
      have h' : (σ[j]?).join = some v := Option.some.inj h
      refine ⟨i - n, j, by omega, e, ?_⟩
      cases q : σ[j]? with
      | none => rw [q] at h'; cases h'
      | some o =>
        rw [q] at h'
        exact congrArg some h'

theorem relabel_free {scope : Scope} {env : Env} {x : Str} (h : scope.names.lookup x = some .free) :
    (relabel scope env).names.lookup x = some .cell ∨ (relabel scope env).names.lookup x = some .free := by
  have all : ∀ ns : List (Str × NameKind), ns.lookup x = some .free →
      (ns.map fun (n, k) => if (k == .free && env.scope.kind == .function && env.kindOf n == some .cell) then (n, NameKind.cell) else (n, k)).lookup x = some .cell ∨
      (ns.map fun (n, k) => if (k == .free && env.scope.kind == .function && env.kindOf n == some .cell) then (n, NameKind.cell) else (n, k)).lookup x = some .free := by
    intro ns
    induction ns with
    | nil => intro e; simp at e
    | cons y r ih =>
      intro e
      obtain ⟨m, j⟩ := y
      rw [List.lookup_cons] at e
      rw [List.map_cons, List.lookup_cons]
      cases q : x == m with
      | true =>
        rw [q] at e
        have ej : j = .free := Option.some.inj e
        subst ej
        by_cases hcc : (NameKind.free == NameKind.free && env.scope.kind == .function && env.kindOf m == some .cell) = true
        · simp only [hcc, if_true, q, true_or]
        · simp only [hcc, if_false, Bool.false_eq_true, q, or_true]
      | false =>
        rw [q] at e
        have h1 := ih e
        by_cases hcc : (j == NameKind.free && env.scope.kind == .function && env.kindOf m == some .cell) = true
        · simp only [hcc, if_true, q]
          exact h1
        · simp only [hcc, if_false, Bool.false_eq_true, q]
          exact h1
  exact all scope.names h

theorem comp_ok {X : Cx} {pins : List (Addr × Obj)} {σ : St} {H : Hp} {s : Shared} {N : List Str} {scope : Scope} {n : Nat} {cap : List Nat} {cl : List (Str × Addr)} {fp : List Addr}
    (I : Inv X pins σ H s) (B : Blk X scope N n cap) (c1 : ∀ x c, cl.lookup x = some c → X.env.cells.lookup x = some c)
    (c2 : ∀ y ∈ scope.names, y.2 = .free → ∃ c, cl.lookup y.1 = some c) (hf : ∀ b ∈ fp, FpOk X pins H b) (hfl : ∀ b ∈ fp, b < s.heap.objs.size) : (cxComp X N scope cl fp s H).Ok where
  mod := I.ok.mod
  kind := by show (relabel scope X.env).kind = _; exact B.kind
  glob := I.ok.glob
  blt := I.ok.blt
  above := Nat.le_refl _
  inj := fun x y c e1 e2 => I.ok.inj x y c (c1 x c e1) (c1 y c e2)
  has := fun x h => by
    obtain ⟨y, hy, e, k⟩ := relabel_kind B.cell h
    obtain ⟨c, hc⟩ := c2 y hy k
    exact ⟨c, e ▸ hc⟩
  cab := fun x c h => nomatch h
  hd := I.ok.hd
  frames := I.ok.frames
  stk := .inl rfl
  exf := fun b hb => ⟨Nat.ne_of_lt (hfl b hb), fun x c e => (hf b hb).2.2.2.2.1 x c (c1 x c e)⟩
  bs := I.bs
  bsz := Nat.le_trans I.ok.bsz I.sz
  noex := fun b o e hb => by
    rcases (hf b hb).2.2.2.1 with z | z
    · exact I.ok.noex b o e z
    · exact absurd (Nat.lt_of_lt_of_le (Heap.lt_size e) (Nat.le_trans I.ok.bsz z)) (Nat.lt_irrefl _)
  exfs := fun b hb z => by
    rcases List.mem_cons.mp (I.stkSub b z) with e | e
    · exact (hf b hb).2.1 e
    · exact (hf b hb).2.2.1 e
  funs := I.stack
  frf := I.stkFree

theorem comp_start {X : Cx} {pins : List (Addr × Obj)} {σ : St} {H : Hp} {s : Shared} {h1 : Heap} {t1 : Nat} {N : List Str} {scope : Scope} {n : Nat} {cap : List Nat} {cl : List (Str × Addr)} {fp : List Addr} {m : Str → Option Value}
    (I : Inv X pins σ H s) (B : Blk X scope N n cap) (c1 : ∀ x c, cl.lookup x = some c → X.env.cells.lookup x = some c)
    (c2 : ∀ y ∈ scope.names, y.2 = .free → ∃ c, cl.lookup y.1 = some c) (hf : ∀ b ∈ fp, FpOk X pins H b) (hfl : ∀ b ∈ fp, b < s.heap.objs.size)
    (hn : h1.Ns s.heap.objs.size m) (k : ∀ b o, s.heap.get? b = some o → h1.get? b = some o) :
    Inv (cxComp X N scope cl fp s H) [] (blockSt n cap σ) H { s with heap := h1, toks := t1 } where
  ok := comp_ok I B c1 c2 hf hfl
  os := rfl
  bare := I.bare
  base := Un.kept k
  loc := by
    refine ⟨m, hn, fun i x v e1 e2 e3 => ?_⟩
    obtain ⟨k', j, rfl, ec, es⟩ := blk_get e2
    obtain ⟨ex, ef⟩ := B.caps k' j x ec e1
    have hy : ∃ y ∈ scope.names, y.1 = x ∧ y.2 = .free := relabel_kind (env := X.env) B.cell (relabel_free ef)
    obtain ⟨y, hy, ey, ky⟩ := hy
    have kx : X.env.kindOf x = some .cell ∨ X.env.kindOf x = some .free := ey ▸ B.free y hy ky
    obtain ⟨m0, _, hl⟩ := I.loc
    have vis : Vis X.env.scope x := .inr kx
    obtain ⟨u, r, l⟩ := hl j x v ex es vis
    refine ⟨u, r, .inr ⟨relabel_free ef, ?_⟩⟩
    rcases l with ⟨kl, _⟩ | ⟨_, c, hc, ho⟩
    · rcases kx with q | q <;> (rw [kl] at q; cases q)
    · obtain ⟨c', hc'⟩ := c2 y hy ky
      rw [ey] at hc'
      have := c1 x c' hc'
      rw [hc] at this
      cases this
      obtain ⟨o, eo, d⟩ := ho
      exact ⟨c, hc', o, k c o eo, d⟩
  cell := fun x c e => by
    obtain ⟨v, o, eo, d⟩ := I.cell x c (c1 x c e)
    exact ⟨v, o, k c o eo, d⟩
  free := I.hok.fresh (Nat.le_refl _)
  freeC := fun x c e => I.freeC x c (c1 x c e)
  pin := fun p hp => nomatch hp
  hok := I.hok.kept k
  len := by show (blockSt n cap σ).length = N.length; rw [B.len]; unfold blockSt; simp

theorem comp_end {X : Cx} {pins : List (Addr × Obj)} {σ σ' : St} {H H' : Hp} {s s' : Shared} {N : List Str} {scope : Scope} {cl : List (Str × Addr)} {fp : List Addr} {pl : List (Addr × Obj)}
    (I : Inv X pins σ H s) (I' : Inv (cxComp X N scope cl fp s H) pl σ' H' s') (hf : ∀ b ∈ fp, FpOk X pins H b) :
    Inv X pins σ H' s' ∧ FpOk X pins H' s.heap.objs.size ∧ ∃ m, s'.heap.Ns s.heap.objs.size m := by
  obtain ⟨m, hn, _⟩ := I'.loc
  have u : Un (frs X.stack) fp H H' s.heap s'.heap := I'.base
  have J : Inv X pins σ H' s' := I.call' (ch := fp) I'.os u I'.hok I'.bare fun b hb => by
    obtain ⟨_, a1, _, a3, a4, a5⟩ := hf b hb
    exact ⟨a3, a1, a4, a5⟩
  exact ⟨J, I.fpOk (Nat.le_refl _) I'.free, m, hn⟩

noncomputable def KeepG (n : Nat) (g : TG) : Prop := ∀ x σ H Q, g x σ H Q → g x σ H fun σ2 H2 => Q σ2 H2 ∧ σ2.length = σ.length ∧ ∀ z, n ≤ z → σ2[z]? = σ[z]?
noncomputable def KeepGs (n : Nat) (g : TGs) : Prop := ∀ xs σ H Q, g xs σ H Q → g xs σ H fun σ2 H2 => Q σ2 H2 ∧ σ2.length = σ.length ∧ ∀ z, n ≤ z → σ2[z]? = σ[z]?
theorem keep_name {n i : Nat} (h : i < n) : KeepG n (gName i) := fun x σ H Q q => ⟨q, by simp, fun z hz => by rw [List.getElem?_set_ne (by omega)]⟩
theorem keep_nil {n : Nat} : KeepGs n gNil := fun xs σ H Q q => ⟨q.1, q.2, rfl, fun _ _ => rfl⟩
theorem keep_cons {n i : Nat} {u : TGs} (h : i < n) (hu : KeepGs n u) (hm : ∀ xs σ H (Q Q' : St → Hp → Prop), u xs σ H Q → (∀ a b, Q a b → Q' a b) → u xs σ H Q') : KeepGs n (gCons (gName i) u) := fun xs σ H Q q => by
  obtain ⟨v, r, e, q⟩ := q
  refine ⟨v, r, e, hm r _ H _ _ (hu r _ H _ q) fun σ2 H2 ⟨p, l, k⟩ => ⟨p, by rw [l]; simp, fun z hz => ?_⟩⟩
  rw [k z hz, List.getElem?_set_ne (by omega)]
theorem mono_nil : ∀ xs σ H (Q Q' : St → Hp → Prop), gNil xs σ H Q → (∀ a b, Q a b → Q' a b) → gNil xs σ H Q' := fun xs σ H Q Q' q m => ⟨q.1, m _ _ q.2⟩
theorem mono_cons {i : Nat} {u : TGs} (hm : ∀ xs σ H (Q Q' : St → Hp → Prop), u xs σ H Q → (∀ a b, Q a b → Q' a b) → u xs σ H Q') :
    ∀ xs σ H (Q Q' : St → Hp → Prop), gCons (gName i) u xs σ H Q → (∀ a b, Q a b → Q' a b) → gCons (gName i) u xs σ H Q' := fun xs σ H Q Q' ⟨v, r, e, q⟩ m => ⟨v, r, e, hm r _ H _ _ q m⟩
theorem keep_pair {K : PySem.W.Frag} {n m i j : Nat} (hi : i < n) (hj : j < n) : KeepG n (gTup K m (gCons (gName i) (gCons (gName j) gNil))) := fun x σ H Q q => by
  obtain ⟨a, xs, e, hq, hl, q⟩ := q
  exact ⟨a, xs, e, hq, hl, keep_cons hi (keep_cons hj keep_nil mono_nil) (mono_cons mono_nil) xs σ H Q q⟩
theorem comp_core {X : Cx} {elt tg iter : Expr} {ifs : List Expr} {scope : Scope} {pos : Pos} {N : List Str} {n : Nat} {cap : List Nat} {g : TG} {tt : TT} {te : TE}
    {cl : List (Str × Addr)} {RR : Value → Addr → Result → Shared → Prop} {E : Value → Shared → Prop}
    (hc : X.calm = true) (B : Blk X scope N n cap) (c1 : ∀ x c, cl.lookup x = some c → X.env.cells.lookup x = some c) (c2 : ∀ y ∈ scope.names, y.2 = .free → ∃ c, cl.lookup y.1 = some c)
    (hk : KeepG n g) (hg : ∀ cl fp s H, PG (cxComp X N scope cl fp s H) tg g) (ht : ∀ cl fp s H, PTs (cxComp X N scope cl fp s H) ifs tt) (he : ∀ cl fp s H, PE (cxComp X N scope cl fp s H) elt te)
    {pins : List (Addr × Obj)} {σ : St} {Q : VK} {itv : Value} {s2 : Shared}
    (h : PIE X pins σ tg (fun J H1 => ∀ D, H1 D = none → compRun J D n cap σ g tt te Q H1) itv s2)
    (hRR : ∀ (D C : Addr) (H' : Hp) (s' : Shared) (m : Str → Option Value), Inv X pins σ H' s' → FpOk X pins H' C → s'.heap.Ns C m → Q (.ref D) H' → RR (.ref D) C (.ok .next) s') :
    wpAny (model X.prog X.w) X.A (newList []) (fun acc s3 =>
      wpAny (model X.prog X.w) X.A (newFunctionEnv scope X.env.globals cl [] X.env.qual none .none (some X.env)) (fun cenv s4 =>
        codeAny (model X.prog X.w) X.A (.compStart (.ListComp elt [⟨tg, iter, ifs, 0⟩] scope pos) 0 itv acc { cenv with scope := relabel scope X.env })
          (RR acc cenv.locals) s4) E s3) E s2 := by
  obtain ⟨it, fp, tn, J, H2, e, I2, T, st2, f2, q2⟩ := h
  subst e
  refine wpAny_newObj_type ?_ (by show 0 ≤ sizeLine; decide)
  have hD : H2 s2.heap.objs.size = none := I2.hok.fresh (Nat.le_refl _)
  obtain ⟨W, ⟨m0, w0⟩, turn⟩ := q2 _ hD
  have I3 : Inv X pins σ (upd H2 s2.heap.objs.size (.lst [])) { s2 with heap := s2.heap.push { cls := .type "list", data := .seq ([] : List Value).toArray }, toks := s2.toks } :=
    I2.lnew .nil (by show 0 ≤ sizeLine; decide)
  have st3 : tn 0 (s2.heap.push { cls := .type "list", data := .seq ([] : List Value).toArray }) := T.keep _ _ _ st2 fun b _ o e => Heap.get?_push_of_some _ e
  have obj2 := T.obj _ _ st2
  have fD : ∀ b ∈ fp, b ≠ s2.heap.objs.size := fun b hb => by
    obtain ⟨o, eo, _⟩ := obj2 b hb
    exact Nat.ne_of_lt (Heap.lt_size eo)
  have f3 : ∀ b ∈ fp, FpOk X pins (upd H2 s2.heap.objs.size (.lst [])) b := fun b hb => ⟨by rw [upd_ne (fD b hb)]; exact (f2 b hb).1, (f2 b hb).2⟩
  have go3 : ∀ (s3 : Shared) (H3 : Hp), Inv X pins σ H3 s3 → tn 0 s3.heap → (∀ b ∈ fp, FpOk X pins H3 b) → W 0 m0 H3 →
      wpAny (model X.prog X.w) X.A (newFunctionEnv scope X.env.globals cl [] X.env.qual none .none (some X.env)) (fun cenv s4 =>
        codeAny (model X.prog X.w) X.A (.compStart (.ListComp elt [⟨tg, iter, ifs, 0⟩] scope pos) 0 (.ref it) (.ref s2.heap.objs.size) { cenv with scope := relabel scope X.env })
          (RR (.ref s2.heap.objs.size) cenv.locals) s4) E s3 := by
    intro s3 H3 I3 st3 f3 w0
    refine wpAny_newFunctionEnv B.cell (fun y hy => nomatch hy) (fun h4 n4 sb4 => ?_) B.kind
    have k4 : ∀ b o, s3.heap.get? b = some o → h4.get? b = some o := fun b o e => sb4.extBut b o (Nat.ne_of_lt (Heap.lt_size e)) (Heap.get?_push_of_some _ e)
    have fl3 : ∀ b ∈ fp, b < s3.heap.objs.size := fun b hb => by
      obtain ⟨o, eo, _⟩ := T.obj _ _ st3 b hb
      exact Heap.lt_size eo
    have I4 : Inv (cxComp X N scope cl fp s3 H3) [] (blockSt n cap σ) H3 { s3 with heap := h4, toks := s3.toks + ([] : List (Str × Value)).length } :=
      comp_start I3 B c1 c2 f3 fl3 n4 k4
    have st4 : tn 0 h4 := T.keep _ _ _ st3 fun b _ o e => k4 b o e
    have stat : ∀ {H' : Hp}, (∀ b ∈ fp, H' b = none) → ∀ b ∈ fp, FpOk (cxComp X N scope cl fp s3 H3) [] H' b := fun hn b hb => by
      obtain ⟨_, a1, a2, _, a4, _⟩ := f3 b hb
      refine ⟨hn b hb, Nat.ne_of_lt (fl3 b hb), fun z => ?_, .inl hb, fun x c e => a4 x c (c1 x c e), fun p hp => nomatch hp⟩
      rcases List.mem_cons.mp (I3.stkSub b z) with e | e
      · exact a1 e
      · exact a2 e
    have loop : ∀ s5 : Shared, s5 = { s3 with heap := h4, toks := s3.toks + ([] : List (Str × Value)).length } →
        codeAny (model X.prog X.w) X.A (.compLoop (.ListComp elt [⟨tg, iter, ifs, 0⟩] scope pos) 0 (.ref it) (.ref s2.heap.objs.size) (compEnvC scope cl s3.heap.objs.size X.env))
          (RR (.ref s2.heap.objs.size) s3.heap.objs.size) s5 := by
      rintro s5 rfl
      refine comp_loop_any (fun k s' => ∃ i H', Inv (cxComp X N scope cl fp s3 H3) [] (blockSt n cap σ) H' s' ∧ tn i s'.heap ∧ (∀ b ∈ fp, H' b = none) ∧ W i k H') ?_ m0
        ⟨0, H3, I4, st4, fun b hb => (f3 b hb).1, w0⟩
      rintro k s6 ⟨i, H6, I6, st6, fr6, w6⟩
      rcases turn i k H6 w6 with ⟨stop, qn⟩ | ⟨go, N6, hN6, step⟩
      · refine thn (T.done (cxComp X N scope cl fp s3 H3) rfl rfl rfl hc i [] s6 _ H6 _ I6 (stat fr6) st6 stop) fun r s7 ⟨hr, I7⟩ => ?_
        subst hr
        obtain ⟨J7, C7, m7, n7⟩ := comp_end I3 I7 f3
        exact hRR _ _ H6 s7 m7 J7 C7 n7 qn
      · refine thn (T.item (cxComp X N scope cl fp s3 H3) rfl rfl rfl hc i [] s6 _ H6 _ I6 (stat fr6) st6 go) fun r s7 ⟨u, hr, h7⟩ => ?_
        subst hr
        refine thn h7 fun _ s8 ⟨x, H8, I8, r8, y8, st8, fr8⟩ => ?_
        have I8' := I8.pinned (stat fr8) (T.obj _ _ st8)
        refine thn (hg cl fp s3 H3 _ s8 _ H8 x u _ I8' r8 (hk _ _ _ _ (step x H8 y8))) fun _ s9 ⟨σ9, H9, I9, q9, l9, k9⟩ => ?_
        refine thn (ht cl fp s3 H3 _ s9 σ9 H9 _ I9 q9) fun b s10 ⟨H10, I10, q10⟩ => ?_
        have wk : ∀ (z : Nat) v, (blockSt n cap σ)[z]? = some (some v) → σ9[z]? = some (some v) := fun z v e => by
          obtain ⟨kk, j, rfl, _, _⟩ := blk_get e
          rw [k9 _ (Nat.le_add_right _ _)]
          exact e
        have back : ∀ {Ha : Hp} {sa : Shared} {j : Nat}, Inv (cxComp X N scope cl fp s3 H3) ([] ++ pinsAt fp s8.heap) σ9 Ha sa → W (i + 1) j Ha →
            ∃ i H', Inv (cxComp X N scope cl fp s3 H3) [] (blockSt n cap σ) H' sa ∧ tn i sa.heap ∧ (∀ b ∈ fp, H' b = none) ∧ W i j H' := fun {Ha sa j} Ia wa => by
          refine ⟨i + 1, Ha, (Ia.unpinned).weak l9.symm wk, T.keep _ _ _ st8 fun b hb o e => (Ia.pin (b, o) (List.mem_append_right _ (List.mem_append_right _ (mem_pinsAt hb e)))).1, fun b hb => ?_, wa⟩
          obtain ⟨o, e, d⟩ := T.obj _ _ st8 b hb
          exact (Ia.pin (b, o) (List.mem_append_right _ (List.mem_append_right _ (mem_pinsAt hb e)))).2.1
        cases b with
        | false =>
          rw [if_neg Bool.false_ne_true] at q10 ⊢
          obtain ⟨m', hm, w'⟩ := hN6 _ q10
          exact ⟨m', hm, back I10 w'⟩
        | true =>
          rw [if_pos rfl] at q10 ⊢
          refine thn (he cl fp s3 H3 _ s10 σ9 H10 _ I10 q10) fun y s11 ⟨yv, H11, I11, r11, q11⟩ => ?_
          obtain ⟨xs, eD, hl, q11⟩ := q11
          obtain ⟨m', hm, w'⟩ := hN6 _ q11
          refine thn (mt_append _ s11 σ9 H11 (.ref s2.heap.objs.size) [yv] (.ref s2.heap.objs.size) [y] (fun _ Hz => Hz = upd H11 s2.heap.objs.size (.lst (xs ++ [yv]))) I11 rfl (.cons r11 .nil)
            ⟨_, xs, yv, rfl, rfl, eD, hl, rfl⟩) fun _ s12 ⟨_, H12, I12, _, e12⟩ => ?_
          subst e12
          exact ⟨m', hm, back I12 w'⟩
    exact codeAny_compStart_list (loop _ rfl) (T.self _ _ _ _ _ st4 (loop _ rfl))
  exact go3 _ _ I3 st3 f3 w0

section
variable {X : Cx} {elt tg iter : Expr} {ifs : List Expr} {scope : Scope} {pos : Pos} {N : List Str} {n : Nat} {cap : List Nat} {wi : TI} {g : TG} {tt : TT} {te : TE}
theorem pe_comp (hc : X.calm = true) (B : Blk X scope N n cap) (hi : PI X tg iter wi) (hk : KeepG n g)
    (hg : ∀ cl fp s H, PG (cxComp X N scope cl fp s H) tg g) (ht : ∀ cl fp s H, PTs (cxComp X N scope cl fp s H) ifs tt) (he : ∀ cl fp s H, PE (cxComp X N scope cl fp s H) elt te)
    (hs : ∀ x, foldedSetIterable iter X.env x = pure x := by intro _; rfl) : PE X (.ListComp elt [⟨tg, iter, ifs, 0⟩] scope pos) (tComp n cap wi g tt te) := by
  intro pins s σ H Q I h
  obtain ⟨cl, ecl, c1, c2⟩ := closure_ok (scope := scope) (env := X.env) fun y hy k => I.ok.has y.1 (B.free y hy k)
  rw [eval_ListComp]
  refine wpAny_comprehension_free (use := none) rfl hs ecl B.kind B.names ?_
  refine thn (hi pins s σ H _ I h) fun v s1 h1 => thn h1 fun itv s2 h2 => ?_
  refine comp_core (RR := fun acc C => compPost (model X.prog X.w) X.A X.xe none (EP X pins σ Q) acc C) hc B c1 c2 hk hg ht he h2 fun D C H' s' m J f nn q => ?_
  exact ⟨m, nn, fun h' sb => ⟨.ref D, H', J.turned (t' := s'.toks) (fun b o hb e => sb.extBut b o hb e) f.1 f.2.1 f.2.2.2.1 f.2.2.2.2.1 f.2.2.2.2.2, rfl, q⟩⟩
theorem ps_setC {i : Nat} {x : Str} {pos' spos : Pos} (hc : X.calm = true) (B : Blk X scope N n cap) (hN : X.N.Nodup) (hi : X.N[i]? = some x) (hx : X.env.scope.names.lookup x = some .local) (hit : PI X tg iter wi) (hk : KeepG n g)
    (hg : ∀ cl fp s H, PG (cxComp X N scope cl fp s H) tg g) (ht : ∀ cl fp s H, PTs (cxComp X N scope cl fp s H) ifs tt) (he : ∀ cl fp s H, PE (cxComp X N scope cl fp s H) elt te)
    (hsw : swapsWith (.ListComp elt [⟨tg, iter, ifs, 0⟩] scope pos) (some (.Name x pos')) spos.line X.env = pure true)
    (hs : ∀ x, foldedSetIterable iter X.env x = pure x := by intro _; rfl) :
    PS X (.Assign [.Name x pos'] (.ListComp elt [⟨tg, iter, ifs, 0⟩] scope pos) spos) (tAsg (tComp n cap wi g tt te) (gName i)) := by
  intro pins s σ H D I h
  obtain ⟨cl, ecl, c1, c2⟩ := closure_ok (scope := scope) (env := X.env) fun y hy k => I.ok.has y.1 (B.free y hy k)
  rw [exec_Assign_Name_used _ _ _ _ hsw]
  refine wpAny_bind (wpAny_standAt (wpAny_bind ?_))
  show wpAny _ X.A (do
    let _ ← comprehension (.ListComp elt [⟨tg, iter, ifs, 0⟩] scope pos) scope X.env _ (newList []) false (eval iter X.env)
      (some (assign (.Name x pos') X.env))) _ _ s
  refine wpAny_bind (thn (wpAny_comprehension_free (use := some (assign (.Name x pos') X.env)) (Q := fun _ s' => SP X pins D .next s') rfl hs ecl B.kind B.names ?_) fun _ s' hq => wpAny_pure (wpAny_pure hq))
  refine thn (hit pins s σ H _ I h) fun v s1 h1 => thn h1 fun itv s2 h2 => ?_
  refine comp_core (Q := fun y H2 => gName i y σ H2 D.nx) (RR := fun acc C => compPost (model X.prog X.w) X.A X.xe (some (assign (.Name x pos') X.env)) (fun _ s' => SP X pins D .next s') acc C) hc B c1 c2 hk hg ht he h2 fun Dl C H' s' m J f nn q => ?_
  show wpAny (model X.prog X.w) X.A (assign (.Name x pos') X.env (.ref Dl)) _ X.xe s'
  refine wpAny_assign_Name (store_ok2 J hN hi (.inl hx) (show RelV (.ref Dl) (.ref Dl) from rfl) (fun s3 I3 ⟨a, sb, ha⟩ => ?_) (.inr hx))
  have ca : C ≠ a := by
    rcases ha with e | e
    · rw [e]; exact f.2.1
    · exact fun z => f.2.2.2.2.1 x a e z.symm
  refine ⟨m, nn.sameBut sb ca, fun h' sb' => ⟨_, H', I3.turned (t' := s3.toks) (fun b o hb e => sb'.extBut b o hb e) f.1 f.2.1 f.2.2.2.1 f.2.2.2.2.1 f.2.2.2.2.2, q⟩⟩
end

section
variable {g : TG} {tt : TT} {te : TE} {n0 : Nat} {cap : List Nat} {σ : St} {Q : VK} {D : Addr} {H1 : Hp} {K : PySem.W.Frag}
theorem comp_range {lo : Int} {n : Nat} (Pv : Nat → Hp → Prop) (h0 : Pv 0 (upd H1 D (.lst [])))
    (hs : ∀ i H, i < n → Pv i H → g (.int (lo + i)) (blockSt n0 cap σ) H fun σ2 H2 => tt σ2 H2 fun b H3 => if b = true then te σ2 H3 fun y H4 => ∃ xs, H4 D = some (.lst xs) ∧ xs.length < sizeLine ∧ Pv (i + 1) (upd H4 D (.lst (xs ++ [y]))) else Pv (i + 1) H3)
    (hd : ∀ H, Pv n H → Q (.ref D) H) :
    compRun (Itr lo n) D n0 cap σ g tt te Q H1 := by
  refine ⟨fun i m H => m = n - i ∧ i ≤ n ∧ Pv i H, ⟨n, by simp, Nat.zero_le _, h0⟩, ?_⟩
  rintro i m H ⟨rfl, hi, p⟩
  by_cases hlt : i < n
  · refine .inr ⟨hlt, Pv (i + 1), fun H' p' => ⟨n - (i + 1), by omega, rfl, hlt, p'⟩, fun x H' y => ?_⟩
    obtain ⟨e1, e2⟩ := y
    subst e1 e2
    exact hs i _ hlt p
  · have e : i = n := by omega
    subst e
    exact .inl ⟨Nat.le_refl _, hd H p⟩
theorem comp_list {a : Addr} {xs : List V} (Pv : Nat → Hp → Prop) (h0 : Pv 0 (upd H1 D (.lst []))) (hl : ∀ i H, i ≤ xs.length → Pv i H → SqL K H a xs)
    (hs : ∀ i x H, xs[i]? = some x → Pv i H → g x (blockSt n0 cap σ) H fun σ2 H2 => tt σ2 H2 fun b H3 => if b = true then te σ2 H3 fun y H4 => ∃ xs, H4 D = some (.lst xs) ∧ xs.length < sizeLine ∧ Pv (i + 1) (upd H4 D (.lst (xs ++ [y]))) else Pv (i + 1) H3)
    (hd : ∀ H, Pv xs.length H → Q (.ref D) H) :
    compRun (Itl K a) D n0 cap σ g tt te Q H1 := by
  refine ⟨fun i m H => m = xs.length - i ∧ i ≤ xs.length ∧ Pv i H, ⟨xs.length, by simp, Nat.zero_le _, h0⟩, ?_⟩
  rintro i m H ⟨rfl, hi, p⟩
  have q := hl i H hi p
  by_cases hlt : i < xs.length
  · refine .inr ⟨⟨xs, xs[i], q, by simp [hlt]⟩, Pv (i + 1), fun H' p' => ⟨xs.length - (i + 1), by omega, rfl, hlt, p'⟩, fun x H' y => ?_⟩
    obtain ⟨e1, y⟩ := y
    subst e1
    exact hs i x _ (y xs q) p
  · have e : i = xs.length := by omega
    subst e
    exact .inl ⟨⟨xs, q, Nat.le_refl _⟩, hd H p⟩
theorem comp_tup {a : Addr} {xs : List V} (Pv : Nat → Hp → Prop) (h0 : Pv 0 (upd H1 D (.lst []))) (hl : ∀ i H, i ≤ xs.length → Pv i H → SqT K H a xs)
    (hs : ∀ i x H, xs[i]? = some x → Pv i H → g x (blockSt n0 cap σ) H fun σ2 H2 => tt σ2 H2 fun b H3 => if b = true then te σ2 H3 fun y H4 => ∃ xs, H4 D = some (.lst xs) ∧ xs.length < sizeLine ∧ Pv (i + 1) (upd H4 D (.lst (xs ++ [y]))) else Pv (i + 1) H3)
    (hd : ∀ H, Pv xs.length H → Q (.ref D) H) :
    compRun (Itt K a) D n0 cap σ g tt te Q H1 := by
  refine ⟨fun i m H => m = xs.length - i ∧ i ≤ xs.length ∧ Pv i H, ⟨xs.length, by simp, Nat.zero_le _, h0⟩, ?_⟩
  rintro i m H ⟨rfl, hi, p⟩
  have q := hl i H hi p
  by_cases hlt : i < xs.length
  · refine .inr ⟨⟨xs, xs[i], q, by simp [hlt]⟩, Pv (i + 1), fun H' p' => ⟨xs.length - (i + 1), by omega, rfl, hlt, p'⟩, fun x H' y => ?_⟩
    obtain ⟨e1, y⟩ := y
    subst e1
    exact hs i x _ (y xs q) p
  · have e : i = xs.length := by omega
    subst e
    exact .inl ⟨⟨xs, q, Nat.le_refl _⟩, hd H p⟩
end
end L2
namespace L2
open PySem PySem.Spec PyProof.Rows

theorem Inv.laidC {X : Cx} {pins : List (Addr × Obj)} {σ : St} {H : Hp} {s : Shared} {h' : Heap} {a : Addr} {o : HO} {t' : Nat} {ch : List Addr} (I : Inv X pins σ H s)
    (hch : ∀ b ∈ ch, FpOk X pins H b) (k : ∀ b u, b ∉ ch → s.heap.get? b = some u → h'.get? b = some u) (hp : s.heap.objs.size ≤ a)
    (new : ObjOk X.prog X.w (upd H a o) h' a o) : Inv X pins σ (upd H a o) { s with heap := h', toks := t' } := by
  have hn := I.hok.fresh hp
  have nch : ∀ c u, H c = some u → c ∉ ch := fun c u e z => by rw [(hch c z).1] at e; cases e
  refine I.step (g' := s.gens) (d' := s.drawn) (ch := ch) (fun b hb => ⟨(hch b hb).2.2.2.1, (hch b hb).2.1, (hch b hb).2.2.2.2.1, (hch b hb).2.2.2.2.2⟩)
    (fun b u _ _ hc e _ => k b u hc e) (fun b u _ _ hc e _ => ⟨u.slots, k b u hc e⟩)
    (fun b u _ e n => by rw [upd_ne (Nat.ne_of_lt (Nat.lt_of_lt_of_le (Heap.lt_size e) hp))]; exact n) (fun b u hc e => ⟨u, k b u hc e⟩)
    (fun b xs q => by rw [upd_ne (ne_of_none q hn)]; exact q) (fun b u xs q => by rw [upd_ne (ne_of_none q hn)]; exact q)
    (fun b ps q => ⟨#[], by rw [upd_ne (ne_of_none q hn), q]; simp⟩) (fun m hm => ?_) (fun b u e => ?_) I.bare
  · exact hm.at' fun ob e => k _ ob (fun z => (hch _ z).2.1 rfl) e
  · by_cases hb : b = a
    · subst hb; rw [upd_same] at e; cases e; exact new
    · rw [upd_ne hb] at e
      refine (I.hok b u e).stay (fun c v hc q => k c v ?_ q) (fun c q => by rw [upd_ne (ne_of_none q hn)]; exact q) fun c xs q => q.upd hn
      rcases hc with rfl | hc
      · exact nch _ _ e
      · exact nch _ _ hc

noncomputable def Ite (K : PySem.W.Frag) (a : Addr) : It :=
  ⟨fun i H => ∃ xs x, SqL K H a xs ∧ xs[i]? = some x,
   fun i H v H' => ∃ T x, H T = none ∧ v = .ref T ∧ H' = upd H T (.tup [.int i, x]) ∧ ∀ xs, SqL K H a xs → xs[i]? = some x,
   fun i H => ∃ xs, SqL K H a xs ∧ xs.length ≤ i⟩

theorem turn_enum {P : Program} {w : World} {K : PySem.W.Frag} {elts : List Expr} {k : Nat} {tp : Pos} (a e it : Addr) (hne : e ≠ it) :
    Turn P w K (.Tuple elts k tp) (Ite K a) [e, it] e (fun i h => (∃ old, IsEnum h e it (i : Nat) old) ∧ h.IsListIter it a i) where
  mem := by simp
  obj := fun i h st b hb => by
    obtain ⟨⟨old, he⟩, o, eo, c, d⟩ := st
    rcases List.mem_cons.mp hb with rfl | hb
    · exact ⟨_, he, fun v z => nomatch z⟩
    · have q : b = it := by simpa using hb
      subst q
      exact ⟨o, eo, fun v z => by rw [d] at z; cases z⟩
  keep := fun i h h' st k => by
    obtain ⟨⟨old, he⟩, hit⟩ := st
    exact ⟨⟨old, k e (by simp) _ he⟩, hit.at fun o q => k it (by simp) o q⟩
  item := by
    intro X hP hw hK hc i pins s σ H E I hf st hg
    subst hP hw hK
    obtain ⟨⟨old, he⟩, hit⟩ := st
    obtain ⟨xs, x, hq, hx⟩ := hg
    obtain ⟨its, rv, p, hz⟩ := I.list hq
    obtain ⟨u, hu, ru⟩ := rv.get hx
    have fe := hf e (by simp)
    have fi := hf it (by simp)
    refine wpAny_pyNext_enum_item he hit p.isList (x := u) (by simpa using hu) hne fun h' ho hit' hT hsz hk => ?_
    have eT : e ≠ s.heap.objs.size := Nat.ne_of_lt (Heap.lt_size he)
    have iT : it ≠ s.heap.objs.size := by
      obtain ⟨o, eo, _⟩ := hit
      exact Nat.ne_of_lt (Heap.lt_size eo)
    have I1 : Inv X pins σ (upd H s.heap.objs.size (.tup [.int i, x])) { s with heap := h', toks := s.toks + 1 } :=
      I.laidC (ch := [e, it]) hf (fun b v hb q => hk b v (fun z => hb (by simp [z])) (fun z => hb (by simp [z])) q) (Nat.le_refl _)
        ⟨(by show 2 ≤ sizeLine; decide), [.int i s.toks, u], .cons ⟨_, rfl⟩ (.cons ru .nil), _, hT, rfl, _, rfl⟩
    refine ⟨_, rfl, wpAny_letOwnedTupleGo_enum ho fun h2 he2 sb2 => ?_⟩
    have I2 : Inv X pins σ (upd H s.heap.objs.size (.tup [.int i, x])) { s with heap := h2, toks := s.toks + 1 } :=
      I1.turned (t' := s.toks + 1) (fun b o hb q => (sb2.2 b hb).trans q) (by rw [upd_ne eT]; exact fe.1) fe.2.1 fe.2.2.2.1 fe.2.2.2.2.1 fe.2.2.2.2.2
    refine ⟨.ref s.heap.objs.size, _, I2, rfl, ⟨_, x, I.hok.fresh (Nat.le_refl _), rfl, rfl, fun ys hy => by rw [I.list_inj hy hq]; exact hx⟩, ⟨⟨u, ?_⟩, ?_⟩, fun b hb => ?_⟩
    · have : (((i + 1 : Nat)) : Int) = (i : Int) + 1 := by omega
      rw [this]
      exact he2
    · exact hit'.extBut sb2.extBut (Ne.symm hne)
    · rcases List.mem_cons.mp hb with rfl | hb
      · rw [upd_ne eT]; exact fe.1
      · have q : b = it := by simpa using hb
        subst q
        rw [upd_ne iT]; exact fi.1
  done := by
    intro X hP hw hK hc i pins s σ H E I hf st hg
    subst hP hw hK
    obtain ⟨⟨old, he⟩, hit⟩ := st
    obtain ⟨xs, hq, hx⟩ := hg
    obtain ⟨its, rv, p, hz⟩ := I.list hq
    have fi := hf it (by simp)
    have hl := rv.length
    exact wpAny_pyNext_enum_end (I.ok.hd hc) he hit p.isList (by simp; omega) fun h' eb =>
      ⟨rfl, I.turned (t' := s.toks) (fun b o hb q => eb b o hb q) fi.1 fi.2.1 fi.2.2.2.1 fi.2.2.2.2.1 fi.2.2.2.2.2⟩
  self := fun _ _ _ _ _ st h => by
    obtain ⟨⟨old, he⟩, _⟩ := st
    exact wpAny_pyIter_enum he h

noncomputable def iEnum (K : PySem.W.Frag) (ta : TA) : TI := fun σ H R => ta σ H fun vs H1 => ∃ l, vs = [.ref l] ∧ (∃ xs, SqL K H1 l xs) ∧ R (Ite K l) H1
theorem pi_enum {X : Cx} {a : Expr} {ta : TA} {p pos tp : Pos} {elts : List Expr} {k : Nat} (hg : Gl X "enumerate") (hm : X.mg "enumerate" = none) (ha : PA X [a] ta)
    (hs : starEach [a] X.env = [(false, eval a X.env)] := by rfl) : PI X (.Tuple elts k tp) (.Call (.Name "enumerate" p) [a] [] pos) (iEnum X.K ta) := by
  intro pins s σ H R I h
  refine Call_ (ld_blt I hg hm boot_enumerate (PyProof.Rows.callWith_type1 (thn (ha pos pins s σ H _ I h) fun us s1 ⟨vs, H1, I1, r1, q1⟩ => ?_) hs rfl))
  obtain ⟨l, e, ⟨xs, hq⟩, q⟩ := q1
  subst e
  cases r1 with
  | cons r rr =>
    cases rr
    cases r
    obtain ⟨its, rv, pl, hz⟩ := I1.list hq
    refine call_enumerate_list pl.isList fun h' he hit hz' hk => ?_
    refine wpAny_pyIter_enum he ?_
    refine ⟨s1.heap.objs.size + 1, [s1.heap.objs.size + 1, s1.heap.objs.size], _, _, H1, rfl, I1.kept (t' := s1.toks) hk, turn_enum l _ _ (Nat.succ_ne_self _), ⟨⟨_, he⟩, hit⟩, fun b hb => ?_, q⟩
    have le : s1.heap.objs.size ≤ b := by
      rcases List.mem_cons.mp hb with z | hb
      · rw [z]; exact Nat.le_succ _
      · have z : b = s1.heap.objs.size := by simpa using hb
        rw [z]; exact Nat.le_refl _
    exact I1.fpOk le (I1.hok.fresh le)

theorem for_enum {K : PySem.W.Frag} {a : Addr} {xs : List V} {g : TG} {tb : TS} {D : Ends} {σ : St} {H : Hp} (Pv : Nat → St → Hp → Prop) (h0 : Pv 0 σ H)
    (hl : ∀ i σ H, i ≤ xs.length → Pv i σ H → SqL K H a xs)
    (hs : ∀ i x σ H T, xs[i]? = some x → Pv i σ H → H T = none → g (.ref T) σ (upd H T (.tup [.int i, x])) fun σ2 H2 => tb { D with nx := Pv (i + 1), ct := Pv (i + 1), bk := D.nx } σ2 H2)
    (hd : ∀ σ H, Pv xs.length σ H → D.nx σ H) :
    ∃ W : Nat → Nat → St → Hp → Prop, (∃ m, W 0 m σ H) ∧ ∀ i m σ H, W i m σ H →
      ((Ite K a).stop i H ∧ D.nx σ H) ∨ ((Ite K a).go i H ∧ ∃ N : St → Hp → Prop, (∀ σ' H', N σ' H' → ∃ m', m' < m ∧ W (i + 1) m' σ' H') ∧
        ∀ x H', (Ite K a).yld i H x H' → g x σ H' fun σ2 H2 => tb { D with nx := N, ct := N, bk := D.nx } σ2 H2) := by
  refine ⟨fun i m σ H => m = xs.length - i ∧ i ≤ xs.length ∧ Pv i σ H, ⟨xs.length, by simp, Nat.zero_le _, h0⟩, ?_⟩
  rintro i m σ H ⟨rfl, hi, p⟩
  have q := hl i σ H hi p
  by_cases hlt : i < xs.length
  · refine .inr ⟨⟨xs, xs[i], q, by simp [hlt]⟩, Pv (i + 1), fun σ' H' p' => ⟨xs.length - (i + 1), by omega, rfl, hlt, p'⟩, fun x H' y => ?_⟩
    obtain ⟨T, z, hT, e1, e2, y⟩ := y
    subst e1 e2
    exact hs i z σ H T (y xs q) p hT
  · have e : i = xs.length := by omega
    subst e
    exact .inl ⟨⟨xs, q, Nat.le_refl _⟩, hd σ H p⟩
end L2
namespace L2
open PySem PySem.Spec PyProof.Rows
open PySem.W (Dat kqdP kqdPs kqdOk)

mutual
inductive Rep (K : PySem.W.Frag) (H : Hp) : V → Dat → Prop
  | non : Rep K H .non .none
  | bl (b : Bool) : Rep K H (.bl b) (.bool b)
  | int (i : Int) : Rep K H (.int i) (.int i)
  | str (x : Str) : Rep K H (.str x) (.str x)
  | tup {a : Addr} {xs : List V} {ds : List Dat} : SqT K H a xs → Reps K H xs ds → Rep K H (.ref a) (.tuple ds)
  | lst {a : Addr} {xs : List V} {ds : List Dat} : SqL K H a xs → Reps K H xs ds → Rep K H (.ref a) (.list ds)
inductive Reps (K : PySem.W.Frag) (H : Hp) : List V → List Dat → Prop
  | nil : Reps K H [] []
  | cons {x : V} {xs : List V} {d : Dat} {ds : List Dat} : Rep K H x d → Reps K H xs ds → Reps K H (x :: xs) (d :: ds)
end

theorem Same.seqT {K : PySem.W.Frag} {H H' : Hp} {a : Addr} {xs : List V} (e : Same H H') (h : SqT K H a xs) : SqT K H' a xs := by
  rcases h with h | h
  · rcases h with h | ⟨o, h⟩
    · exact .inl (.inl (e _ _ h))
    · exact .inl (.inr ⟨o, e _ _ h⟩)
  · exact .inr h
mutual
theorem Rep.mono {K : PySem.W.Frag} {H H' : Hp} (s : Same H H') : ∀ {v : V} {d : Dat}, Rep K H v d → Rep K H' v d
  | _, _, .non => .non
  | _, _, .bl b => .bl b
  | _, _, .int i => .int i
  | _, _, .str x => .str x
  | _, _, .tup h r => .tup (s.seqT h) (Reps.mono s r)
  | _, _, .lst h r => .lst (s.seq h) (Reps.mono s r)
theorem Reps.mono {K : PySem.W.Frag} {H H' : Hp} (s : Same H H') : ∀ {vs : List V} {ds : List Dat}, Reps K H vs ds → Reps K H' vs ds
  | _, _, .nil => .nil
  | _, _, .cons h r => .cons (Rep.mono s h) (Reps.mono s r)
end
theorem Reps.length {K : PySem.W.Frag} {H : Hp} : ∀ {vs : List V} {ds : List Dat}, Reps K H vs ds → vs.length = ds.length
  | _, _, .nil => rfl
  | _, _, .cons _ r => congrArg Nat.succ (Reps.length r)
theorem Reps.get {K : PySem.W.Frag} {H : Hp} : ∀ {vs : List V} {ds : List Dat} {i : Nat} {v : V}, Reps K H vs ds → vs[i]? = some v → ∃ d, ds[i]? = some d ∧ Rep K H v d
  | _, _, _, _, .nil, e => by simp at e
  | _, _, 0, _, .cons h _, e => by simp at e; subst e; exact ⟨_, rfl, h⟩
  | _, _, i + 1, v, .cons _ r, e => by
    obtain ⟨d, h1, h2⟩ := Reps.get (i := i) (v := v) r (by simpa using e)
    exact ⟨d, by simpa using h1, h2⟩
theorem Reps.getD {K : PySem.W.Frag} {H : Hp} : ∀ {vs : List V} {ds : List Dat} {i : Nat} {d : Dat}, Reps K H vs ds → ds[i]? = some d → ∃ v, vs[i]? = some v ∧ Rep K H v d
  | _, _, _, _, .nil, e => by simp at e
  | _, _, 0, _, .cons h _, e => by simp at e; subst e; exact ⟨_, rfl, h⟩
  | _, _, i + 1, v, .cons _ r, e => by
    obtain ⟨d, h1, h2⟩ := Reps.getD (i := i) (d := v) r (by simpa using e)
    exact ⟨d, by simpa using h1, h2⟩
theorem Reps.append {K : PySem.W.Frag} {H : Hp} : ∀ {vs us : List V} {ds es : List Dat}, Reps K H vs ds → Reps K H us es → Reps K H (vs ++ us) (ds ++ es)
  | _, _, _, _, .nil, s => s
  | _, _, _, _, .cons h r, s => .cons h (Reps.append r s)
theorem Reps.snoc {K : PySem.W.Frag} {H : Hp} {vs : List V} {ds : List Dat} {v : V} {d : Dat} (r : Reps K H vs ds) (h : Rep K H v d) : Reps K H (vs ++ [v]) (ds ++ [d]) := r.append (.cons h .nil)
theorem Reps.ints {K : PySem.W.Frag} {H : Hp} : ∀ ns : List Int, Reps K H (ns.map V.int) (ns.map Dat.int)
  | [] => .nil
  | n :: r => .cons (.int n) (Reps.ints r)

section
variable {X : Cx} {pins : List (Addr × Obj)} {σ : St} {H : Hp} {s : Shared}
mutual
theorem Rep.reads (I : Inv X pins σ H s) : ∀ (n : Nat) {v : V} {d : Dat} {u : Value}, Rep X.K H v d → RelV v u → kqdOk n d = true → ∃ as, Reads s.heap u (kqdP d) as
  | _, _, _, _, .non, r, _ => by cases (show _ = _ from r); exact ⟨_, Reads.none⟩
  | _, _, _, _, .bl b, r, _ => by cases (show _ = _ from r); exact ⟨_, Reads.bool b⟩
  | _, _, _, _, .int i, r, _ => by obtain ⟨t, rfl⟩ := r; exact ⟨_, Reads.int i t⟩
  | _, _, _, _, .str x, r, _ => by obtain ⟨t, rfl⟩ := r; exact ⟨_, Reads.str x t⟩
  | 0, _, _, _, .tup _ _, _, hk => by simp [kqdOk] at hk
  | 0, _, _, _, .lst _ _, _, hk => by simp [kqdOk] at hk
  | n + 1, _, _, _, .tup h q, r, hk => by
    cases (show _ = _ from r)
    obtain ⟨its, rv, ⟨o, e, c, m, d⟩, _⟩ := I.tuple h
    obtain ⟨as, z⟩ := Reps.reads I n q rv (by simpa [kqdOk] using hk)
    rw [kqdP]
    exact ⟨as, reads_tuple_at e c d (by simpa using z)⟩
  | n + 1, _, _, _, .lst h q, r, hk => by
    cases (show _ = _ from r)
    obtain ⟨its, rv, ⟨o, m, e, c, _, d⟩, _⟩ := I.list h
    obtain ⟨as, z⟩ := Reps.reads I n q rv (by simpa [kqdOk] using hk)
    rw [kqdP]
    exact ⟨_, reads_list_at e c d (by simpa using z)⟩
theorem Reps.reads (I : Inv X pins σ H s) : ∀ (n : Nat) {vs : List V} {ds : List Dat} {us : List Value}, Reps X.K H vs ds → Vals vs us → (∀ d ∈ ds, kqdOk n d = true) → ∃ as, ReadsAll s.heap us (kqdPs ds) as
  | _, _, _, _, .nil, r, _ => by cases r; exact ⟨_, ReadsAll.nil⟩
  | n, _, _, _, .cons h q, r, hk => by
    cases r with
    | cons r1 r2 =>
      obtain ⟨as, z⟩ := Rep.reads I n h r1 (hk _ (.head _))
      obtain ⟨bs, y⟩ := Reps.reads I n q r2 fun d hm => hk d (.tail _ hm)
      rw [kqdPs]
      exact ⟨_, ReadsAll.cons z y⟩
end
end

noncomputable def rEqD (K : PySem.W.Frag) (neg : Bool) : R2 := fun x y H Q => ∃ dx dy, Rep K H x dx ∧ Rep K H y dy ∧ kqdOk 8 dx = true ∧ kqdOk 8 dy = true ∧ (dx = dy → Q (.bl (!neg)) H) ∧ (dx ≠ dy → Q (.bl neg) H)
section
variable {X : Cx}
theorem shaped_of {d : Dat} (h : kqdOk 8 d = true) : SeqAt.shaped (kqdP d) = true := by
  have l := PySem.W.kqd_lay 8 d h
  unfold SeqAt.shaped
  rw [l.1, Bool.true_and]
  exact decide_eq_true (Nat.le_trans l.2 (by decide))
theorem op_eqD (hu : X.A.units + 64 < cLine) : OpR X (compareOp .Eq) (rEqD X.K false) := by
  intro pins s σ H x y v u Q I rx ry ⟨dx, dy, hx, hy, kx, ky, q1, q2⟩
  obtain ⟨as, ra⟩ := Rep.reads I 8 hx rx kx
  obtain ⟨bs, rb⟩ := Rep.reads I 8 hy ry ky
  have e := PySem.W.kqd_eqv 8 dx dy 8 kx ky
  refine eq_dataH ra rb (shaped_of kx) (shaped_of ky) hu ?_
  cases z : PyData.eqv (kqdP dx) (kqdP dy) with
  | true => exact ⟨.bl true, H, I, rfl, q1 (e.mp z)⟩
  | false => exact ⟨.bl false, H, I, rfl, q2 fun w => by rw [e.mpr w] at z; cases z⟩
theorem op_neD (hu : X.A.units + 64 < cLine) : OpR X (compareOp .NotEq) (rEqD X.K true) := by
  intro pins s σ H x y v u Q I rx ry ⟨dx, dy, hx, hy, kx, ky, q1, q2⟩
  obtain ⟨as, ra⟩ := Rep.reads I 8 hx rx kx
  obtain ⟨bs, rb⟩ := Rep.reads I 8 hy ry ky
  have e := PySem.W.kqd_eqv 8 dx dy 8 kx ky
  refine ne_dataH ra rb (shaped_of kx) (shaped_of ky) hu ?_
  cases z : PyData.eqv (kqdP dx) (kqdP dy) with
  | true => exact ⟨.bl false, H, I, rfl, q1 (e.mp z)⟩
  | false => exact ⟨.bl true, H, I, rfl, q2 fun w => by rw [e.mpr w] at z; cases z⟩
noncomputable def CBits (i j : Int) : Prop := Builtin.Int.intBits i ≤ 2 ^ 20 ∧ Builtin.Int.intBits j ≤ 2 ^ 20
theorem op_mulB : OpR X (binaryOp .Mult) (rI CBits fun i j => .int (i * j)) := opI fun i j t u s Q E h q => mul_int q (IntMulOk.of_bits h.1 h.2)
theorem bits_of {i : Int} {k : Nat} (hk : k ≤ 2 ^ 20) (h1 : -(2 ^ k) < i) (h2 : i < 2 ^ k) : Builtin.Int.intBits i ≤ 2 ^ 20 := by
  unfold Builtin.Int.intBits
  split
  · exact Nat.zero_le _
  · rename_i h0
    have hn : i.natAbs < 2 ^ k := by
      have e : ((2 ^ k : Nat) : Int) = 2 ^ k := by norm_cast
      omega
    have : i.natAbs.log2 < k := by
      refine (Nat.log2_lt ?_).mpr hn
      intro z
      simp at h0
      omega
    omega
end
end L2
namespace L2
open PySem PySem.Spec PyProof.Rows
section
variable {X : Cx} {K : PySem.W.Frag}
theorem ix_listK (h : X.K = K := by rfl) : IxR X (rIxL K) := by subst h; exact ix_list
theorem call_len_seqK (h : X.K = K := by rfl) : CallR X (.builtin "len") (fun xs H Q => ∃ p ys, xs = [.ref p] ∧ (SqL K H p ys ∨ SqT K H p ys) ∧ Q (.int ys.length) H) := by subst h; exact call_len_seq
theorem op_in_seqK (h : X.K = K := by rfl) : OpR X (compareOp .In) (rIn K false) := by subst h; exact op_in_seq
theorem op_neDK (hu : X.A.units + 64 < cLine) (h : X.K = K := by rfl) : OpR X (compareOp .NotEq) (rEqD K true) := by subst h; exact op_neD hu
theorem sl_listK (h : X.K = K := by rfl) : SlR X (rSlL K) := by subst h; exact sl_list
theorem pi_listK {tg l : Expr} {tl : TE} (hl : PE X l tl) (h : X.K = K := by rfl) : PI X tg l (iList K tl) := by subst h; exact pi_list hl
theorem pg_tupK {es : List Expr} {k : Nat} {t : TGs} {n : Nat} {pos : Pos} (hc : X.calm = true) (h : PGs X es t) (hK : X.K = K := by rfl)
    (hn : (assignEach es X.env).length = n := by rfl) (hst : (assignEach es X.env).findIdx? (·.1) = none := by rfl) : PG X (.Tuple es k pos) (gTup K n t) := by subst hK; exact pg_tup hc h hn hst
end
end L2
namespace L2
open PySem PySem.Spec PyProof.Rows
structure Bx (p : Prop) : Prop where
  get : p
section
variable {X : Cx} {a b c e l o i f elt tg iter target value : Expr} {es ts rest : List Expr} {st : Stmt} {sts body els : List Stmt} {ta tb tc te td ty tx tv tl to ti : TE} {tA tB' : TT} {t tr : TA} {s u tb' : TS} {g : TG} {gs : TGs} {wi : TI} {tt : TT}
  {pos apos cpos p pos' spos : Pos} {op op' : CmpOp} {bop : Operator} {r r' : R2} {lo hi : Option Expr} {tlo thi : TO}
theorem bpv (k : Nat) {x : Str} {pos : Pos} (hN : X.N[k]? = some x := by rfl) (hv : Vis X.env.scope x := by first | exact Or.inl rfl | exact Or.inr (Or.inl rfl) | exact Or.inr (Or.inr rfl))
    (hd : (x == ("__debug__" : Str)) = false := by decide) (hcd : (x == ("__classdict__" : Str)) = false := by decide) : Bx (PE X (.Name x pos) (tVar k)) := ⟨pe_var hN hv hd hcd⟩
theorem bpe_int {k : Int} {j pos} : Bx (PE X (.Constant (.int k) j pos) (tC (.int k))) := ⟨pe_int⟩
theorem bpe_bl {k : Bool} {j pos} : Bx (PE X (.Constant (.bool k) j pos) (tC (.bl k))) := ⟨pe_bl⟩
theorem bpe_non {j pos} : Bx (PE X (.Constant .none j pos) (tC .non)) := ⟨pe_non⟩
theorem bpe_str {x : Str} {j pos} : Bx (PE X (.Constant (.str x) j pos) (tC (.str x))) := ⟨pe_str⟩
theorem bpe_glob {x : Str} {v : V} {w : Value} {pos : Pos} (hg : Gl X x) (hm : X.mg x = some w) (r : RelV v w) (hd : (x == ("__debug__" : Str)) = false := by decide) : Bx (PE X (.Name x pos) (tC v)) := ⟨pe_glob hg hm r hd⟩
theorem bpe_bltn {x : Str} {v : V} {w : Value} {pos : Pos} (hg : Gl X x) (hm : X.mg x = none) (hv : bootBuiltins x = some w) (r : RelV v w) (hn : x ≠ "__name__" := by decide) (hd : (x == ("__debug__" : Str)) = false := by decide) : Bx (PE X (.Name x pos) (tC v)) := ⟨pe_bltn hg hm hv r hn hd⟩
theorem bpe_op (ho : OpR X (binaryOp bop) r) (ha : Bx (PE X a ta)) (hb : Bx (PE X b tb)) : Bx (PE X (.BinOp a bop b pos) (tOp r ta tb)) := ⟨pe_op ho ha.1 hb.1⟩
theorem bpe_un {uop : UnaryOp} {r : V → Hp → VK → Prop} (ho : UnR X (unaryOp uop) r) (ha : Bx (PE X a ta)) : Bx (PE X (.UnaryOp uop a pos) (tUn r ta)) := ⟨pe_un ho ha.1⟩
theorem bpe_cmpR (ho : OpR X (compareOp op) r) (ha : Bx (PE X a ta)) (hb : Bx (PE X b tb)) (hm : behindInMarks op b = false) : Bx (PE X (.Compare a [op] [b] pos) (tOp r ta tb)) := ⟨pe_cmpR ho ha.1 hb.1 hm⟩
theorem bpt_cmpR (ho : OpR X (compareOp op) r) (ha : Bx (PE X a ta)) (hb : Bx (PE X b tb)) (hm : behindInMarks op b = false) : Bx (PT X (.Compare a [op] [b] pos) (tTest (tOp r ta tb))) := ⟨pt_cmpR ho ha.1 hb.1 hm⟩
theorem bpe_chain (ho : OpR X (compareOp op) r) (ho' : OpR X (compareOp op') r') (ha : Bx (PE X a ta)) (hb : Bx (PE X b tb)) (hc : Bx (PE X c tc)) (hm : lastMarks [op, op'] [b, c] = false := by with_unfolding_all rfl) : Bx (PE X (.Compare a [op, op'] [b, c] pos) (tChain r r' ta tb tc)) := ⟨pe_chain ho ho' ha.1 hb.1 hc.1 hm⟩
theorem bpt_chain (ho : OpR X (compareOp op) r) (ho' : OpR X (compareOp op') r') (ha : Bx (PE X a ta)) (hb : Bx (PE X b tb)) (hc : Bx (PE X c tc)) (hm : lastMarks [op, op'] [b, c] = false := by with_unfolding_all rfl) : Bx (PT X (.Compare a [op, op'] [b, c] pos) (tTest (tChain r r' ta tb tc))) := ⟨pt_chain ho ho' ha.1 hb.1 hc.1 hm⟩
theorem bpc_isN {j pos'} (ha : Bx (PE X a ta)) : Bx (PC X .Is a (.Constant .none j pos') (tIsN ta)) := ⟨pc_isN ha.1⟩
theorem bpc_dnotin (hu : X.A.units + 1 < cLine) (hi : Bx (PE X i ty)) (ho : Bx (PE X o td)) : Bx (PC X .NotIn i o (tDNotIn ty td)) := ⟨pc_dnotin hu hi.1 ho.1⟩
theorem bpt_cmp (h : Bx (PC X op a b te)) (h1 : behindInMarks op b = false := by first | exact nobehind _ (by decide) (by decide) | rfl) : Bx (PT X (.Compare a [op] [b] pos) (tB te)) := ⟨pt_cmp h.1 h1⟩
theorem bpt_val (h : Bx (PE X e te)) (he : ∀ whole, isTrue e X.env whole = (do let v ← whole; standAt e.pos; holding [v] (truthy v)) := by intro _; rfl) : Bx (PT X e (tB te)) := ⟨pt_val h.1 he⟩
theorem bPW_pt (h : Bx (PW X e tt)) : Bx (PT X e tt) := ⟨h.1.pt⟩
theorem bpw_and1 (ha : Bx (PT X a tA)) : Bx (PW X (.BoolOp .And [a] pos) tA) := ⟨pw_and1 ha.1⟩
theorem bpw_or1 (ha : Bx (PT X a tA)) : Bx (PW X (.BoolOp .Or [a] pos) tA) := ⟨pw_or1 ha.1⟩
theorem bpw_and (ha : Bx (PT X a tA)) (hb : Bx (PW X (.BoolOp .And (b :: rest) pos) tB')) : Bx (PW X (.BoolOp .And (a :: b :: rest) pos) (tAnd tA tB')) := ⟨pw_and ha.1 hb.1⟩
theorem bpw_or (ha : Bx (PT X a tA)) (hb : Bx (PW X (.BoolOp .Or (b :: rest) pos) tB')) : Bx (PW X (.BoolOp .Or (a :: b :: rest) pos) (tOr tA tB')) := ⟨pw_or ha.1 hb.1⟩
theorem bpt_not (ha : Bx (PT X a tA)) : Bx (PT X (.UnaryOp .Not a pos) (tNot tA)) := ⟨pt_not ha.1⟩
theorem bpa_nil : Bx (PA X [] tNil) := ⟨pa_nil⟩
theorem bpa_cons (ha : Bx (PE X e te)) (hr : Bx (PA X es t)) (hs : starEach (e :: es) X.env = (false, eval e X.env) :: starEach es X.env := by rfl) : Bx (PA X (e :: es) (tCons te t)) := ⟨pa_cons ha.1 hr.1 hs⟩
theorem bpe_tup {x1} (h : Bx (PA X es t)) : Bx (PE X (.Tuple es x1 pos) (tTup t)) := ⟨pe_tup h.1⟩
theorem bpe_lst (h : Bx (PA X es t)) : Bx (PE X (.List es pos) (tLst t)) := ⟨pe_lst h.1⟩
theorem bpe_ix (hr : IxR X r) (ha : Bx (PE X a ta)) (hb : Bx (PE X b tb)) (hs : PlainIx b) : Bx (PE X (.Subscript a b pos) (tOp r ta tb)) := ⟨pe_ix hr ha.1 hb.1 hs⟩
theorem bpe_dget (hu : X.A.units + 1 < cLine) (ho : Bx (PE X o td)) (hi : Bx (PE X i ty)) (hs : NoSl i) : Bx (PE X (.Subscript o i pos) (tDGet td ty)) := ⟨pe_dget hu ho.1 hi.1 hs⟩
theorem bpps_nil : Bx (PPs X pos [] [] []) := ⟨pps_nil⟩
theorem bpps_cons {ks : List (Option Expr)} {vs : List Expr} {trs : List (TE × TE)} (hk : Bx (PE X a ta)) (hv : Bx (PE X b tb)) (hr : Bx (PPs X pos ks vs trs)) : Bx (PPs X pos (some a :: ks) (b :: vs) ((ta, tb) :: trs)) := ⟨pps_cons hk.1 hv.1 hr.1⟩
theorem bpe_disp {keys : List (Option Expr)} {values : List Expr} {trs : List (TE × TE)} (h : Bx (PPs X pos keys values trs)) (hall : keys.all (·.isSome) = true) (hl : keys.length = values.length) (h0 : keys ≠ []) (h15 : keys.length ≤ 15) : Bx (PE X (.Dict keys values pos) (tDisp trs)) := ⟨pe_disp h.1 hall hl h0 h15⟩
theorem bpo_none : Bx (PO X none tNoPart) := ⟨po_none⟩
theorem bpo_some (h : Bx (PE X e te)) : Bx (PO X (some e) (tPart te)) := ⟨po_some h.1⟩
theorem bpe_slice {r : V → Option Int → Option Int → Hp → VK → Prop} {p2 : Pos} (hr : SlR X r) (he : Bx (PE X e te)) (hl : Bx (PO X lo tlo)) (hu : Bx (PO X hi thi)) : Bx (PE X (.Subscript e (.Slice lo hi none p2) pos) (tSl r te tlo thi)) := ⟨pe_slice hr he.1 hl.1 hu.1⟩
theorem bpe_callB {r : List V → Hp → VK → Prop} {x : Str} {id : String} (hc : CallR X (.builtin id) r) (hg : Gl X x) (hm : X.mg x = none) (hv : bootBuiltins x = some (.builtin id)) (ha : Bx (PA X (e :: es) t)) (hn : x ≠ "__name__" := by decide) (hdb : (x == ("__debug__" : Str)) = false := by decide)
    (he : starEach (e :: es) X.env = (false, eval e X.env) :: starEach es X.env := by rfl) (hpl : (backTo pos (starEach es X.env)).any (·.1) = false := by rfl) : Bx (PE X (.Call (.Name x p) (e :: es) [] pos) (tCB r t)) := ⟨pe_callB hc hg hm hv ha.1 hn hdb he hpl⟩
theorem bpe_callTy {r : List V → Hp → VK → Prop} {x : Str} {T : String} (hc : CallR X (.type T) r) (hg : Gl X x) (hm : X.mg x = none) (hv : bootBuiltins x = some (.type T)) (ha : Bx (PA X (e :: es) t)) (hn : x ≠ "__name__" := by decide) (hdb : (x == ("__debug__" : Str)) = false := by decide)
    (he : starEach (e :: es) X.env = (false, eval e X.env) :: starEach es X.env := by rfl) (hpl : (backTo pos (starEach es X.env)).any (·.1) = false := by rfl) : Bx (PE X (.Call (.Name x p) (e :: es) [] pos) (tCB r t)) := ⟨pe_callTy hc hg hm hv ha.1 hn hdb he hpl⟩
theorem bpe_call {CX : CXT} {k : Nat} {fa : Addr} {fd : FuncData} {ps : List Str} {sp : Sp} {dvs : List V} {ds : List Value} {E : XK} {x : Str} (F : FnOk X.prog X.w X.K X.mg X.base CX k fa fd ps sp) (hr : Room k X.A) (hg : Gl X x) (hm : X.mg x = some (.ref fa)) (hk : PySem.W.keepIn X.K (.ref fa) = true)
    (hb : Binds X.K fd ps ds) (hd : Vals dvs ds) (hx : Passes CX X E) (ha : Bx (PA X (e :: es) t)) (hdb : (x == ("__debug__" : Str)) = false := by decide)
    (he : starEach (e :: es) X.env = (false, eval e X.env) :: starEach es X.env := by rfl) (hpl : (backTo pos (starEach es X.env)).any (·.1) = false := by rfl) : Bx (PE X (.Call (.Name x p) (e :: es) [] pos) (tCall sp dvs E t)) := ⟨pe_call F hr hg hm hk hb hd hx ha.1 hdb he hpl⟩
theorem bpe_bm {name : Str} {T id : String} {r : V → List V → Hp → VK → Prop} (pa : PlainAttrs T) (slot : Slot T name id) (hty : typeOf (.builtin id) = pure (.type "method_descriptor")) (hm : MtR X id r) (ho : Bx (PE X o to)) (ha : Bx (PA X (e :: es) t))
    (h1 : attributeBase o name X.env (eval o X.env) = eval o X.env := by rfl)
    (h2 : ((backTo cpos (starEach (e :: es) X.env)).all (fun x => !x.1) && (backToKw cpos (keywordEach [] X.env)).all (fun x => x.1.isSome) && decide ((e :: es).length + ([] : List Keyword).length + (if ([] : List Keyword).isEmpty then 0 else 1) < 30)) = true := by rfl)
    (h3 : (apos.endLine == cpos.line) = true := by rfl) (h4 : starEach (e :: es) X.env = (false, eval e X.env) :: starEach es X.env := by rfl) (h5 : (backTo cpos (starEach es X.env)).any (·.1) = false := by rfl) :
    Bx (PE X (.Call (.Attribute o name apos) (e :: es) [] cpos) (tBM X.K T r to t)) := ⟨pe_bm pa slot hty hm ho.1 ha.1 h1 h2 h3 h4 h5⟩
theorem bpss_nil : Bx (PSs X [] tNext) := ⟨pss_nil⟩
theorem bpss_cons (h1 : Bx (PS X st s)) (h2 : Bx (PSs X sts u)) : Bx (PSs X (st :: sts) (tSeq s u)) := ⟨pss_cons h1.1 h2.1⟩
theorem bpss_one (h1 : Bx (PS X st s)) : Bx (PSs X [st] s) := ⟨pss_one h1.1⟩
theorem bps_never : Bx (PS X st tNever) := ⟨ps_never⟩
theorem bps_expr (he : Bx (PE X e te)) (hs : swapsWith e none pos.line X.env = pure false := by rfl) : Bx (PS X (.Expr e pos) (tDrop te)) := ⟨ps_expr he.1 hs⟩
theorem bps_ret (he : Bx (PE X e te)) : Bx (PS X (.Return (some e) pos) (tRet te)) := ⟨ps_ret he.1⟩
theorem bps_if (hc : Bx (PT X c tA)) (ha : Bx (PSs X body s)) (hb : Bx (PSs X els u)) : Bx (PS X (.If c body els pos) (tIfS tA s u)) := ⟨ps_if hc.1 ha.1 hb.1⟩
theorem bpg_name {k : Nat} {x : Str} (hN : X.N.Nodup) (hi : X.N[k]? = some x) (hx : Loc X.env.scope x) (hf : X.fn x = true ∨ X.env.scope.names.lookup x = some .local := by first | exact .inl rfl | exact .inr rfl | assumption) : Bx (PG X (.Name x pos) (gName k)) := ⟨pg_name hN hi hx hf⟩
theorem bpgs_nil : Bx (PGs X [] gNil) := ⟨pgs_nil⟩
theorem bpgs_cons (h1 : Bx (PG X e g)) (h2 : Bx (PGs X es gs)) (hs : (assignEach (e :: es) X.env).map (·.2) = assign e X.env :: (assignEach es X.env).map (·.2) := by rfl) : Bx (PGs X (e :: es) (gCons g gs)) := ⟨pgs_cons h1.1 h2.1 hs⟩
theorem bpg_tup {k n : Nat} (hc : X.calm = true) (h : Bx (PGs X es gs)) (hn : (assignEach es X.env).length = n := by rfl) (hst : (assignEach es X.env).findIdx? (·.1) = none := by rfl) : Bx (PG X (.Tuple es k pos) (gTup X.K n gs)) := ⟨pg_tup hc h.1 hn hst⟩
theorem bpg_tupK {K : PySem.W.Frag} {k n : Nat} (hc : X.calm = true) (h : Bx (PGs X es gs)) (hK : X.K = K := by rfl) (hn : (assignEach es X.env).length = n := by rfl) (hst : (assignEach es X.env).findIdx? (·.1) = none := by rfl) : Bx (PG X (.Tuple es k pos) (gTup K n gs)) := ⟨pg_tupK hc h.1 hK hn hst⟩
theorem bpg_sub {tset : TSet} (ho : Bx (PE X o to)) (hi : Bx (PE X i ti)) (hs : PSet X tset)
    (ha : ∀ v, assign (.Subscript o i pos) X.env v = (do
      let ov ← holding [v] (eval o X.env)
      let iv ← holding [v, ov] (eval i X.env)
      standAt pos
      holding [v, ov, iv] (setItem ov iv v)
      release [v, ov, iv] []) := by intro _; rfl) : Bx (PG X (.Subscript o i pos) (gSub to ti tset)) := ⟨pg_sub ho.1 hi.1 hs ha⟩
theorem bps_asg (he : Bx (PE X e te)) (hg : Bx (PG X tg g)) (hs : swapsWithSole [tg] e pos.line X.env = pure false := by rfl) (hw : swappedStores [tg] e X.env = pure none := by rfl)
    (h1 : (assignEach [tg] X.env).map (·.2) = [assign tg X.env] := by rfl) : Bx (PS X (.Assign [tg] e pos) (tAsg te g)) := ⟨ps_asg he.1 hg.1 hs hw h1⟩
theorem bps_set {k : Nat} {x : Str} (hN : X.N.Nodup) (hi : X.N[k]? = some x) (hx : Loc X.env.scope x) (he : Bx (PE X e te)) (hs : swapsWith e (some (.Name x pos')) pos.line X.env = pure false := by rfl) (hf : X.fn x = true ∨ X.env.scope.names.lookup x = some .local := by first | exact .inl rfl | exact .inr rfl | assumption) :
    Bx (PS X (.Assign [.Name x pos'] e pos) (tAsg te (gName k))) := ⟨ps_set hN hi hx he.1 hs hf⟩
theorem bps_for (hp : PassesOwn (model X.prog X.w) X.A X.env X.xe) (hc : X.calm = true) (hi : Bx (PI X tg iter wi)) (hg : Bx (PG X tg g)) (hb : Bx (PSs X body tb')) (hs : ∀ x, foldedSetIterable iter X.env x = pure x := by intro _; rfl) : Bx (PS X (.For tg iter body [] pos) (tFor wi g tb')) := ⟨ps_for hp hc hi.1 hg.1 hb.1 hs⟩
theorem bpi_list (hl : Bx (PE X l tl)) : Bx (PI X tg l (iList X.K tl)) := ⟨pi_list hl.1⟩
theorem bpi_tup (hl : Bx (PE X l tl)) : Bx (PI X tg l (iTup X.K tl)) := ⟨pi_tup hl.1⟩
theorem bpi_listK {K : PySem.W.Frag} (hl : Bx (PE X l tl)) (h : X.K = K := by rfl) : Bx (PI X tg l (iList K tl)) := ⟨pi_listK hl.1 h⟩
theorem bpi_range1 (hg : Gl X "range") (hm : X.mg "range" = none) (ha : Bx (PA X [a] t)) (hs : starEach [a] X.env = [(false, eval a X.env)] := by rfl) : Bx (PI X tg (.Call (.Name "range" p) [a] [] pos) (iRng1 t)) := ⟨pi_range1 hg hm ha.1 hs⟩
theorem bpi_enum {elts : List Expr} {k : Nat} {tp : Pos} (hg : Gl X "enumerate") (hm : X.mg "enumerate" = none) (ha : Bx (PA X [a] t)) (hs : starEach [a] X.env = [(false, eval a X.env)] := by rfl) : Bx (PI X (.Tuple elts k tp) (.Call (.Name "enumerate" p) [a] [] pos) (iEnum X.K t)) := ⟨pi_enum hg hm ha.1 hs⟩
theorem bpts_nil : Bx (PTs X [] tYes) := ⟨pts_nil⟩
theorem bpts_one (h : Bx (PT X c tA)) : Bx (PTs X [c] tA) := ⟨pts_one h.1⟩
theorem bpe_comp {ifs : List Expr} {scope : Scope} {N : List Str} {n : Nat} {cap : List Nat} (hc : X.calm = true) (B : Blk X scope N n cap) (hi : Bx (PI X tg iter wi)) (hk : KeepG n g)
    (hg : ∀ cl fp s H, Bx (PG (cxComp X N scope cl fp s H) tg g)) (ht : ∀ cl fp s H, Bx (PTs (cxComp X N scope cl fp s H) ifs tt)) (he : ∀ cl fp s H, Bx (PE (cxComp X N scope cl fp s H) elt te))
    (hs : ∀ x, foldedSetIterable iter X.env x = pure x := by intro _; rfl) : Bx (PE X (.ListComp elt [⟨tg, iter, ifs, 0⟩] scope pos) (tComp n cap wi g tt te)) :=
  ⟨pe_comp hc B hi.1 hk (fun cl fp s H => (hg cl fp s H).1) (fun cl fp s H => (ht cl fp s H).1) (fun cl fp s H => (he cl fp s H).1) hs⟩
theorem bps_setC {ifs : List Expr} {scope : Scope} {N : List Str} {n : Nat} {cap : List Nat} {k : Nat} {x : Str} (hc : X.calm = true) (B : Blk X scope N n cap) (hN : X.N.Nodup) (hi : X.N[k]? = some x) (hx : X.env.scope.names.lookup x = some .local) (hit : Bx (PI X tg iter wi)) (hk : KeepG n g)
    (hg : ∀ cl fp s H, Bx (PG (cxComp X N scope cl fp s H) tg g)) (ht : ∀ cl fp s H, Bx (PTs (cxComp X N scope cl fp s H) ifs tt)) (he : ∀ cl fp s H, Bx (PE (cxComp X N scope cl fp s H) elt te))
    (hsw : swapsWith (.ListComp elt [⟨tg, iter, ifs, 0⟩] scope pos) (some (.Name x pos')) spos.line X.env = pure true) (hs : ∀ x, foldedSetIterable iter X.env x = pure x := by intro _; rfl) :
    Bx (PS X (.Assign [.Name x pos'] (.ListComp elt [⟨tg, iter, ifs, 0⟩] scope pos) spos) (tAsg (tComp n cap wi g tt te) (gName k))) :=
  ⟨ps_setC hc B hN hi hx hit.1 hk (fun cl fp s H => (hg cl fp s H).1) (fun cl fp s H => (ht cl fp s H).1) (fun cl fp s H => (he cl fp s H).1) hsw hs⟩
end
section
variable {P : Program} {w : World} {K : PySem.W.Frag} {mg : Str → Option Value} {base : Heap}
theorem Fun.okB {x qual : Str} {st : Stmt} {f : Addr} {fd : FuncData} {N ps : List Str} {k : Nat} {sp : Sp} (F : Fun K x qual st f fd) (S : FnScope N ps (defScope st)) (len : ∀ vs H Q E, sp vs H Q E → vs.length = ps.length)
    (hbody : ∀ (cdv : Value) (A : Around) (outer : List Env) (s : Shared) (H : Hp) (vs : List V) (Q : VK) (E : XK), Room k (A.deeper (envOfC qual (defScope st) s.heap.objs.size f cdv)) → sp vs H Q E →
      ∃ t, Bx (PSs (cxOf CX0 P w K mg base N qual (defScope st) f cdv A outer s H E).nox (defBody st) t) ∧ t { nx := fun _ H' => Q .non H', rt := Q } (start N vs) H) : FnOk P w K mg base CX0 (k + 1) f fd ps sp :=
  F.ok S len fun cdv A outer s H vs Q E hr h => let ⟨t, a, b⟩ := hbody cdv A outer s H vs Q E hr h; ⟨t, a.1, b⟩
end
end L2
namespace L2
open PySem PySem.Spec PyProof.Rows
section
variable {X : Cx}
theorem ints_items {its : List Value} {ns : List Int} (h : IntsAre its ns) : ∃ xs : Array (Int × Tok), its.toArray = intItems xs ∧ xs.toList.map (·.1) = ns := by
  obtain ⟨xs, e⟩ := h.allInts.items
  refine ⟨xs, e, ?_⟩
  rw [← nums_intItems, ← e]
  exact h.numsOf
theorem num_mem {zs : Array (Int × Tok)} {k : Nat} (h : k < zs.size) : numAt zs k ∈ zs.toList.map (·.1) := by
  rw [numAt_eq]
  have hk : k < (zs.toList.map (·.1)).length := by simpa using h
  rw [List.getD_eq_getElem?_getD, List.getElem?_eq_getElem hk]
  exact List.getElem_mem hk
theorem num_all {zs : Array (Int × Tok)} {a : Int} (h : a ∈ zs.toList.map (·.1)) : ∃ j, j < zs.size ∧ numAt zs j = a := by
  obtain ⟨j, hj, e⟩ := List.mem_iff_getElem.mp h
  refine ⟨j, by simpa using hj, ?_⟩
  rw [numAt_eq, List.getD_eq_getElem?_getD, List.getElem?_eq_getElem hj, ← e]
  rfl
theorem call_maxL (hc : X.calm = true) : CallR X (.builtin "max") (fun xs H Q => ∃ (p : Addr) (ns : List Int), xs = [.ref p] ∧ SqL X.K H p (ns.map V.int) ∧ ns ≠ [] ∧ ∀ M, M ∈ ns → (∀ a ∈ ns, a ≤ M) → Q (.int M) H) := by
  intro pins s σ H xs us Q I r ⟨p, ns, e, hq, hn, q⟩
  subst e
  obtain ⟨u, rfl, rx⟩ := vals1 r
  cases rx
  obtain ⟨its, rv, pl, hz⟩ := I.list hq
  obtain ⟨zs, e, en⟩ := ints_items (L2.intsAre_of rv)
  have hs : 0 < zs.size := by
    have : 0 < ns.length := List.length_pos_iff.mpr hn
    rw [← en] at this
    simpa using this
  refine max_intList (I.ok.hd hc) (by rw [← e]; exact pl.isList) hs fun v h' tk hv hk => ?_
  obtain ⟨t, ev⟩ := intItems_at hv
  obtain ⟨b1, b2⟩ := argBest_gt (numAt zs) (zs.size - 1)
  subst ev
  refine ⟨.int _, H, I.kept (t' := tk) hk, ⟨t, rfl⟩, q _ (by rw [← en]; exact num_mem (by omega)) fun a ha => ?_⟩
  rw [← en] at ha
  obtain ⟨j, hj, ej⟩ := num_all ha
  rw [← ej]
  exact b2 j (by omega)
theorem bools_at {bs : List Bool} : ∀ {us : List Value} {j : Nat} {v : Value}, Vals (bs.map V.bl) us → us[j]? = some v → ∃ b, bs[j]? = some b ∧ v = .bool b := by
  intro us j v r h
  have hl := r.length
  have hj : j < us.length := (List.getElem?_eq_some_iff.mp h).1
  have hb : j < bs.length := by rw [List.length_map] at hl; omega
  obtain ⟨u, hu, ru⟩ := r.get (i := j) (x := .bl bs[j]) (by simp [hb])
  rw [h] at hu
  cases hu
  exact ⟨bs[j], by simp [hb], ru⟩
theorem all_range (bs : List Bool) : (List.range bs.length).all (fun j => (bs[j]?).getD true) = bs.all id := by
  rw [Bool.eq_iff_iff, List.all_eq_true, List.all_eq_true]
  constructor
  · intro h b hb
    obtain ⟨j, hj, e⟩ := List.mem_iff_getElem.mp hb
    have := h j (List.mem_range.mpr hj)
    rw [List.getElem?_eq_getElem hj] at this
    simpa [e] using this
  · intro h j hj
    have hj := List.mem_range.mp hj
    rw [List.getElem?_eq_getElem hj]
    exact h _ (List.getElem_mem hj)
theorem call_allL (hc : X.calm = true) : CallR X (.builtin "all") (fun xs H Q => ∃ (p : Addr) (bs : List Bool), xs = [.ref p] ∧ SqL X.K H p (bs.map V.bl) ∧ Q (.bl (bs.all id)) H) := by
  intro pins s σ H xs us Q I r ⟨p, bs, e, hq, q⟩
  subst e
  obtain ⟨u, rfl, rx⟩ := vals1 r
  cases rx
  obtain ⟨its, rv, pl, hz⟩ := I.list hq
  have hl : its.toArray.size = bs.length := by
    have := rv.length
    simpa using this.symm
  have hlt : p < s.heap.objs.size := by
    obtain ⟨o, ho, _⟩ := pl.isList
    exact Heap.lt_size ho
  refine call_all_walk (wpAny_pyIter_list pl.isList ?_)
  refine ⟨_, _, _, _, _, _, fun j => (bs[j]?).getD true, rfl, Walks.list (A := X.A.in1) (I.ok.hd hc) _ p (Nat.ne_of_lt hlt) its.toArray, ⟨⟨_, Heap.get?_push_size _ rfl, rfl, rfl⟩, pl.isList.at fun o e => Heap.get?_push_of_some _ e⟩, ?_, fun h' tk hk => ?_⟩
  · intro j v s' Q' E' hv hQ
    obtain ⟨b, hb, rfl⟩ := bools_at rv (show its[j]? = some v by simpa using hv)
    dsimp only at hQ
    rw [hb] at hQ
    exact wpAny_truthy_bool hQ
  · rw [hl, all_range]
    refine ⟨.bl _, H, I.kept (t' := tk) fun b o e => hk b o ?_ (Heap.get?_push_of_some _ e), rfl, q⟩
    intro z
    have : b = s.heap.objs.size := by simpa using z
    exact Nat.ne_of_lt (Heap.lt_size e) this
end
end L2
namespace L2
open PySem PySem.Spec PyProof.Rows
open PySem.W (Dat kqdP kqdPs kqdOk)

theorem same_upd {H : Hp} {p : Addr} (h : H p = none) (o : HO) : Same H (upd H p o) := fun b u q => by rw [upd_ne (ne_of_none q h)]; exact q
theorem Same.upd {H H' : Hp} (s : Same H H') {p : Addr} (h : H' p = none) (o : HO) : Same H (upd H' p o) := s.trans (same_upd h o)
theorem Same.write {H H' : Hp} (s : Same H H') {p : Addr} (h : H p = none) (o : HO) : Same H (L2.upd H' p o) := fun b u q => by rw [upd_ne (ne_of_none q h)]; exact s b u q
noncomputable def SameB (p : Addr) (H H' : Hp) : Prop := ∀ b o, b ≠ p → H b = some o → H' b = some o
theorem SameB.refl (p : Addr) (H : Hp) : SameB p H H := fun _ _ _ h => h
theorem Same.b {H H' : Hp} (s : Same H H') (p : Addr) : SameB p H H' := fun b o _ h => s b o h
theorem SameB.trans {p : Addr} {H H1 H2 : Hp} (a : SameB p H H1) (b : SameB p H1 H2) : SameB p H H2 := fun c o n h => b c o n (a c o n h)
theorem SameB.write {p : Addr} {H H1 : Hp} (a : SameB p H H1) (o : HO) : SameB p H (L2.upd H1 p o) := fun c u n h => by rw [upd_ne n]; exact a c u n h
theorem SameB.same {p : Addr} {G H H1 : Hp} (s : Same G H) (g : G p = none) (a : SameB p H H1) : Same G H1 := fun b o q => a b o (ne_of_none q g) (s b o q)

structure Bld (K : PySem.W.Frag) (H0 : Hp) (p : Addr) (xs : List V) (ds : List Dat) (H : Hp) : Prop where
  ex : ∃ G, Same H0 G ∧ Same G H ∧ G p = none ∧ Reps K G xs ds
  at_ : H p = some (.lst xs)
section
variable {K : PySem.W.Frag} {H0 H : Hp} {p T : Addr} {xs vs : List V} {ds es : List Dat}
theorem Bld.start (h : H0 p = none) : Bld K H0 p [] [] (upd H0 p (.lst [])) := ⟨⟨H0, Same.refl _, same_upd h _, h, .nil⟩, upd_same⟩
theorem Bld.same (b : Bld K H0 p xs ds H) : Same H0 H := by
  obtain ⟨G, a, c, _⟩ := b.ex
  exact a.trans c
theorem Bld.out (b : Bld K H0 p xs ds H) : H0 p = none := by
  obtain ⟨G, a, _, c, _⟩ := b.ex
  exact a.free c
theorem Bld.reps (b : Bld K H0 p xs ds H) : Reps K H xs ds := by
  obtain ⟨G, _, a, _, r⟩ := b.ex
  exact r.mono a
theorem Bld.len (b : Bld K H0 p xs ds H) : xs.length = ds.length := b.reps.length
theorem Bld.sq (b : Bld K H0 p xs ds H) : SqL K H p xs := .of b.at_
theorem Bld.rep (b : Bld K H0 p xs ds H) : Rep K H (.ref p) (.list ds) := .lst b.sq b.reps
theorem Bld.new (b : Bld K H0 p xs ds H) (h : H T = none) (o : HO) : Bld K H0 p xs ds (upd H T o) := by
  obtain ⟨G, a, c, n, r⟩ := b.ex
  exact ⟨⟨G, a, c.upd h o, n, r⟩, by rw [upd_ne (ne_of_none b.at_ h)]; exact b.at_⟩
theorem Bld.grow {H' : Hp} (b : Bld K H0 p xs ds H) (s : Same H H') : Bld K H0 p xs ds H' := by
  obtain ⟨G, a, c, n, r⟩ := b.ex
  exact ⟨⟨G, a, c.trans s, n, r⟩, s _ _ b.at_⟩
theorem Bld.other {q : Addr} {o : HO} (b : Bld K H0 p xs ds H) (hq : q ≠ p) (hG : ∀ G, Same H0 G → Same G H → G p = none → Reps K G xs ds → ∃ G', Same H0 G' ∧ Same G' H ∧ G' p = none ∧ G' q = none ∧ Reps K G' xs ds) : Bld K H0 p xs ds (upd H q o) := by
  obtain ⟨G, a, c, n, r⟩ := b.ex
  obtain ⟨G', a', c', n', nq, r'⟩ := hG G a c n r
  exact ⟨⟨G', a', c'.write nq o, n', r'⟩, by rw [upd_ne (Ne.symm hq)]; exact b.at_⟩
theorem Bld.push {v : V} {d : Dat} (b : Bld K H0 p xs ds H) (r : Rep K H0 v d) : Bld K H0 p (xs ++ [v]) (ds ++ [d]) (upd H p (.lst (xs ++ [v]))) := by
  obtain ⟨G, a, c, n, rs⟩ := b.ex
  exact ⟨⟨G, a, c.write n _, n, rs.snoc (r.mono a)⟩, upd_same⟩
end
theorem big {n : Nat} (h : n ≤ 100000) : n < sizeLine := Nat.lt_of_le_of_lt h (by decide)
theorem bigE {n : Nat} (h : n ≤ 100000) : n ≤ sizeLine := Nat.le_of_lt (big h)
end L2
namespace L2
open PySem PySem.Spec PyProof.Rows
open PySem.W (Dat kqdP kqdPs kqdOk)
section
variable {X : Cx}
open Classical in
end
section
variable {X : Cx} {K : PySem.W.Frag}
end
section
variable {g : TG} {tt : TT} {te : TE} {n0 : Nat} {cap : List Nat} {σ : St} {Q : VK} {D : Addr} {H1 : Hp} {K : PySem.W.Frag}
end
end L2
namespace L2
open PySem PySem.Spec PyProof.Rows
open PySem.W (Dat kqdP kqdPs kqdOk)
structure Off (M : List Addr) (G H : Hp) : Prop where
  same : Same G H
  out : ∀ m ∈ M, G m = none
  there : ∀ m ∈ M, ∃ o, H m = some o
section
variable {M : List Addr} {G G1 G2 H H' : Hp} {T m : Addr} {o u : HO}
theorem Off.ne (f : Off M G H) (h : H T = none) : T ∉ M := fun z => by
  obtain ⟨o, e⟩ := f.there T z
  rw [h] at e
  cases e
theorem Off.new (f : Off M G H) (h : H T = none) (o : HO) : Off M G (upd H T o) := ⟨f.same.upd h o, f.out, fun m hm => by
  obtain ⟨u, e⟩ := f.there m hm
  exact ⟨u, same_upd h o _ _ e⟩⟩
theorem Off.grow (f : Off M G H) (s : Same H H') : Off M G H' := ⟨f.same.trans s, f.out, fun m hm => by
  obtain ⟨u, e⟩ := f.there m hm
  exact ⟨u, s _ _ e⟩⟩
theorem Off.write (f : Off M G H) (hm : m ∈ M) (o : HO) : Off M G (upd H m o) := ⟨f.same.write (f.out m hm) o, f.out, fun k hk => by
  by_cases e : k = m
  · subst e
    exact ⟨o, upd_same⟩
  · obtain ⟨u, e'⟩ := f.there k hk
    exact ⟨u, by rw [upd_ne e]; exact e'⟩⟩
theorem Off.sb (f : Off M G H) (hm : m ∈ M) (s : SameB m H H') (e : H' m = some o) : Off M G H' := ⟨s.same f.same (f.out m hm), f.out, fun k hk => by
  by_cases ek : k = m
  · subst ek
    exact ⟨o, e⟩
  · obtain ⟨u, e'⟩ := f.there k hk
    exact ⟨u, s k u ek e'⟩⟩
theorem Off.drop (f : Off (m :: M) G H) : Off M G H := ⟨f.same, fun k hk => f.out k (.tail _ hk), fun k hk => f.there k (.tail _ hk)⟩
theorem Off.take {a : Addr} (f : Off M G H) (e : H a = some o) (hn : a ∉ M) : Off M (upd G a o) H ∧ Same G (upd G a o) := by
  refine ⟨⟨fun b v q => ?_, fun k hk => ?_, f.there⟩, fun b v q => ?_⟩
  · by_cases eb : b = a
    · subst eb
      rw [upd_same] at q
      rw [e]
      exact q
    · rw [upd_ne eb] at q
      exact f.same b v q
  · have : k ≠ a := fun z => hn (z ▸ hk)
    rw [upd_ne this]
    exact f.out k hk
  · by_cases eb : b = a
    · subst eb
      have := f.same _ _ q
      rw [e] at this
      rw [upd_same]
      exact this
    · rw [upd_ne eb]
      exact q
theorem Off.join (f : Off M G1 H) (g : Off M G2 H) : ∃ G, Off M G H ∧ Same G1 G ∧ Same G2 G := by
  refine ⟨fun b => match G1 b with | some o => some o | none => G2 b, ⟨fun b v q => ?_, fun m hm => ?_, f.there⟩, fun b v q => ?_, fun b v q => ?_⟩
  · cases e : G1 b with
    | some o => simp only [e] at q; rw [← q]; exact f.same b o e
    | none => simp only [e] at q; exact g.same b v q
  · simp only [f.out m hm]
    exact g.out m hm
  · simp only [q]
  · cases e : G1 b with
    | some o =>
      have := f.same b o e
      rw [g.same b v q] at this
      simp only [e]
      exact this.symm
    | none => simp only [e]; exact q
theorem Off.start {p : Addr} (h : H p = none) (o : HO) : Off [p] H (upd H p o) := ⟨same_upd h o, fun m hm => by rw [List.mem_singleton.mp hm]; exact h, fun m hm => by rw [List.mem_singleton.mp hm]; exact ⟨o, upd_same⟩⟩
theorem SameB.new {p : Addr} (a : SameB p H H') (h : H' T = none) (o : HO) : SameB p H (L2.upd H' T o) := a.trans ((same_upd h o).b p)
theorem SameB.free {p : Addr} (a : SameB p H H') (h : H' T = none) (hp : T ≠ p) : H T = none := by
  cases e : H T with
  | none => rfl
  | some u => rw [a T u hp e] at h; cases h
end
end L2
namespace L2
open PySem PySem.Spec PyProof.Rows
noncomputable def mergeT (kvs more : List (List Key × V)) : List (List Key × V) := more.foldl (fun acc kv => putK acc kv.1 kv.2) kvs
noncomputable def storeAll (acc xs : List (List Key × Addr × Value)) : List (List Key × Addr × Value) := xs.foldl (fun acc x => storedH acc x.1 x.2.1 x.2.2) acc
section
variable {prog : Program} {w : World} {A : Around} {E : Value → Shared → Prop} {s : Shared}
end
section
variable {prog : Program} {w : World} {A : Around} {R : Result → Shared → Prop}
end
section
variable {prog : Program} {w : World} {A : Around} {E : Value → Shared → Prop} {s : Shared}
end
theorem KT.merge {H : Hp} : ∀ {more : List (List Key × V)} {xs : List (List Key × Addr × Value)} {kvs : List (List Key × V)} {ys : List (List Key × Addr × Value)}, KT H more xs → KT H kvs ys → KT H (mergeT kvs more) (storeAll ys xs)
  | _, _, _, _, .nil, q => q
  | _, _, kvs, ys, .cons (a := p) (b := x) h t, q => by
    have e : KT H (putK kvs p.1 p.2) (storedH ys x.1 x.2.1 x.2.2) := by
      have := q.put p.1 h.2.1 h.2.2
      rw [← h.1]; exact this
    have z := KT.merge (kvs := putK kvs p.1 p.2) (ys := storedH ys x.1 x.2.1 x.2.2) t e
    exact z
section
variable {X : Cx}
end
end L2
namespace L2
open PySem PySem.Spec PyProof.Rows
section
variable {X : Cx} {e k : Expr} {te tk : TE} {pos p2 : Pos}
end
end L2
namespace L2
open PySem PySem.Spec PyProof.Rows
section
variable {prog : Program} {w : World} {A : Around} {E : Value → Shared → Prop} {s : Shared}
theorem draw_list {it l : Addr} {items : Array Value} (hne : l ≠ it) : ∀ (n i : Nat) (s : Shared) (Q : List Value → Shared → Prop), s.heap.IsListIter it l i → s.heap.IsList l items → i + n ≤ items.size →
    (∀ h', h'.IsListIter it l (i + n) → Heap.SameBut it s.heap h' → Q ((items.toList.drop i).take n) { s with heap := h' }) → wpAny (model prog w) A (draw (.ref it) n) Q E s
  | 0, i, s, Q, hit, _, _, hQ => by
    show wpAny _ _ (pure []) Q E s
    exact wpAny_pure (by simpa using hQ s.heap hit (Heap.SameBut.refl ..))
  | n + 1, i, s, Q, hit, ht, hle, hQ => by
    have hlt : i < items.size := by omega
    show wpAny _ _ (pyNext (.ref it) >>= _) Q E s
    refine wpAny_bind (wpAny_pyNext_list_item hit ht (x := items[i]) (by simp [hlt]) fun h₁ hit₁ hs₁ => ?_)
    refine wpAny_bind (wpAny_holding (draw_list hne n (i + 1) _ _ hit₁ (ht.extBut hs₁.extBut hne) (by omega) fun h₂ hit₂ hs₂ => wpAny_pure ?_))
    have hd : items.toList.drop i = items[i] :: items.toList.drop (i + 1) := by simp [List.drop_eq_getElem_cons, hlt]
    have := hQ h₂ (by rw [show i + (n + 1) = i + 1 + n by omega]; exact hit₂) (hs₁.trans hs₂)
    rw [hd, List.take_succ_cons] at this
    exact this
theorem unpackItems_list {t : Addr} {items : Array Value} {Q : List Value → Shared → Prop} (hh : A.handled = none) (ht : s.heap.IsList t items)
    (hQ : ∀ h', Heap.ExtBut s.heap.objs.size s.heap h' → Q items.toList { s with heap := h' }) : wpAny (model prog w) A (unpackItems (.ref t) items.size none) Q E s := by
  have hlt : t ≠ s.heap.objs.size := by obtain ⟨o, ho, _⟩ := ht; exact Nat.ne_of_lt (Heap.lt_size ho)
  unfold unpackItems
  refine wpAny_bind ?_
  · unfold notIterableAtAll
    refine wpAny_bind (wpAny_specialOf ht.typeIs slot_list_iter.lookup ?_)
    refine wpAny_pure ?_
    simp only [Bool.false_eq_true, if_false]
    refine wpAny_bind (wpAny_holding (wpAny_pyIter_list ht ?_))
    refine wpAny_bind (wpAny_holding (draw_list hlt items.size 0 _ _ ⟨_, Heap.get?_push_size _ rfl, rfl, rfl⟩ (ht.at fun o e => Heap.get?_push_of_some _ e) (by omega) fun h₁ hit₁ hs₁ => ?_))
    have hall : List.take items.size (List.drop 0 items.toList) = items.toList := by
      rw [List.drop_zero]; exact List.take_of_length_le (by simp)
    rw [hall]
    rw [if_neg (by simp)]
    have ht₁ : h₁.IsList t items := (ht.at fun o e => Heap.get?_push_of_some _ e).extBut hs₁.extBut hlt
    refine wpAny_bind (wpAny_holding (wpAny_pyNext_list_end hh hit₁ ht₁ (by simp) fun h₂ he₂ => ?_))
    simp only [Option.isSome_none, Bool.false_eq_true, if_false]
    refine wpAny_pure (hQ h₂ fun b o hb e => he₂ b o hb (hs₁.extBut b o hb (Heap.get?_push_of_some _ e)))
theorem assign_Tuple_list {env : Env} {elts : List Expr} {x1} {pos : Pos} {t : Addr} {items : Array Value} {Q : Unit → Shared → Prop} (hh : A.handled = none) (ht : s.heap.IsList t items)
    (hn : (assignEach elts env).length = items.size) (hstar : (assignEach elts env).findIdx? (·.1) = none)
    (h : ∀ h', Heap.ExtBut s.heap.objs.size s.heap h' → wpAny (model prog w) A (assignInOrder ((assignEach elts env).map (·.2)) items.toList) Q E { s with heap := h' }) :
    wpAny (model prog w) A (assign (.Tuple elts x1 pos) env (.ref t)) Q E s := by
  rw [assign_Tuple]
  refine wpAny_bind (wpAny_standAt ?_)
  unfold unpack
  rw [hn, hstar]
  exact wpAny_bind (wpAny_holding (unpackItems_list hh ht h))
end
noncomputable def gLst (K : PySem.W.Frag) (n : Nat) (t : TGs) : TG := fun v σ H Q => ∃ a xs, v = .ref a ∧ SqL K H a xs ∧ xs.length = n ∧ t xs σ H Q
section
variable {X : Cx} {pos : Pos}
theorem pg_lst {es : List Expr} {k : Nat} {t : TGs} {n : Nat} (hc : X.calm = true) (h : PGs X es t)
    (hn : (assignEach es X.env).length = n := by rfl) (hst : (assignEach es X.env).findIdx? (·.1) = none := by rfl) : PG X (.Tuple es k pos) (gLst X.K n t) := by
  intro pins s σ H v u Q I r hw
  obtain ⟨a, xs, e1, hq, hl, hw⟩ := hw
  subst e1
  cases r
  obtain ⟨its, rv, ht, hz⟩ := I.list hq
  refine assign_Tuple_list (I.ok.hd hc) ht.isList (by simp [hn, ← hl, rv.length]) hst fun h' hx => ?_
  have I1 : Inv X pins σ H { s with heap := h' } := I.kept (t' := s.toks) fun b o e => hx b o (Nat.ne_of_lt (Heap.lt_size e)) e
  exact h pins _ σ H xs _ Q I1 (by simpa using rv) hw
theorem bpg_lst {es : List Expr} {k : Nat} {t : TGs} {n : Nat} (hc : X.calm = true) (h : Bx (PGs X es t))
    (hn : (assignEach es X.env).length = n := by rfl) (hst : (assignEach es X.env).findIdx? (·.1) = none := by rfl) : Bx (PG X (.Tuple es k pos) (gLst X.K n t)) := ⟨pg_lst hc h.1 hn hst⟩
end
end L2
namespace L2
open PySem PySem.Spec PyProof.Rows
section
variable {X : Cx}
end
end L2
namespace L2
open PySem PySem.Spec PyProof.Rows
noncomputable def TabK (K : PySem.W.Frag) (a : Addr) (D : List (Str × KTD.Dat)) : Prop := KTD.tabLook (KTD.datLooks fun b => K.lookup b) (fun b => K.lookup b) a D = true
section
variable {prog : Program} {w : World} {A : Around} {E : Value → Shared → Prop} {s : Shared}
theorem dictGet_tab {δ : Type} {R : δ → Value → Prop} {D : List (Str × δ)} {a : Addr} {k : Str} {tk : Tok} {d0 : δ} {Q : Option Value → Shared → Prop} (T : KTD.TabOf R s.heap a D) (hat : KTD.datumAt k D = some d0)
    (good : ∀ v, R d0 v → Q (some v) { s with toks := s.toks + 1 }) : wpAny (model prog w) A (dictGet a (.str k tk)) Q E s := by
  obtain ⟨_, ob, es, ep, e1, _, e2, rows⟩ := T
  obtain ⟨v0, fv, rv⟩ := rows.find_some hat
  have exs : (es.all fun en => isExactStrKey en.key) = true := by
    obtain ⟨l⟩ := es
    simpa using rows.exact
  have fb : findBy (fun x u => u.isStr x) es k = some v0 := by
    rw [← fv]
    obtain ⟨l⟩ := es
    simp [findBy]
  unfold dictGet
  try with_reducible refine wpAny_holding ?_
  refine wpAny_bind (wpAny_pyHash_str ?_)
  refine wpAny_bind (KTD.kt_dictFind_strs (s := { s with toks := s.toks + 1 }) e1 e2 exs ?_)
  rw [findBy_of_findIdx?] at fb
  cases hi : es.findIdx? fun en => en.key.isStr k with
  | none => rw [hi] at fb; cases fb
  | some i =>
    rw [hi] at fb
    have fb' : (es[i]?).map (·.val) = some v0 := fb
    refine wpAny_bind (wpAny_dictEntries (s := { s with toks := s.toks + 1 }) e1 e2 (wpAny_pure ?_))
    rw [fb']
    exact good v0 rv
end
theorem flats_ints : ∀ {ns : List Int} {vs : List Value}, KTD.flatsLook (ns.map PyData.int) vs = true → Vals (ns.map V.int) vs
  | [], [], _ => .nil
  | n :: ns, v :: vs, h => by
    have h' : (KTD.flatLooks (PyData.int n) v && KTD.flatsLook (ns.map PyData.int) vs) = true := h
    rw [Bool.and_eq_true] at h'
    refine .cons ?_ (flats_ints h'.2)
    have h1 := h'.1
    cases v with
    | int j t =>
      have : n = j := by simpa [KTD.flatLooks] using h1
      subst this
      exact ⟨t, rfl⟩
    | _ => simp [KTD.flatLooks] at h1
  | [], _ :: _, h => by simp [KTD.flatsLook] at h
  | _ :: _, [], h => by simp [KTD.flatsLook] at h
theorem tup_look {K : PySem.W.Frag} {H : Hp} {ns : List Int} {v : Value} (hz : ns.length ≤ 1000) (h : KTD.datLooks (fun b => K.lookup b) (.tup (ns.map PyData.int)) v = true) : ∃ p, v = .ref p ∧ SqT K H p (ns.map V.int) := by
  cases v with
  | ref p =>
    refine ⟨p, rfl, .inr ?_⟩
    simp only [KTD.datLooks] at h
    cases e : K.lookup p with
    | none => rw [e] at h; cases h
    | some o =>
      rw [e] at h
      simp only [Bool.and_eq_true] at h
      obtain ⟨h1, h2⟩ := h
      cases ed : o.data with
      | seq vs n =>
        rw [ed] at h2
        have rv := flats_ints h2
        have lv := rv.length
        rw [List.length_map] at lv
        have lz : vs.size = ns.length := by rw [lv, Array.length_toList]
        have line : (1000 : Nat) ≤ sizeLine := by decide
        exact ⟨o, vs, n, rfl, beq_iff_eq.mp h1, ed, by omega, rv⟩
      | _ => rw [ed] at h2; cases h2
  | _ => simp [KTD.datLooks] at h
section
variable {X : Cx}
theorem TabK.at {pins : List (Addr × Obj)} {σ : St} {H : Hp} {s : Shared} {a : Addr} {D : List (Str × KTD.Dat)} (I : Inv X pins σ H s) (h : TabK X.K a D) : KTD.TabOf (fun d v => KTD.datLooks (fun b => X.K.lookup b) d v = true) s.heap a D :=
  KTD.tab_of_look (fun _ _ z => z) (fun b o q => I.kIn b o q) h
theorem TabK.here {pins : List (Addr × Obj)} {σ : St} {H : Hp} {s : Shared} {a : Addr} {D : List (Str × KTD.Dat)} (I : Inv X pins σ H s) (h : TabK X.K a D) : KTD.Here s.heap s.heap a D :=
  ⟨PySem.W.kt_text_in I.kIn h, fun _ _ q => q⟩
noncomputable def rInTab (K : PySem.W.Frag) (neg : Bool) : R2 := fun x y H Q => ∃ k a D, x = .str k ∧ y = .ref a ∧ TabK K a D ∧ Q (.bl (if neg then !KTD.inKeys k D else KTD.inKeys k D)) H
theorem op_inTab : OpR X (compareOp .In) (rInTab X.K false) := by
  intro pins s σ H x y v u Q I rx ry ⟨k, a, D, e1, e2, h, q⟩
  subst e1 e2
  obtain ⟨t, rfl⟩ := rx
  cases ry
  exact KTD.in_text (h.here I) ⟨.bl _, H, I.tok _, rfl, q⟩
noncomputable def rIxTab (K : PySem.W.Frag) : R2 := fun x y H Q => ∃ (a : Addr) (k : Str) (D : List (Str × KTD.Dat)) (ns : List Int), x = .ref a ∧ y = .str k ∧ TabK K a D ∧ KTD.datumAt k D = some (.tup (ns.map PyData.int)) ∧ ns.length ≤ 1000 ∧ ∀ p, SqT K H p (ns.map V.int) → Q (.ref p) H
theorem ix_tab : IxR X (rIxTab X.K) := by
  intro value slice pins s σ H x y v u Q I rx ry ⟨a, k, D, ns, e1, e2, h, hat, hz, q⟩ hs
  subst e1 e2
  cases (show v = Value.ref a from rx)
  obtain ⟨t, rfl⟩ := (show ∃ t, u = Value.str k t from ry)
  have hT := (h.here I).typeIs
  refine tail_any (ops := [.ref a, .str k t]) hT PySem.F.slot_dict_getitem.lookup ?_ hs
  unfold getItem
  try with_reducible refine wpAny_holding ?_
  refine wpAny_bind (wpAny_sequenceKey hT (by decide) ?_)
  refine wpAny_bind (wpAny_callSpecial?_slot (name := Str.ofString "__getitem__") hT slot_dict_getitem (wpAny_call_entry slot_dict_getitem hT entry_dict_getitem ?_ (args_dict_getitem _ _)))
  show wpAny _ _ (dictGet a (.str k t) >>= _) _ _ s
  refine wpAny_bind (dictGet_tab (h.at I) hat fun v hv => ?_)
  obtain ⟨p, rfl, hp⟩ := tup_look (H := H) hz hv
  exact wpAny_pure ⟨_, rfl, wpAny_pure ⟨.ref p, H, I.tok _, rfl, q p hp⟩⟩
end
end L2
namespace My
open PySem L2
open PySem.W (Dat kqdP kqdPs kqdOk)

structure Works where
  ins : Int
  gates : List (Str × List Int)
  outs : List Int
noncomputable def legsOk (kind : Str) (n : Nat) : Prop := ((kind = "and" ∨ kind = "or" ∨ kind = "odd") ∧ 2 ≤ n ∧ n ≤ 4) ∨ (kind = "not" ∧ n = 1) ∨ (kind = "choose" ∧ n = 3) ∨ ((kind = "zero" ∨ kind = "one") ∧ n = 0)
structure WF (most : Nat) (w : Works) : Prop where
  i1 : 1 ≤ w.ins
  i6 : w.ins ≤ 6
  few : w.gates.length ≤ most
  legs : ∀ (k : Nat) g, w.gates[k]? = some g → legsOk g.1 g.2.length ∧ ∀ l ∈ g.2, 0 ≤ l ∧ l < w.ins + k
  o1 : 1 ≤ w.outs.length
  o3 : w.outs.length ≤ most + 20
  outs : ∀ o ∈ w.outs, 0 ≤ o ∧ o < w.ins + w.gates.length
noncomputable def gateD (g : Str × List Int) : Dat := .tuple [.str g.1, .tuple (g.2.map .int)]
noncomputable def worksD (w : Works) : Dat := .tuple [.int w.ins, .list (w.gates.map gateD), .list (w.outs.map .int)]

theorem legsOk.le {k : Str} {n : Nat} (h : legsOk k n) : n ≤ 4 := by
  unfold legsOk at h
  omega

theorem ok_ints (n : Nat) (ns : List Int) : (ns.map Dat.int).all (kqdOk n) = true := by
  refine List.all_eq_true.mpr fun d h => ?_
  obtain ⟨i, _, rfl⟩ := List.mem_map.mp h
  cases n <;> rfl
theorem ok_kind {x : Str} {n : Nat} (h : legsOk x n) : PyData.strOk x = true := by
  rcases h with ⟨h | h | h, _⟩ | ⟨h, _⟩ | ⟨h, _⟩ | ⟨h | h, _⟩ <;> (rw [h]; decide +kernel)
theorem gates_at {K : PySem.W.Frag} {H : Hp} {w : Works} {x : V} (h : Rep K H x (worksD w)) :
    ∃ a ga oa gs os, x = .ref a ∧ SqT K H a [.int w.ins, .ref ga, .ref oa] ∧ SqL K H ga gs ∧ SqL K H oa os ∧ Reps K H gs (w.gates.map gateD) ∧ Reps K H os (w.outs.map .int) := by
  unfold worksD at h
  cases h with
  | tup ha r =>
    cases r with
    | cons r1 r =>
      cases r with
      | cons r2 r =>
        cases r with
        | cons r3 r =>
          cases r
          cases r1
          cases r2 with
          | lst hg rg =>
            cases r3 with
            | lst ho ro => exact ⟨_, _, _, _, _, rfl, ha, hg, ho, rg, ro⟩
theorem gate_at {K : PySem.W.Frag} {H : Hp} {g : Str × List Int} {x : V} (h : Rep K H x (gateD g)) :
    ∃ a la, x = .ref a ∧ SqT K H a [.str g.1, .ref la] ∧ SqT K H la (g.2.map V.int) := by
  unfold gateD at h
  cases h with
  | tup ha r =>
    cases r with
    | cons r1 r =>
      cases r with
      | cons r2 r =>
        cases r
        cases r1
        cases r2 with
        | tup hl rl =>
          have e : ∀ (xs : List V) (ns : List Int), Reps K H xs (ns.map Dat.int) → xs = ns.map V.int := by
            intro xs ns
            induction ns generalizing xs with
            | nil => intro z; cases z; rfl
            | cons m r ih =>
              intro z
              cases z with
              | cons z1 z2 =>
                cases z1
                rw [ih _ z2]
                rfl
          rw [e _ _ rl] at hl
          exact ⟨_, _, rfl, ha, hl⟩
end My
namespace My
open PySem L2
noncomputable def Bits (ns : List Int) : Prop := ∀ n ∈ ns, n = 0 ∨ n = 1
noncomputable def gateV (x : Str) (ns : List Int) : Int :=
  if x = "and" then (if ns.all (· == 1) = true then 1 else 0)
  else if x = "or" then (if ns.any (· == 1) = true then 1 else 0)
  else if x = "odd" then ns.sum % 2
  else if x = "not" then 1 - ns.getD 0 0
  else if x = "choose" then (if ns.getD 0 0 = 1 then ns.getD 1 0 else ns.getD 2 0)
  else if x = "one" then 1 else 0
theorem n_da : ("odd" : Str) ≠ "and" := by decide +kernel
theorem n_do : ("odd" : Str) ≠ "or" := by decide +kernel
theorem n_na : ("not" : Str) ≠ "and" := by decide +kernel
theorem n_no : ("not" : Str) ≠ "or" := by decide +kernel
theorem n_nd : ("not" : Str) ≠ "odd" := by decide +kernel
theorem gv_odd (ns : List Int) : gateV "odd" ns = ns.sum % 2 := by unfold gateV; rw [if_neg n_da, if_neg n_do, if_pos rfl]
theorem gv_not (ns : List Int) : gateV "not" ns = 1 - ns.getD 0 0 := by unfold gateV; rw [if_neg n_na, if_neg n_no, if_neg n_nd, if_pos rfl]
noncomputable def wiresV (gs : List (Str × List Int)) (row : List Int) : Nat → List Int
  | 0 => row
  | n + 1 => wiresV gs row n ++ [match gs[n]? with
      | some g => gateV g.1 (g.2.map fun l => (wiresV gs row n).getD l.toNat 0)
      | none => 0]
theorem wiresV_len (gs : List (Str × List Int)) (row : List Int) : ∀ n, (wiresV gs row n).length = row.length + n
  | 0 => rfl
  | n + 1 => by rw [wiresV, List.length_append, wiresV_len gs row n]; simp; omega
end My
namespace My
open PySem L2
open PySem.W (Dat kqdP kqdPs kqdOk)
theorem WF.mono {m n : Nat} {w : Works} (h : WF m w) (l : m ≤ n) : WF n w := ⟨h.i1, h.i6, Nat.le_trans h.few l, h.legs, h.o1, Nat.le_trans h.o3 (by omega), h.outs⟩
noncomputable def rowD (r : List Int) : Dat := .list (r.map .int)
inductive At (H : Hp) : List Addr → List (List Int) → Prop
  | nil : At H [] []
  | cons {q : Addr} {r : List Int} {qs : List Addr} {rs : List (List Int)} : H q = some (.lst (r.map V.int)) → At H qs rs → At H (q :: qs) (r :: rs)
section
variable {K : PySem.W.Frag} {H H' : Hp} {qs qs' : List Addr} {rs rs' : List (List Int)}
theorem At.mono (s : Same H H') (h : At H qs rs) : At H' qs rs := by
  induction h with
  | nil => exact .nil
  | cons e _ ih => exact .cons (s _ _ e) ih
theorem At.append (h : At H qs rs) (h' : At H qs' rs') : At H (qs ++ qs') (rs ++ rs') := by
  induction h with
  | nil => exact h'
  | cons e _ ih => exact .cons e ih
theorem At.len (h : At H qs rs) : qs.length = rs.length := by
  induction h with
  | nil => rfl
  | cons e _ ih => rw [List.length_cons, List.length_cons, ih]
theorem At.get (h : At H qs rs) : ∀ {i : Nat} {q : Addr}, qs[i]? = some q → ∃ r, rs[i]? = some r ∧ H q = some (.lst (r.map V.int)) := by
  induction h with
  | nil => intro i q e; cases e
  | cons e _ ih =>
    intro i q z
    cases i with
    | zero => cases z; exact ⟨_, rfl, e⟩
    | succ i => exact ih z
theorem At.here (h : At H qs rs) {q : Addr} (m : q ∈ qs) : ∃ r ∈ rs, H q = some (.lst (r.map V.int)) := by
  obtain ⟨i, hi⟩ := List.getElem?_of_mem m
  obtain ⟨r, a, b⟩ := h.get hi
  exact ⟨r, List.mem_of_getElem? a, b⟩
theorem At.reps (h : At H qs rs) : Reps K H (qs.map V.ref) (rs.map rowD) := by
  induction h with
  | nil => exact .nil
  | cons e _ ih => exact .cons (.lst (.of e) (Reps.ints _)) ih
theorem At.write {p : Addr} {o : HO} (n : p ∉ qs) (h : At H qs rs) : At (upd H p o) qs rs := by
  induction h with
  | nil => exact .nil
  | cons e _ ih =>
    refine .cons ?_ (ih fun z => n (.tail _ z))
    rename_i q0 _ _ _ _
    have hne : q0 ≠ p := fun z => n (by rw [z]; exact .head _)
    rw [upd_ne hne]
    exact e
theorem At.set {r : List Int} (h : At H qs rs) : ∀ {i : Nat} {q : Addr}, qs.Nodup → qs[i]? = some q → At (upd H q (.lst (r.map V.int))) qs (rs.set i r) := by
  induction h with
  | nil => intro i q _ e; cases e
  | @cons q' r' qs' rs' e t ih =>
    intro i q nd z
    have nd' := List.nodup_cons.mp nd
    cases i with
    | zero =>
      cases z
      exact .cons upd_same (t.write nd'.1)
    | succ i =>
      refine .cons ?_ (ih nd'.2 z)
      have hne : q' ≠ q := fun y => nd'.1 (by rw [y]; exact List.mem_of_getElem? z)
      rw [upd_ne hne]
      exact e
end
structure Rows (H0 : Hp) (R : Addr) (qs : List Addr) (rs : List (List Int)) (H : Hp) : Prop where
  same : Same H0 H
  out : H0 R = none
  at_ : H R = some (.lst (qs.map V.ref))
  rows : At H qs rs
  nd : qs.Nodup
  new : ∀ q ∈ qs, H0 q = none ∧ q ≠ R
section
variable {K : PySem.W.Frag} {H0 H H1 H2 : Hp} {R D D1 D2 T q : Addr} {qs qs1 qs2 : List Addr} {rs rs1 rs2 : List (List Int)}
theorem Rows.start (s : Same H0 H) (h : H D = none) : Rows H0 D [] [] (upd H D (.lst [])) := ⟨s.upd h _, s.free h, upd_same, .nil, .nil, fun _ z => nomatch z⟩
theorem Rows.sq (b : Rows H0 R qs rs H) : SqL K H R (qs.map V.ref) := .of b.at_
theorem Rows.rep (b : Rows H0 R qs rs H) : Rep K H (.ref R) (.list (rs.map rowD)) := .lst b.sq b.rows.reps
theorem Rows.grow (b : Rows H0 R qs rs H) (s : Same H H1) : Rows H0 R qs rs H1 := ⟨b.same.trans s, b.out, s _ _ b.at_, b.rows.mono s, b.nd, b.new⟩
theorem Rows.push {o : HO} {r : List Int} {vs : List V} (b : Rows H0 D qs rs H) (hT : H T = none) (hq : upd H T o q = none) (e : vs = r.map V.int) :
    Rows H0 D (qs ++ [q]) (rs ++ [r]) (upd (upd (upd H T o) q (.lst vs)) D (.lst (qs.map V.ref ++ [.ref q]))) := by
  subst e
  have s1 : Same H (upd (upd H T o) q (.lst (r.map V.int))) := (same_upd hT _).upd hq _
  have q0 : H q = none := (same_upd hT o).free hq
  have qD : q ≠ D := Ne.symm (ne_of_none b.at_ q0)
  have nq : q ∉ qs := fun z => by
    obtain ⟨r, _, e⟩ := b.rows.here z
    rw [q0] at e
    cases e
  refine ⟨(b.same.trans s1).write b.out _, b.out, by rw [upd_same, List.map_append]; rfl, ?_, ?_, fun z hz => ?_⟩
  · refine At.write (fun z => ?_) (At.append (b.rows.mono s1) (.cons upd_same .nil))
    rcases List.mem_append.mp z with z | z
    · exact (b.new D z).2 rfl
    · exact qD (List.mem_singleton.mp z).symm
  · refine List.nodup_append.mpr ⟨b.nd, List.nodup_cons.mpr ⟨(fun z => nomatch z), List.nodup_nil⟩, fun x hx y hy e => ?_⟩
    rw [List.mem_singleton.mp hy] at e
    exact nq (e ▸ hx)
  · rcases List.mem_append.mp hz with hz | hz
    · exact b.new z hz
    · rw [List.mem_singleton.mp hz]
      exact ⟨b.same.free q0, qD⟩
end
theorem reps_ints {K : PySem.W.Frag} {H : Hp} : ∀ {xs : List V} {ns : List Int}, Reps K H xs (ns.map Dat.int) → xs = ns.map V.int
  | _, [], h => by cases h; rfl
  | _, n :: ns, h => by
    cases h with
    | cons h1 h2 =>
      cases h1
      rw [reps_ints h2]
      rfl
end My
namespace My
open PySem L2
open PySem.W (Dat kqdP kqdPs kqdOk)
end My
namespace My
open PySem L2
open PySem.W (Dat kqdP kqdPs kqdOk)
structure Flt where
  place : List Key
  worth : Int
noncomputable def kD : Key → Dat
  | .inl n => .int n
  | .inr s => .str s
noncomputable def fltD (f : Flt) : Dat := .tuple (f.place.map kD ++ [.int f.worth])
noncomputable def wireK (i : Int) : List Key := [Sum.inr "wire", Sum.inl i]
noncomputable def legK (k i : Int) : List Key := [Sum.inr "leg", Sum.inl k, Sum.inl i]
noncomputable def wiresK : Nat → List (List Key)
  | 0 => []
  | n + 1 => wiresK n ++ [wireK n]
noncomputable def legsK (k : Int) : Nat → List (List Key)
  | 0 => []
  | n + 1 => legsK k n ++ [legK k n]
noncomputable def gatesK (gs : List (Str × List Int)) : Nat → List (List Key)
  | 0 => []
  | n + 1 => gatesK gs n ++ legsK n ((gs[n]?.map fun g => g.2.length).getD 0)
noncomputable def placesK (w : Works) : List (List Key) := wiresK (w.ins.toNat + w.gates.length) ++ gatesK w.gates w.gates.length
theorem legK_inj {k l i j : Int} (h : legK k i = legK l j) : k = l ∧ i = j := by
  unfold legK at h
  injection h with _ h
  injection h with h1 h
  injection h with h
  exact ⟨Sum.inl.inj h1, Sum.inl.inj h⟩
theorem wire_leg {i k j : Int} (h : wireK i = legK k j) : False := by
  have := congrArg List.length h
  exact absurd this (by show ¬ (2 : Nat) = 3; decide)
noncomputable def GoodF (w : Works) (f : Flt) : Prop := f.place ∈ placesK w ∧ (f.worth = 0 ∨ f.worth = 1)
noncomputable def Apart (fs : List Flt) : Prop := (fs.map (·.place)).Nodup
noncomputable def look (fs : List Flt) (p : List Key) : Option Int := (fs.find? fun f => decide (f.place = p)).map (·.worth)
noncomputable def pick (fs : List Flt) (p : List Key) (v : Int) : Int := (look fs p).getD v
noncomputable def legsS (fs : List Flt) (k : Int) (ns : List Int) : List Int := ns.mapIdx fun i v => pick fs (legK k i) v
noncomputable def rowS (fs : List Flt) (ns : List Int) : List Int := ns.mapIdx fun i v => pick fs (wireK i) v
noncomputable def wiresS (fs : List Flt) (gs : List (Str × List Int)) (row : List Int) : Nat → List Int
  | 0 => rowS fs row
  | n + 1 => wiresS fs gs row n ++ [pick fs (wireK ((row.length + n : Nat) : Int)) (match gs[n]? with
      | some g => gateV g.1 (legsS fs n (g.2.map fun l => (wiresS fs gs row n).getD l.toNat 0))
      | none => 0)]
theorem rowS_len (fs : List Flt) (ns : List Int) : (rowS fs ns).length = ns.length := by unfold rowS; rw [List.length_mapIdx]
theorem wiresS_len (fs : List Flt) (gs : List (Str × List Int)) (row : List Int) : ∀ n, (wiresS fs gs row n).length = row.length + n
  | 0 => rowS_len fs row
  | n + 1 => by rw [wiresS, List.length_append, wiresS_len fs gs row n]; simp; omega
theorem pick_nil (p : List Key) (v : Int) : pick [] p v = v := rfl
theorem rowS_nil (ns : List Int) : rowS [] ns = ns := by
  unfold rowS
  refine List.ext_getElem? fun i => ?_
  rw [List.getElem?_mapIdx]
  cases ns[i]? <;> rfl
theorem legsS_nil (k : Int) (ns : List Int) : legsS [] k ns = ns := by
  unfold legsS
  refine List.ext_getElem? fun i => ?_
  rw [List.getElem?_mapIdx]
  cases ns[i]? <;> rfl
theorem wiresS_nil (gs : List (Str × List Int)) (row : List Int) : ∀ n, wiresS [] gs row n = wiresV gs row n
  | 0 => rowS_nil row
  | n + 1 => by
    rw [wiresS, wiresV, wiresS_nil gs row n, pick_nil]
    cases gs[n]? with
    | none => rfl
    | some g => simp only [legsS_nil]
theorem at_last (xs : List V) (v : V) : atI (xs ++ [v]) (-1) = some v := by
  unfold atI ixN
  have e : ((-1 : Int) + ((xs ++ [v]).length : Nat)).toNat = xs.length := by rw [List.length_append, List.length_singleton]; omega
  rw [if_neg (by decide), if_pos (by rw [List.length_append, List.length_singleton]; omega), e]
  simp
end My
namespace My
open PySem L2
open PySem.W (Dat kqdP kqdPs kqdOk)
structure GoodFs (K : PySem.W.Frag) (w : Works) (most : Nat) (G : Hp) (v : V) (fs : List Flt) : Prop where
  rep : Rep K G v (.list (fs.map fltD))
  good : ∀ f ∈ fs, GoodF w f
  apart : Apart fs
  few : fs.length ≤ most
theorem GoodFs.mono {K : PySem.W.Frag} {w : Works} {most : Nat} {G G' : Hp} {v : V} {fs : List Flt} (h : GoodFs K w most G v fs) (s : Same G G') : GoodFs K w most G' v fs := ⟨h.rep.mono s, h.good, h.apart, h.few⟩
end My
namespace L2
end L2
namespace My
open PySem L2
open PySem.W (Dat kqdP kqdPs kqdOk)
theorem wiresS_at (fs : List Flt) (ws : List (Str × List Int)) (row : List Int) {i n : Nat} (h : i < row.length + n) : ∀ m, n ≤ m → (wiresS fs ws row m)[i]? = (wiresS fs ws row n)[i]?
  | 0, hm => by
    have : n = 0 := by omega
    subst this
    rfl
  | m + 1, hm => by
    by_cases e : n = m + 1
    · subst e
      rfl
    · rw [wiresS, List.getElem?_append_left (by rw [wiresS_len]; omega), wiresS_at fs ws row h m (by omega)]
theorem wiresS_legs {A B : List Flt} {ws : List (Str × List Int)} {row : List Int} {g : Nat} {v : Int} (h : ∀ q, (∀ p : Int, q ≠ legK g p) → look A q = look B q) (ha : look A (wireK ((row.length + g : Nat) : Int)) = some v) : ∀ n, wiresS A ws row n = wiresS B ws row n := by
  have hw : ∀ i : Int, look A (wireK i) = look B (wireK i) := fun i => h _ fun p z => wire_leg z
  have hpw : ∀ (i x : Int), pick A (wireK i) x = pick B (wireK i) x := fun i x => by unfold pick; rw [hw]
  intro n
  induction n with
  | zero =>
    show rowS A row = rowS B row
    unfold rowS
    simp only [hpw]
  | succ n ih =>
    rw [wiresS, wiresS, ih]
    by_cases e : n = g
    · subst e
      have hb := (hw ((row.length + n : Nat) : Int)).symm.trans ha
      unfold pick
      rw [ha, hb]
      rfl
    · have hl : ∀ ns, legsS A n ns = legsS B n ns := fun ns => by
        unfold legsS
        have : ∀ (i : Nat) (x : Int), pick A (legK n i) x = pick B (legK n i) x := fun i x => by
          unfold pick
          rw [h _ fun p z => e (by have := (legK_inj z).1; omega)]
        simp only [this]
      rw [hpw]
      cases ws[n]? with
      | none => rfl
      | some g' => simp only [hl]
end My
namespace My
open PySem L2
open PySem.W (Dat kqdP kqdPs kqdOk)
theorem Apart.app {a b : List Flt} (ha : Apart a) (hb : Apart b) (h : ∀ f ∈ a, ∀ g ∈ b, f.place ≠ g.place) : Apart (a ++ b) := by
  unfold Apart at ha hb ⊢
  rw [List.map_append]
  refine List.nodup_append.mpr ⟨ha, hb, fun x hx y hy e => ?_⟩
  obtain ⟨f, hf, rfl⟩ := List.mem_map.mp hx
  obtain ⟨g, hg, rfl⟩ := List.mem_map.mp hy
  exact h f hf g hg e
noncomputable def Meet (w : Works) (A B : List Flt) : Prop := A = B ∨ ∃ (g : Nat) (v : Int), (∀ q, (∀ p : Int, q ≠ legK g p) → look A q = look B q) ∧ look A (wireK ((w.ins.toNat + g : Nat) : Int)) = some v
theorem Meet.wires {w : Works} {A B : List Flt} (h : Meet w A B) {row : List Int} (hl : (row.length : Int) = w.ins) (n : Nat) : wiresS A w.gates row n = wiresS B w.gates row n := by
  rcases h with rfl | ⟨g, v, h1, h2⟩
  · rfl
  · have e : w.ins.toNat = row.length := by omega
    rw [e] at h2
    exact wiresS_legs h1 h2 n
end My
namespace My
open PySem L2
open PySem.W (Dat kqdP kqdPs kqdOk)
noncomputable abbrev Gts := List (Str × List Int)
noncomputable def wvAt (gl : Gts) (row : List Int) (i : Int) : Int := (wiresV gl row gl.length).getD i.toNat 0
noncomputable def GoodG (ins : Int) (gl : Gts) : Prop := ∀ (k : Nat) g, gl[k]? = some g → legsOk g.1 g.2.length ∧ ∀ l ∈ g.2, 0 ≤ l ∧ l < ins + k
theorem GoodG.snoc {ins : Int} {gl : Gts} {x : Str} {ls : List Int} (h : GoodG ins gl) (hk : legsOk x ls.length) (hl : ∀ l ∈ ls, 0 ≤ l ∧ l < ins + gl.length) : GoodG ins (gl ++ [(x, ls)]) := fun k g e => by
  by_cases hk' : k < gl.length
  · rw [List.getElem?_append_left hk'] at e
    exact h k g e
  · have : k < (gl ++ [(x, ls)]).length := (List.getElem?_eq_some_iff.mp e).1
    have ek : k = gl.length := by
      rw [List.length_append, List.length_singleton] at this
      omega
    subst ek
    rw [List.getElem?_append_right (Nat.le_refl _), Nat.sub_self] at e
    cases e
    exact ⟨hk, hl⟩
theorem wiresV_pre (gl ext : Gts) (row : List Int) : ∀ n, n ≤ gl.length → wiresV (gl ++ ext) row n = wiresV gl row n
  | 0, _ => rfl
  | n + 1, h => by
    rw [wiresV, wiresV, wiresV_pre gl ext row n (by omega), List.getElem?_append_left (by omega)]
theorem wiresV_at (gl : Gts) (row : List Int) {i n : Nat} (h : i < row.length + n) {m : Nat} (hm : n ≤ m) : (wiresV gl row m)[i]? = (wiresV gl row n)[i]? := by
  rw [← wiresS_nil, ← wiresS_nil]
  exact wiresS_at [] gl row h m hm
noncomputable def AtG (ins : Int) (gl : Gts) (w : Int) (x : Str) (ls : List Int) : Prop := ∃ k : Nat, w = ins + k ∧ gl[k]? = some (x, ls)
theorem AtG.last (ins : Int) (gl : Gts) (x : Str) (ls : List Int) : AtG ins (gl ++ [(x, ls)]) (ins + gl.length) x ls := ⟨gl.length, rfl, by simp⟩
theorem AtG.ext {ins : Int} {gl ext : Gts} {w : Int} {x : Str} {ls : List Int} (h : AtG ins gl w x ls) : AtG ins (gl ++ ext) w x ls := by
  obtain ⟨k, e, g⟩ := h
  exact ⟨k, e, by rw [List.getElem?_append_left (List.getElem?_eq_some_iff.mp g).1]; exact g⟩
section
variable {ins : Int} {gl : Gts} {row : List Int} {w : Int} {x : Str} {ls : List Int}
theorem AtG.val (good : GoodG ins gl) (hl : (row.length : Int) = ins) (h : AtG ins gl w x ls) : wvAt gl row w = gateV x (ls.map (wvAt gl row)) := by
  obtain ⟨k, rfl, g⟩ := h
  have hk := (List.getElem?_eq_some_iff.mp g).1
  have e1 : (ins + (k : Int)).toNat = row.length + k := by omega
  unfold wvAt
  rw [e1, List.getD_eq_getElem?_getD, wiresV_at gl row (n := k + 1) (by omega) (by omega), wiresV, List.getElem?_append_right (by rw [wiresV_len]; omega)]
  have e2 : row.length + k - (wiresV gl row k).length = 0 := by rw [wiresV_len]; omega
  rw [e2, g]
  show gateV x (ls.map fun l => (wiresV gl row k).getD l.toNat 0) = _
  congr 1
  refine List.map_congr_left fun l hm => ?_
  have b := (good k (x, ls) g).2 l hm
  rw [List.getD_eq_getElem?_getD, List.getD_eq_getElem?_getD, wiresV_at gl row (n := k) (m := gl.length) (by omega) (by omega)]
theorem AtG.lt (h : AtG ins gl w x ls) : w < ins + gl.length := by
  obtain ⟨k, rfl, g⟩ := h
  have := (List.getElem?_eq_some_iff.mp g).1
  omega
end
theorem gv_not1 (v : Int) : gateV "not" [v] = 1 - v := by rw [gv_not]; rfl
noncomputable def notsW (n0 : Int) (n : Nat) : List Int := (List.range n).map fun (t : Nat) => n0 + (t : Int)
theorem notsW_len (n0 : Int) (n : Nat) : (notsW n0 n).length = n := by unfold notsW; simp
theorem notsW_get {n0 : Int} {n t : Nat} (h : t < n) : (notsW n0 n)[t]? = some (n0 + (t : Int)) := by
  unfold notsW
  rw [List.getElem?_map, List.getElem?_range h]
  rfl
noncomputable def NotsAt (ins : Int) (gl : Gts) (n0 : Int) (ss : List Int) : Prop := ∀ (t : Nat) (s : Int), ss[t]? = some s → AtG ins gl (n0 + t) "not" [s]
theorem NotsAt.ext {ins n0 : Int} {gl ext : Gts} {ss : List Int} (h : NotsAt ins gl n0 ss) : NotsAt ins (gl ++ ext) n0 ss := fun t s e => (h t s e).ext
theorem NotsAt.vals {ins n0 : Int} {gl : Gts} {ss row : List Int} (h : NotsAt ins gl n0 ss) (good : GoodG ins gl) (hl : (row.length : Int) = ins) : (notsW n0 ss.length).map (wvAt gl row) = (ss.map (wvAt gl row)).map fun v => 1 - v := by
  refine List.ext_getElem? fun t => ?_
  by_cases ht : t < ss.length
  · rw [List.getElem?_map, notsW_get ht, List.getElem?_map, List.getElem?_map, List.getElem?_eq_getElem ht]
    show some (wvAt gl row (n0 + t)) = some (1 - wvAt gl row ss[t])
    rw [(h t _ (List.getElem?_eq_getElem ht)).val good hl]
    show some (gateV "not" [wvAt gl row ss[t]]) = _
    rw [gv_not1]
  · rw [List.getElem?_eq_none (by rw [List.length_map, notsW_len]; omega), List.getElem?_eq_none (by rw [List.length_map, List.length_map]; omega)]
section
variable {ins n0 : Int} {gl : Gts} {ss : List Int} {one other b l r : Int}
noncomputable def OddAt (ins : Int) (gl : Gts) (ss : List Int) (j : Nat) (st : Int) : Prop := 0 ≤ st ∧ st < ins + gl.length ∧ ∀ row : List Int, (row.length : Int) = ins → Bits row → wvAt gl row st = ((ss.take j).map (wvAt gl row)).sum % 2
end
theorem val_ext {ins : Int} {gl ext : Gts} {row : List Int} {w : Int} (hl : (row.length : Int) = ins) (h0 : 0 ≤ w) (h1 : w < ins + gl.length) : wvAt (gl ++ ext) row w = wvAt gl row w := by
  unfold wvAt
  rw [List.getD_eq_getElem?_getD, List.getD_eq_getElem?_getD, wiresV_at (gl ++ ext) row (n := gl.length) (by omega) (by rw [List.length_append]; omega), wiresV_pre gl ext row gl.length (Nat.le_refl _)]
theorem OddAt.step {ins : Int} {gl : Gts} {ss : List Int} {j : Nat} {st s : Int} (good : GoodG ins gl) (i0 : 0 ≤ ins) (hs : ∀ s ∈ ss, 0 ≤ s ∧ s < ins + gl.length) (h : OddAt ins gl ss j st) (e : ss[j]? = some s) : OddAt ins (gl ++ [(("odd" : Str), [st, s])]) ss (j + 1) (ins + gl.length) := by
  have bs := hs s (List.mem_of_getElem? e)
  obtain ⟨h0, h1, h2⟩ := h
  have good' : GoodG ins (gl ++ [(("odd" : Str), [st, s])]) := good.snoc (.inl ⟨.inr (.inr rfl), (by show 2 ≤ 2; decide), (by show 2 ≤ 4; decide)⟩) fun l hl => by
    rcases List.mem_cons.mp hl with rfl | hl
    · exact ⟨h0, h1⟩
    · rw [List.mem_singleton.mp hl]; exact bs
  refine ⟨by omega, by rw [List.length_append, List.length_singleton]; omega, fun row hl br => ?_⟩
  rw [(AtG.last ins gl "odd" [st, s]).val good' hl]
  simp only [List.map_cons, List.map_nil]
  rw [gv_odd, val_ext hl h0 h1, val_ext hl bs.1 bs.2, h2 row hl br, List.take_add_one, e, List.map_append, List.sum_append]
  have e2 : (ss.take j).map (wvAt (gl ++ [(("odd" : Str), [st, s])]) row) = (ss.take j).map (wvAt gl row) := List.map_congr_left fun z hz => by
    have := hs z (List.mem_of_mem_take hz)
    exact val_ext hl this.1 this.2
  rw [e2]
  show ([((ss.take j).map (wvAt gl row)).sum % 2, wvAt gl row s].sum) % 2 = (((ss.take j).map (wvAt gl row)).sum + [wvAt (gl ++ [(("odd" : Str), [st, s])]) row s].sum) % 2
  rw [val_ext hl bs.1 bs.2]
  simp only [List.sum_cons, List.sum_nil]
  omega
structure GL (K : PySem.W.Frag) (M : List Addr) (m : Addr) (ins : Int) (gl : Gts) (G H : Hp) : Prop where
  off : Off (m :: M) G H
  at_ : ∃ gs, H m = some (.lst gs) ∧ Reps K G gs (gl.map gateD)
  good : GoodG ins gl
section
variable {K : PySem.W.Frag} {M : List Addr} {m D T : Addr} {ins : Int} {gl : Gts} {G H : Hp} {o : HO}
theorem GL.new (g : GL K M m ins gl G H) (h : H T = none) (o : HO) : GL K M m ins gl G (upd H T o) := by
  obtain ⟨gs, e, r⟩ := g.at_
  exact ⟨g.off.new h o, ⟨gs, same_upd h o _ _ e, r⟩, g.good⟩
theorem GL.write (g : GL K M m ins gl G H) (h : D ∈ M) (hm : D ≠ m) (o : HO) : GL K M m ins gl G (upd H D o) := by
  obtain ⟨gs, e, r⟩ := g.at_
  exact ⟨g.off.write (.tail _ h) o, ⟨gs, by rw [upd_ne (Ne.symm hm)]; exact e, r⟩, g.good⟩
end
end My
namespace My
open PySem L2
end My
namespace My
open PySem L2
open PySem.W (Dat kqdP kqdPs kqdOk)
noncomputable def sh (W l : Int) : Int := l + (if W ≤ l then 1 else 0)
noncomputable def turned (W : Int) (g p n : Nat) (ls : List Int) : List Int := if n = g then (ls.map (sh W)).set p W else ls.map (sh W)
end My
namespace L2
theorem Reps.take {K : PySem.W.Frag} {H : Hp} : ∀ {vs : List V} {ds : List PySem.W.Dat} (n : Nat), Reps K H vs ds → Reps K H (vs.take n) (ds.take n)
  | _, _, 0, _ => .nil
  | _, _, _ + 1, .nil => .nil
  | _, _, n + 1, .cons h r => .cons h (Reps.take n r)
theorem Reps.drop {K : PySem.W.Frag} {H : Hp} : ∀ {vs : List V} {ds : List PySem.W.Dat} (n : Nat), Reps K H vs ds → Reps K H (vs.drop n) (ds.drop n)
  | _, _, 0, r => r
  | _, _, _ + 1, .nil => .nil
  | _, _, n + 1, .cons _ r => Reps.drop n r
end L2
namespace L2
open PySem PySem.Spec PyProof.Rows
theorem heap_without (h : Heap) : ∀ fs : List Addr, ∃ B : Heap, ∀ b, (b ∈ fs → B.get? b = none) ∧ (b ∉ fs → B.get? b = h.get? b)
  | [] => ⟨h, fun b => ⟨(fun z => (nomatch z)), fun _ => rfl⟩⟩
  | a :: r => by
    obtain ⟨B, hB⟩ := heap_without h r
    refine ⟨B.update a fun o => { o with data := .freed }, fun b => ⟨fun z => ?_, fun z => ?_⟩⟩
    · by_cases e : b = a
      · subst e
        obtain ⟨objs, l⟩ := B
        unfold Heap.update Heap.get?
        rw [Array.getElem?_modify, if_pos rfl]
        cases objs[b]? <;> rfl
      · rw [Heap.get?_update_other _ _ (Ne.symm e)]
        exact (hB b).1 ((List.mem_cons.mp z).resolve_left e)
    · have e : b ≠ a := fun q => z (q ▸ .head _)
      rw [Heap.get?_update_other _ _ (Ne.symm e)]
      exact (hB b).2 fun q => z (.tail _ q)
theorem funFrames_of {h h' base base' : Heap} : ∀ {l : List Env}, h.FunFrames base l → (∀ b ∈ frs l, ∀ o, h.get? b = some o → ∃ sl, h'.get? b = some { o with slots := sl }) → (∀ b ∈ frs l, base'.get? b = none) → h'.FunFrames base' l
  | [], _, _, _ => trivial
  | env :: r, hl, k, kb => by
    obtain ⟨hk, ⟨L, o, hf, hn, ho, hd⟩, hr⟩ := hl
    have hm : ∀ b, b ∈ frs r → b ∈ frs (env :: r) := fun b z => by
      unfold frs at z ⊢
      rw [List.filterMap_cons, hf]
      exact .tail _ z
    have hL : L ∈ frs (env :: r) := by
      unfold frs
      rw [List.filterMap_cons, hf]
      exact .head _
    obtain ⟨sl, hs⟩ := k L hL o ho
    exact ⟨hk, ⟨L, _, hf, kb L hL, hs, hd⟩, funFrames_of hr (fun b z => k b (hm b z)) fun b z => kb b (hm b z)⟩
structure Air (C : Value) (h0 : Heap) (x : Addr) (H' : Hp) (h : Heap) : Prop where
  newx : h0.get? x = none
  hx : H' x = none
  tr : ∃ T a0 oe vs oT ts, h.get? x = some oe ∧ (oe.cls = C ∧ vs[0]? = some a0) ∧ oe.data = .fields vs ∧ vs[1]? = some (.ref T) ∧ h0.get? T = none ∧ H' T = none ∧ T ≠ x ∧ h.get? T = some oT ∧ oT.data = .fields ts ∧ ts[3]? = some .none
noncomputable def CXC (P : Program) (w : World) (C : Value) : CXT := fun outer H s E e s' => ∃ x H', e = .ref x ∧ s'.os = s.os ∧ AllBare s'.gens ∧ Un (frs outer) [] H H' s.heap s'.heap ∧ HOk P w H' s'.heap ∧ Air C s.heap x H' s'.heap ∧ E e (some x) H'
theorem ObjOk.there {P : Program} {w : World} {H : Hp} {h : Heap} {a : Addr} {o : HO} (x : ObjOk P w H h a o) : ∃ ob, h.get? a = some ob := by
  cases o with
  | lst xs => obtain ⟨_, _, _, _, e⟩ := x; exact ⟨_, e⟩
  | tup xs => obtain ⟨_, _, _, ob, e, _⟩ := x; exact ⟨_, e⟩
  | dK kvs => obtain ⟨_, _, _, _, o, _, _, e, _⟩ := x; exact ⟨_, e⟩
  | dT kvs => obtain ⟨_, _, _, _, o, _, _, e, _⟩ := x; exact ⟨_, e⟩
  | set S n => obtain ⟨o, _, _, _, e, _⟩ := x; exact ⟨_, e⟩
  | ins C dx fs => obtain ⟨_, _, _, e, _⟩ := x; exact ⟨_, e⟩
  | own y => obtain ⟨_, e⟩ := x; exact ⟨_, e⟩
  | xd fs => obtain ⟨_, ⟨_, _, _, e, _⟩, _⟩ := x; exact ⟨_, e⟩
  | rng lo hi => obtain ⟨_, _, _, e⟩ := x; exact ⟨_, e⟩
  | frz ob u => obtain ⟨e, _⟩ := x; exact ⟨_, e⟩
  | tbl ps => exact ⟨_, x⟩
  | met f y => exact ⟨_, x⟩
  | ext φ => obtain ⟨_, ⟨_, e⟩, _⟩ := x; exact ⟨_, e⟩
theorem Un.left {fs : List Addr} {H H' : Hp} {h h' h'' : Heap} {x T : Addr} (u : Un fs [] H H' h h') (nx : h.get? x = none) (nT : h.get? T = none) (k : ∀ b o, b ∉ fs → b ≠ x → b ≠ T → h'.get? b = some o → h''.get? b = some o)
    (ks : ∀ b o, b ∈ fs → h'.get? b = some o → ∃ sl, h''.get? b = some { o with slots := sl }) : Un fs [] H H' h h'' := by
  have nn : ∀ {b o}, h.get? b = some o → b ≠ x ∧ b ≠ T := fun {b o} e => ⟨(fun z => by rw [z, nx] at e; cases e), (fun z => by rw [z, nT] at e; cases e)⟩
  refine ⟨fun b o e n hb hx => k b o hb (nn e).1 (nn e).2 (u.keep b o e n hb hx), fun b o e n hb hx => ?_, u.free, fun b o e hx => ?_, u.tups, u.frzs, u.tbls⟩
  · obtain ⟨sl, q⟩ := u.slot b o e n hb hx
    obtain ⟨sl', q'⟩ := ks b _ hb q
    exact ⟨sl', q'⟩
  · obtain ⟨o', q⟩ := u.there b o e hx
    by_cases hb : b ∈ fs
    · obtain ⟨sl, q'⟩ := ks b o' hb q
      exact ⟨_, q'⟩
    · exact ⟨o', k b o' hb (nn e).1 (nn e).2 q⟩
theorem HOk.left {P : Program} {w : World} {fs : List Addr} {H' : Hp} {h' h'' : Heap} {x T : Addr} (ok : HOk P w H' h') (nf : ∀ b ∈ fs, H' b = none) (nx : H' x = none) (nT : H' T = none) (k : ∀ b o, b ∉ fs → b ≠ x → b ≠ T → h'.get? b = some o → h''.get? b = some o) : HOk P w H' h'' := fun a o e => by
  have key : ∀ b u, H' b = some u → ∀ q, h'.get? b = some q → h''.get? b = some q := fun b u e q eq => k b q (fun z => by rw [nf b z] at e; cases e) (fun z => by rw [z, nx] at e; cases e) (fun z => by rw [z, nT] at e; cases e) eq
  refine (ok a o e).stay (fun b u hb q => ?_) (fun _ q => q) fun _ _ q => q
  rcases hb with rfl | hb
  · exact key _ _ e u q
  · exact key _ _ hb u q
section
variable {P : Program} {w : World} {C : Value} {M : Model} {A : Around} {env : Env} {outer : List Env} {L : Addr} {H : Hp} {s s' : Shared} {E : XK} {e : Value} {base : Heap} {E1 : Value → Shared → Prop}
theorem leave_next (hfr : A.frames = some (env :: outer)) (hf : env.frame = some L) (fun0 : s.heap.FunFrames base (env :: outer)) (frf : ∀ b ∈ frs (env :: outer), H b = none) (cx : CXC P w C (env :: outer) H s E e s') :
    wpAny M A (leaving env e) (fun _ s'' => CXC P w C (env :: outer) H s E e s'') E1 s' := by
  obtain ⟨x, H', rfl, hos, hb, un, ok, ⟨newx, hx, T, a0, oe, vs, oT, ts, ex, ec, ed, e1, nT, hT, Tx, eT, edT, e3⟩, q⟩ := cx
  obtain ⟨B, hB⟩ := heap_without s'.heap (x :: T :: frs (env :: outer))
  have fr0 : ∀ b ∈ frs (env :: outer), ∃ o, s.heap.get? b = some o ∧ ∀ vs, o.data ≠ .fields vs := fun b z => (fun0.mem z).2
  have frs' : ∀ b ∈ frs (env :: outer), H' b = none := fun b z => by
    obtain ⟨o, ho, _⟩ := fr0 b z
    exact un.free b o ho (frf b z) (by simp)
  have fl : s'.heap.FunFrames B (env :: outer) := funFrames_of fun0 (fun b z o ho => un.slot b o ho (frf b z) z (by simp)) fun b z => (hB b).1 (.tail _ (.tail _ z))
  have st : B.StaysIn s'.heap := fun b o hb => by
    by_cases z : b ∈ x :: T :: frs (env :: outer)
    · rw [(hB b).1 z] at hb; cases hb
    · rw [(hB b).2 z] at hb; exact hb
  refine wpAny_leaving_nextW (base := B) (cls := C) (a0 := a0) hfr fl hf ⟨oe, vs, T, oT, ts, ex, ec, ed, e1, (hB T).1 (.tail _ (.head _)), Tx, eT, edT, e3⟩ st ((hB x).1 (.head _)) fun h'' hL => ?_
  obtain ⟨k1, k2, ⟨oe', vs', T', oT', ts', ex', ec', ed', e1', nT', Tx', eT', edT', e3'⟩, k4⟩ := hL
  have k : ∀ b o, b ∉ frs (env :: outer) → b ≠ x → b ≠ T → s'.heap.get? b = some o → h''.get? b = some o := fun b o n1 n2 n3 eb => k1 b o (by
    rw [(hB b).2 fun z => by
      rcases List.mem_cons.mp z with z | z
      · exact n2 z
      · rcases List.mem_cons.mp z with z | z
        · exact n3 z
        · exact n1 z]
    exact eb)
  have ks : ∀ b o, b ∈ frs (env :: outer) → s'.heap.get? b = some o → ∃ sl, h''.get? b = some { o with slots := sl } := fun b o z eb => k4 b o eb (by
    obtain ⟨_, o2, h2, h3⟩ := fl.mem z
    rw [eb] at h2
    cases h2
    exact h3)
  have Tf : T' ∉ frs (env :: outer) := fun z => by
    obtain ⟨_, o2, h2, h3⟩ := k2.mem z
    rw [eT'] at h2
    cases h2
    exact h3 _ edT'
  have gT : s'.heap.get? T' = none ∨ T' = T := by
    by_cases z : T' = T
    · exact .inr z
    · refine .inl ?_
      rw [← (hB T').2 fun y => ?_]
      · exact nT'
      · rcases List.mem_cons.mp y with y | y
        · exact Tx' y
        · rcases List.mem_cons.mp y with y | y
          · exact z y
          · exact Tf y
  have n0 : s.heap.get? T' = none := by
    rcases gT with g | rfl
    · cases z : s.heap.get? T' with
      | none => rfl
      | some o =>
        obtain ⟨o', y⟩ := un.there T' o z (by simp)
        rw [g] at y
        cases y
    · exact nT
  have n1 : H' T' = none := by
    rcases gT with g | rfl
    · cases z : H' T' with
      | none => rfl
      | some o =>
        obtain ⟨ob, y⟩ := (ok T' o z).there
        rw [g] at y
        cases y
    · exact hT
  exact ⟨x, H', rfl, hos, hb, un.left newx nT k ks, ok.left frs' hx hT k, ⟨newx, hx, T', a0, oe', vs', oT', ts', ex', ec', ed', e1', n0, n1, Tx', eT', edT', e3'⟩, q⟩
end
theorem CXC.up {X : Cx} {pins : List (Addr × Obj)} {σ : St} {H : Hp} {s s' : Shared} {C : Value} {E : XK} {e : Value} (I : Inv X pins σ H s) (hx : X.ex = []) (cx : CXC X.prog X.w C X.stack H s E e s') : CXC X.prog X.w C X.outer X.H₀ X.s₀ E e s' := by
  obtain ⟨x, H', rfl, hos, hb, un, ok, ⟨newx, hx', T, a0, oe, vs, oT, ts, ex, ec, ed, e1, nT, hT, Tx, eT, edT, e3⟩, q⟩ := cx
  have J := I.call' hos un ok hb (fun b z => absurd z (by simp))
  have nn : ∀ {b : Addr}, s.heap.get? b = none → X.s₀.heap.get? b = none := fun {b} z => by
    cases y : X.s₀.heap.get? b with
    | none => rfl
    | some o =>
      obtain ⟨o', y'⟩ := I.base.there b o y (by rw [hx]; simp)
      rw [z] at y'
      cases y'
  have jb := J.base
  rw [hx] at jb
  exact ⟨x, H', rfl, J.os, J.bare, jb, J.hok, ⟨nn newx, hx', T, a0, oe, vs, oT, ts, ex, ec, ed, e1, nn nT, hT, Tx, eT, edT, e3⟩, q⟩
theorem get_none_free {P : Program} {w : World} {H : Hp} {h : Heap} (ok : HOk P w H h) {a : Addr} (e : h.get? a = none) : H a = none := by
  cases z : H a with
  | none => rfl
  | some o =>
    obtain ⟨ob, y⟩ := (ok a o z).there
    rw [e] at y
    cases y
section
variable {P : Program} {w : World} {M : Model} {A : Around} {env : Env} {outer : List Env} {L C x : Addr} {H : Hp} {s : Shared} {E : XK} {base h' : Heap} {E1 : Value → Shared → Prop} {us : List Value}
theorem leave_first (hfr : A.frames = some (env :: outer)) (hf : env.frame = some L) (fun0 : s.heap.FunFrames base (env :: outer)) (frf : ∀ b ∈ frs (env :: outer), H b = none) (ok : HOk P w H s.heap) (hg : AllBare s.gens) (mx : Heap.MadeExcOf s.heap h' x (.ref C) us) (q : E (.ref x) (some x) H) :
    wpAny M A (leaving env (.ref x)) (fun _ s'' => CXC P w (.ref C) (env :: outer) H s E (.ref x) s'') E1 { s with heap := h' } := by
  obtain ⟨keeps, newx, t, ex, nt, et⟩ := mx
  have hx : H x = none := get_none_free ok newx
  obtain ⟨B, hB⟩ := heap_without h' (x :: frs (env :: outer))
  have fl : h'.FunFrames B (env :: outer) := funFrames_of fun0 (fun b z o ho => ⟨o.slots, keeps b o ho⟩) fun b z => (hB b).1 (.tail _ z)
  have st : B.StaysIn h' := fun b o hb => by
    by_cases z : b ∈ x :: frs (env :: outer)
    · rw [(hB b).1 z] at hb; cases hb
    · rw [(hB b).2 z] at hb; exact hb
  refine wpAny_leaving_firstW (base := B) (s := { s with heap := h' }) (a0 := .ref t) hfr fl hf ex st ((hB x).1 (.head _)) rfl rfl rfl fun h'' hL => ?_
  obtain ⟨k1, k2, ⟨oe', vs', T', oT', ts', ex', ec', ed', e1', nT', Tx', eT', edT', e3'⟩, k4⟩ := hL
  have k : ∀ b o, b ∉ frs (env :: outer) → b ≠ x → b ≠ x → h'.get? b = some o → h''.get? b = some o := fun b o n1 n2 _ eb => k1 b o (by
    rw [(hB b).2 fun z => by
      rcases List.mem_cons.mp z with z | z
      · exact n2 z
      · exact n1 z]
    exact eb)
  have ks : ∀ b o, b ∈ frs (env :: outer) → h'.get? b = some o → ∃ sl, h''.get? b = some { o with slots := sl } := fun b o z eb => k4 b o eb (by
    obtain ⟨_, o2, h2, h3⟩ := fl.mem z
    rw [eb] at h2
    cases h2
    exact h3)
  have Tf : T' ∉ frs (env :: outer) := fun z => by
    obtain ⟨_, o2, h2, h3⟩ := k2.mem z
    rw [eT'] at h2
    cases h2
    exact h3 _ edT'
  have g0 : h'.get? T' = none := by
    rw [← (hB T').2 fun y => ?_]
    · exact nT'
    · rcases List.mem_cons.mp y with y | y
      · exact Tx' y
      · exact Tf y
  have n0 : s.heap.get? T' = none := by
    cases z : s.heap.get? T' with
    | none => rfl
    | some o =>
      have y := keeps _ _ z
      rw [g0] at y
      cases y
  exact ⟨x, H, rfl, rfl, hg, (Un.kept keeps).left newx newx k ks, (ok.kept keeps).left (fun b z => frf b z) hx hx k, ⟨newx, hx, T', .ref t, oe', vs', oT', ts', ex', ec', ed', e1', n0, get_none_free ok n0, Tx', eT', edT', e3'⟩, q⟩
end
theorem class_at {K : PySem.W.Frag} {h : Heap} {C : Addr} {bB : List Value} {nid : String} (X : K.In h) (q : PySem.W.excIn K C bB nid = true) :
    ∃ tl N nm qn bs hd sn sub ab col dd a0 a1 a2 a3 a5 mN, h.get? C = some (excClassObj nm qn C N bs tl hd sn sub ab col dd a0 a1 a2 a3 a5 nid) ∧ h.Ns N mN ∧ mN "__init__" = none ∧ OwnTail h bB tl := by
  unfold PySem.W.excIn at q
  split at q
  case h_2 => cases q
  case h_1 dd cd sl ho =>
    split at q
    case h_2 => cases q
    case h_1 C2 tl a0 a1 a2 a3 nn a5 hm hs =>
      simp only [Bool.and_eq_true, beq_iff_eq, Bool.not_eq_true'] at q
      obtain ⟨⟨⟨⟨⟨w1, w2⟩, w3⟩, w4⟩, w5⟩, w6⟩ := q
      subst w1 w2
      cases cd with
      | mk nm bs mro ns qn hd sn sub ab col del =>
        dsimp only at hm w3 w5 w6
        subst hm w3
        have e : sl = #[a0, a1, a2, a3, some (.builtin nn), a5] := by
          cases sl with
          | mk l => exact congrArg Array.mk hs
        subst e
        exact ⟨tl, ns, nm, qn, bs, hd, sn, sub, ab, col, dd, a0, a1, a2, a3, a5, _, X _ _ ho, Heap.Ns.of_isNs (PySem.W.isNs_of_in X w5), PySem.W.nsMap_none_of_in X w5 w6, PySem.W.tail_of_in X w4⟩
noncomputable def RaisesTo (C : Addr) (X : Cx) (E : XK) : Prop := ∀ (pins : List (Addr × Obj)) (σ : St) (H : Hp) (s : Shared) (h' : Heap) (x : Addr) (us : List Value), Inv X pins σ H s → Heap.MadeExcOf s.heap h' x (.ref C) us → E (.ref x) (some x) H → X.xe (.ref x) { s with heap := h' }
noncomputable def tRaise (E : XK) (t : TA) : TS := fun _ σ H => t σ H fun vs H1 => vs.length ≤ sizeLine ∧ ∀ x, H1 x = none → E (.ref x) (some x) H1
section
variable {X : Cx} {C : Addr} {E : XK} {B nid iid : String} {bB : List Value} {x : Str} {np cpos pos : Pos} {e : Expr} {es : List Expr} {t : TA}
theorem ps_raise (F : ExcBaseFacts B nid iid bB) (hc : PySem.W.excIn X.K C bB nid = true) (hcalm : X.calm = true) (hg : Gl X x) (hm : X.mg x = some (.ref C)) (hx : RaisesTo C X E) (ha : PA X (e :: es) t) (hdb : (x == ("__debug__" : Str)) = false := by decide)
    (he : starEach (e :: es) X.env = (false, eval e X.env) :: starEach es X.env := by rfl) (hpl : (backTo cpos (starEach es X.env)).any (·.1) = false := by rfl) : PS X (.Raise (some (.Call (.Name x np) (e :: es) [] cpos)) none pos) (tRaise E t) := by
  intro pins s σ H D I h
  obtain ⟨tl, N, nm, qn, bs, hd, sn, sub, ab, col, dd, a0, a1, a2, a3, a5, mN, oC, oN, oi, oT⟩ := class_at I.ok.mod.kin hc
  have hplain : (backTo cpos (starEach (e :: es) X.env)).any (·.1) = false := by
    rw [he]
    show (false || (backTo cpos (starEach es X.env)).any (·.1)) = false
    rw [hpl]
    rfl
  refine wpAny_Raise_call_subT (C := C) (nm := nm) (q := qn) (N := N) (bs := bs) (bm := tl) (hdct := hd) (sn := sn) (sub := sub) (ab := ab) (col := col) (dd := dd) (k0 := a0) (k1 := a1) (k2 := a2) (k3 := a3) (k5 := a5) F (mN := mN) (oT.hasType F.hasBase) (I.ok.hd hcalm) hplain oi (ld_glob I hg hm ⟨rfl, ?_⟩ hdb)
  have z := ha cpos pins s σ H _ I h
  rw [he] at z ⊢
  refine Calls.evalArgs_plain (thn z fun us s1 ⟨vs, H1, I1, r, q1, q2⟩ => ⟨rfl, by rw [← r.length]; exact q1, I1.bk _ _ oC, oN.keeps I1.bk, oT.keeps I1.bk, fun h2 x2 mx => ?_⟩)
  exact hx pins σ H1 s1 h2 x2 us I1 mx (q2 x2 (get_none_free I1.hok mx.new))
end
section
variable {P : Program} {w : World} {K : PySem.W.Frag} {mg : Str → Option Value} {base : Heap} {N : List Str} {qual : Str} {scope : Scope} {f C : Addr} {cd : Value} {A : Around} {outer : List Env} {s : Shared} {H : Hp} {E : XK}
theorem passC : Passes (CXC P w (.ref C)) (cxOf (CXC P w (.ref C)) P w K mg base N qual scope f cd A outer s H E) E := fun pins σ H1 s1 e s' I cx => by
  refine wpAny_mono (leave_next I.ok.frames rfl I.env0.funs I.stkFree cx) (fun _ s2 cx2 => ?_) fun _ _ z => z
  exact CXC.up (X := cxOf (CXC P w (.ref C)) P w K mg base N qual scope f cd A outer s H E) I rfl cx2
theorem raiseC : RaisesTo C (cxOf (CXC P w (.ref C)) P w K mg base N qual scope f cd A outer s H E) E := fun pins σ H1 s1 h' x us I mx q => by
  refine wpAny_mono (leave_first I.ok.frames rfl I.env0.funs I.stkFree I.hok I.bare mx q) (fun _ s2 cx2 => ?_) fun _ _ z => z
  exact CXC.up (X := cxOf (CXC P w (.ref C)) P w K mg base N qual scope f cd A outer s H E) I rfl cx2
end
section
variable {X : Cx}
theorem PS.nox {st : Stmt} {t : TS} (h : PS X.nox st t) : PS X st t := fun pins s σ H D I hw =>
  wpAny_mono (h pins s σ H D (I.wish _) hw) (fun _ _ q => q.unwish) fun _ _ z => z.elim
theorem PA.nox {es : List Expr} {t : TA} (h : PA X.nox es t) : PA X es t := fun pos pins s σ H Q I hw =>
  wpAny_mono (h pos pins s σ H Q (I.wish _) hw) (fun _ _ ⟨v, H', I', r, q⟩ => ⟨v, H', I'.unwish, r, q⟩) fun _ _ z => z.elim
theorem bps_raise {C : Addr} {E : XK} {B nid iid : String} {bB : List Value} {x : Str} {np cpos pos : Pos} {e : Expr} {es : List Expr} {t : TA} (F : ExcBaseFacts B nid iid bB) (hc : PySem.W.excIn X.K C bB nid = true) (hcalm : X.calm = true) (hg : Gl X x) (hm : X.mg x = some (.ref C)) (hx : RaisesTo C X E) (ha : Bx (PA X (e :: es) t)) (hdb : (x == ("__debug__" : Str)) = false := by decide)
    (he : starEach (e :: es) X.env = (false, eval e X.env) :: starEach es X.env := by rfl) (hpl : (backTo cpos (starEach es X.env)).any (·.1) = false := by rfl) : Bx (PS X (.Raise (some (.Call (.Name x np) (e :: es) [] cpos)) none pos) (tRaise E t)) := ⟨ps_raise F hc hcalm hg hm hx ha.1 hdb he hpl⟩
end
section
variable {P : Program} {w : World} {K : PySem.W.Frag} {mg : Str → Option Value} {base : Heap}
theorem Fun.okC {x qual : Str} {st : Stmt} {f C : Addr} {fd : FuncData} {N ps : List Str} {k : Nat} {sp : Sp} (F : Fun K x qual st f fd) (S : FnScope N ps (defScope st)) (len : ∀ vs H Q E, sp vs H Q E → vs.length = ps.length)
    (hbody : ∀ (cdv : Value) (A : Around) (outer : List Env) (s : Shared) (H : Hp) (vs : List V) (Q : VK) (E : XK), Room k (A.deeper (envOfC qual (defScope st) s.heap.objs.size f cdv)) → sp vs H Q E →
      ∃ t, Bx (PSs (cxOf (CXC P w (.ref C)) P w K mg base N qual (defScope st) f cdv A outer s H E) (defBody st) t) ∧ t { nx := fun _ H2 => Q .non H2, rt := Q } (start N vs) H) : FnOk P w K mg base (CXC P w (.ref C)) (k + 1) f fd ps sp := by
  obtain ⟨oc, od, kV, doc, pm, an, cdv, ct, osl, rfl, lk, hcd⟩ := F.ex
  refine fn_of lk hcd S len fun A outer s H vs Q E hr hsp => ?_
  obtain ⟨t, h, q⟩ := hbody cdv A outer s H vs Q E hr hsp
  exact ⟨t, h.1, q⟩
variable {N : List Str} {qual : Str} {scope : Scope} {f C : Addr} {cd : Value} {A : Around} {outer : List Env} {s : Shared} {H : Hp} {E : XK}
theorem passesOwnC : PassesOwn (model P w) (A.deeper (envOfC qual scope s.heap.objs.size f cd)) (envOfC qual scope s.heap.objs.size f cd) (cxOf (CXC P w (.ref C)) P w K mg base N qual scope f cd A outer s H E).xe := PassesOwn.leaving
end
end L2
namespace L2
open PySem PySem.Spec PyProof.Rows
noncomputable def mroOf (K : PySem.W.Frag) (C : Addr) : List Value := match K.lookup C with
  | some ⟨_, _, .cls cd, _⟩ => cd.mro
  | _ => []
theorem class_mro {K : PySem.W.Frag} {h : Heap} {C : Addr} {bB : List Value} {nid : String} (X : K.In h) (q : PySem.W.excIn K C bB nid = true) :
    ∃ tl N nm qn bs hd sn sub ab col dd a0 a1 a2 a3 a5, h.get? C = some (excClassObj nm qn C N bs tl hd sn sub ab col dd a0 a1 a2 a3 a5 nid) ∧ mroOf K C = .ref C :: tl ∧ OwnTail h bB tl := by
  unfold PySem.W.excIn at q
  split at q
  case h_2 => cases q
  case h_1 dd cd sl ho =>
    split at q
    case h_2 => cases q
    case h_1 C2 tl a0 a1 a2 a3 nn a5 hm hs =>
      simp only [Bool.and_eq_true, beq_iff_eq, Bool.not_eq_true'] at q
      obtain ⟨⟨⟨⟨⟨w1, w2⟩, w3⟩, w4⟩, w5⟩, w6⟩ := q
      subst w1 w2
      have em : mroOf K C2 = .ref C2 :: tl := by
        unfold mroOf
        rw [ho]
        exact hm
      cases cd with
      | mk nm bs mro ns qn hd sn sub ab col del =>
        dsimp only at hm w3 w5 w6
        subst hm w3
        have e : sl = #[a0, a1, a2, a3, some (.builtin nn), a5] := by
          cases sl with
          | mk l => exact congrArg Array.mk hs
        subst e
        exact ⟨tl, ns, nm, qn, bs, hd, sn, sub, ab, col, dd, a0, a1, a2, a3, a5, X _ _ ho, em, PySem.W.tail_of_in X w4⟩
section
variable {M : Model} {A : Around} {E : Value → Shared → Prop}
variable {nm q nm2 q2 : Str} {C N S N2 : Addr} {bs bm bs2 bm2 : List Value} {hdct hd2 : Bool} {sn sn2 : List Str} {sub sub2 : List Value} {ab ab2 : Bool} {col col2 : Option Bool} {dd dd2 : Option Addr} {k0 k1 k2 k3 k5 l0 l1 l2 l3 l5 : Option Value} {newId newId2 : String}
theorem matches_above {h : Heap} {g : Array GenState} {d : Drawn} {t : Nat} {os : OsState} {e : Addr} {oe : Obj} {Q : Bool → Shared → Prop}
    (hC : h.get? C = some (excClassObj nm q C N bs bm hdct sn sub ab col dd k0 k1 k2 k3 k5 newId)) (hS : h.get? S = some (excClassObj nm2 q2 S N2 bs2 bm2 hd2 sn2 sub2 ab2 col2 dd2 l0 l1 l2 l3 l5 newId2))
    (he : h.get? e = some oe) (hcls : oe.cls = .ref C) (hb2 : bm2.contains (.type "BaseException") = true) (hin : bm.contains (.ref S) = true)
    (hq : Q true ⟨h, g, d, t, os⟩) : wpAny M A (excMatches (.ref e) (.ref S)) Q E ⟨h, g, d, t, os⟩ := by
  have hcB : (Value.ref S :: bm2).contains (.type "BaseException") = true := by rw [List.contains_cons, hb2, Bool.or_true]
  have hcC : (Value.ref C :: bm).contains (.ref S) = true := by rw [List.contains_cons, hin, Bool.or_true]
  have f := tc_notTuple
  unfold excMatches
  repeat (first | (with_reducible refine wpAny_loadPart_at he ?_; rw [hcls]) | with_reducible refine wpAny_loadPart_at hS ?_ | (with_reducible refine wpAny_isSubtype_exc hS ?_; rw [hcB]) | (with_reducible refine wpAny_isSubtype_exc hC ?_; rw [hcC]) | wp_step)
  exact hq
end
end L2
namespace L2
open PySem PySem.Spec PyProof.Rows
noncomputable def excO (x C : Addr) : HO := .ext fun h => ∃ ob, h.get? x = some ob ∧ ob.cls = .ref C
theorem Un.track {P : Program} {w : World} {fs : List Addr} {H H' : Hp} {h h' : Heap} {x : Addr} {o : HO} (u : Un fs [] H H' h h') (nx : h.get? x = none) (ok : HOk P w H h) : Un fs [] H (upd H' x o) h h' := by
  have ne : ∀ {b ob}, h.get? b = some ob → b ≠ x := fun {b ob} e z => by rw [z, nx] at e; cases e
  have ne2 : ∀ {b ob}, H b = some ob → b ≠ x := fun {b ob} e => by
    obtain ⟨q, hq⟩ := (ok b ob e).there
    exact ne hq
  exact ⟨u.keep, u.slot, fun b ob e n hx => by rw [upd_ne (ne e)]; exact u.free b ob e n hx, u.there, fun b xs e => by rw [upd_ne (ne2 e)]; exact u.tups b xs e, fun b ob v e => by rw [upd_ne (ne2 e)]; exact u.frzs b ob v e, fun b ps e => by
    obtain ⟨more, z⟩ := u.tbls b ps e
    exact ⟨more, by rw [upd_ne (ne2 e)]; exact z⟩⟩
theorem HOk.track {P : Program} {w : World} {H' : Hp} {h : Heap} {x : Addr} {o : HO} (ok : HOk P w H' h) (nx : H' x = none) (new : ObjOk P w (upd H' x o) h x o) : HOk P w (upd H' x o) h := fun a ob e => by
  have ne : ∀ {b u}, H' b = some u → b ≠ x := fun {b u} q z => by rw [z, nx] at q; cases q
  by_cases z : a = x
  · subst z
    rw [upd_same] at e
    cases e
    exact new
  · rw [upd_ne z] at e
    exact (ok a ob e).stay (fun _ _ _ q => q) (fun b q => by rw [upd_ne (ne q)]; exact q) fun b xs q => q.keep fun u eu _ => by rw [upd_ne (ne eu)]; exact eu
section
variable {X : Cx} {pins : List (Addr × Obj)} {σ : St} {H : Hp} {s : Shared}
theorem name_goes {M : Model} {A : Around} {E : Value → Shared → Prop} {j : Nat} {n : Str} {pos : Pos} {Q : Unit → Shared → Prop} (I : Inv X pins σ H s) (hN : X.N.Nodup) (hj : X.N[j]? = some n) (hk : X.env.scope.names.lookup n = some .local)
    (h : ∀ s', Inv X pins (σ.set j none) H s' → Q () s') : wpAny M A (do bindName X.env n .none; unbindBehindTheSuite X.env n pos) Q E s := by
  obtain ⟨m, hn, hl⟩ := id I.loc
  have hc : (X.env.scope.kind == .class || (X.env.scope.kind == .module && X.env.locals != X.env.globals)) = false := by rw [I.ok.kind]; rfl
  refine wpAny_nameGoes_keeps hk hn hc fun h' v hn' hs => h _ ?_
  obtain ⟨oL, _, _, hoL, _⟩ := id hn
  have low : ∀ {b o}, X.s₀.heap.get? b = some o → b ≠ X.env.locals := fun {b o} e => Nat.ne_of_lt (Nat.lt_of_lt_of_le (Heap.lt_size e) I.ok.above)
  refine ⟨I.ok, I.os, I.bare, ⟨fun b o e n1 hb hx => (hs.2 b (low e)).trans (I.base.keep b o e n1 hb hx), fun b o e n1 hb hx => ?_, I.base.free, fun b o e hx => ?_, I.base.tups, I.base.frzs, I.base.tbls⟩, ⟨_, hn', fun i y v' e1 e2 e3 => ?_⟩, fun y c e => ?_, I.free, I.freeC, fun p hp => ?_, fun b ob e => ?_, by simpa using I.len⟩
  · obtain ⟨sl, q⟩ := I.base.slot b o e n1 hb hx
    exact ⟨sl, (hs.2 b (low e)).trans q⟩
  · obtain ⟨o', q⟩ := I.base.there b o e hx
    exact ⟨o', (hs.2 b (low e)).trans q⟩
  · by_cases z : i = j
    · subst z
      have li : i < σ.length := by rw [I.len]; exact (List.getElem?_eq_some_iff.mp hj).1
      rw [List.getElem?_set_self li] at e2
      cases e2
    · rw [List.getElem?_set_ne (Ne.symm z)] at e2
      obtain ⟨u, r, q⟩ := hl i y v' e1 e2 e3
      have yn : y ≠ n := fun q => z (nodup_ix hN e1 (q ▸ hj))
      refine ⟨u, r, ?_⟩
      rcases q with ⟨q1, q2⟩ | ⟨q1, c, q2, q3⟩
      · exact .inl ⟨q1, (if_neg yn).trans q2⟩
      · exact .inr ⟨q1, c, q2, q3.sameBut hs (I.cne y c q2)⟩
  · obtain ⟨v2, q⟩ := I.cell y c e
    exact ⟨v2, q.sameBut hs (I.cne y c e)⟩
  · obtain ⟨q1, q2, q3, q4, q5⟩ := I.pin p hp
    exact ⟨(hs.2 p.1 q3).trans q1, q2, q3, q4, q5⟩
  · refine (I.hok b ob e).stay (fun c u hc2 q => (hs.2 c fun z => ?_).trans q) (fun _ q => q) fun _ _ q => q
    have fr := I.free
    rcases hc2 with y | y
    · rw [← y, z, fr] at e; cases e
    · rw [z, fr] at y; cases y
noncomputable def Cx.marked (X : Cx) (x : Addr) : Cx := { X with A := X.A.mark (some (.ref x)), calm := false, xe := fun _ _ => False }
theorem Inv.marked (I : Inv X pins σ H s) (x : Addr) : Inv (X.marked x) pins σ H s :=
  ⟨⟨I.ok.mod, I.ok.kind, I.ok.glob, I.ok.blt, I.ok.above, I.ok.inj, I.ok.has, I.ok.cab, (fun z => nomatch z), I.ok.frames, I.ok.stk, I.ok.exf, I.ok.bs, I.ok.bsz, I.ok.noex, I.ok.exfs, I.ok.funs, I.ok.frf⟩, I.os, I.bare, I.base, I.loc, I.cell, I.free, I.freeC, I.pin, I.hok, I.len⟩
theorem Inv.unmarked {x : Addr} (hd : X.calm = true → X.A.handled = none) (I : Inv (X.marked x) pins σ H s) : Inv X pins σ H s :=
  ⟨⟨I.ok.mod, I.ok.kind, I.ok.glob, I.ok.blt, I.ok.above, I.ok.inj, I.ok.has, I.ok.cab, hd, I.ok.frames, I.ok.stk, I.ok.exf, I.ok.bs, I.ok.bsz, I.ok.noex, I.ok.exfs, I.ok.funs, I.ok.frf⟩, I.os, I.bare, I.base, I.loc, I.cell, I.free, I.freeC, I.pin, I.hok, I.len⟩
end
section
variable {X : Cx} {pins : List (Addr × Obj)} {σ : St} {H1 : Hp} {s1 s' : Shared} {C S : Addr} {nid nid2 : String} {bB bB2 : List Value} {sx n : Str} {np hpos : Pos} {b₀ : Stmt} {suite : List Stmt} {j : Nat} {ts : TS} {D : Ends} {E' : XK} {e : Value}
noncomputable def D1 (D : Ends) (j : Nat) : Ends := { nx := fun σ' H' => D.nx (σ'.set j none) H', rt := fun _ _ => False }
theorem caught_as (I1 : Inv X pins σ H1 s1) (hcalm : X.calm = true) (hst : X.stack = X.env :: X.outer) (hfm : X.env.frame = some X.env.locals) (hgS : Gl X sx) (hmS : X.mg sx = some (.ref S))
    (cC : PySem.W.excIn X.K C bB nid = true) (cS : PySem.W.excIn X.K S bB2 nid2 = true) (b2 : bB2.contains (.type "BaseException") = true) (hin : (mroOf X.K C).tail.contains (.ref S) = true)
    (hN : X.N.Nodup) (hj : X.N[j]? = some n) (hn : X.env.scope.names.lookup n = some .local) (hs : ∀ x, PSs (X.marked x) (b₀ :: suite) ts) (hdb : (sx == ("__debug__" : Str)) = false)
    (cx : CXC X.prog X.w (.ref C) X.stack H1 s1 E' e s') (hE : ∀ x H2, E' (.ref x) (some x) H2 → H2 x = none → ts (D1 D j) (σ.set j (some (.ref x))) (upd H2 x (excO x C))) :
    wpAny (model X.prog X.w) X.A (noteFrame e X.env) (fun _ s₂ => wpAny (model X.prog X.w) X.A (setFlight e none) (fun _ s₃ => wpAny (model X.prog X.w) X.A (handleBy e X.env [.ExceptHandler (some (.Name sx np)) (some n) (b₀ :: suite) hpos]) (SP X pins D) X.xe s₃) X.xe s₂) X.xe s' := by
  obtain ⟨x, H', rfl, hos, hbr, un, ok, ⟨newx, hx, T, a0, oe, vs, oT, tv, ex, ec, ed, e1, nT, hT, Tx, eT, edT, e3⟩, q⟩ := cx
  have fun0 := I1.env0.funs
  have frf := I1.stkFree
  obtain ⟨B, hB⟩ := heap_without s'.heap (x :: T :: frs X.stack)
  have frs' : ∀ b ∈ frs X.stack, H' b = none := fun b z => by
    obtain ⟨_, o, ho, _⟩ := fun0.mem z
    exact un.free b o ho (frf b z) (by simp)
  have fl : s'.heap.FunFrames B X.stack := funFrames_of fun0 (fun b z o ho => un.slot b o ho (frf b z) z (by simp)) fun b z => (hB b).1 (.tail _ (.tail _ z))
  have st : B.StaysIn s'.heap := fun b o hb => by
    by_cases z : b ∈ x :: T :: frs X.stack
    · rw [(hB b).1 z] at hb; cases hb
    · rw [(hB b).2 z] at hb; exact hb
  have fly : Heap.FlyingW B X.stack x (.ref C) a0 s'.heap := ⟨st, (hB x).1 (.head _), fl, oe, vs, T, oT, tv, ex, ec, ed, e1, (hB T).1 (.tail _ (.head _)), Tx, eT, edT, e3⟩
  have mkInv : ∀ h, Heap.FlyingW B X.stack x (.ref C) a0 h → s'.heap.UpToSlots h → Inv X pins σ (upd H' x (excO x C)) { s' with heap := h } := fun h fh sm => by
    have k : ∀ b o, b ∉ frs X.stack → b ≠ x → b ≠ T → s'.heap.get? b = some o → h.get? b = some o := fun b o n1 n2 n3 eb => fh.1 b o (by
      rw [(hB b).2 fun z => by
        rcases List.mem_cons.mp z with z | z
        · exact n2 z
        · rcases List.mem_cons.mp z with z | z
          · exact n3 z
          · exact n1 z]
      exact eb)
    have ks : ∀ b o, b ∈ frs X.stack → s'.heap.get? b = some o → ∃ sl, h.get? b = some { o with slots := sl } := fun b o z eb => sm b o eb (by
      obtain ⟨_, o2, h2, h3⟩ := fl.mem z
      rw [eb] at h2
      cases h2
      exact h3)
    obtain ⟨ob, hob, hcl⟩ := fh.there
    exact I1.call' (s' := { s' with heap := h }) hos ((un.left newx nT k ks).track newx I1.hok) ((ok.left frs' hx hT k).track hx ⟨⟨ob, hob, hcl⟩, ⟨ob, hob⟩, fun h1 h2 ⟨o1, z1, z2⟩ kk => ⟨o1, kk _ z1, z2⟩⟩) hbr (fun b z => absurd z (by simp))
  rw [hst] at fly
  refine wpAny_looks_onW (env := X.env) (outer := X.outer) (by rw [I1.ok.frames, hst]) hfm fly fun h₄ held sm₄ => ?_
  refine wpAny_landsW (s := { s' with heap := h₄ }) held fun h₅ fly₅ sm₅ => ?_
  refine wpAny_handleBy_cons (codeAny_handlers_test ?_) (by intro z; cases z)
  have sm5 := sm₄.trans sm₅
  have J₅ := mkInv h₅ (by rw [hst]; exact fly₅) sm5
  obtain ⟨tl, N, nm, qn, bs, hd, sn, sub, ab, col, dd, a0', a1, a2, a3, a5, oC, mC, oT'⟩ := class_mro I1.ok.mod.kin cC
  obtain ⟨tl2, N2, nm2, qn2, bs2, hd2, sn2, sub2, ab2, col2, dd2, c0, c1, c2, c3, c5, oS, mS, oTS⟩ := class_mro I1.ok.mod.kin cS
  obtain ⟨ob, hob, hcl⟩ := fly₅.there
  refine ld_glob (X := X.marked x) (J₅.marked x) hgS hmS ?_ hdb
  refine matches_above (J₅.bk _ _ oC) (J₅.bk _ _ oS) hob hcl (oTS.hasType b2) (by rw [mC] at hin; exact hin) ?_
  refine codeAny_handlers_suite_as ?_
  refine lands_againW (s := { s' with heap := h₅ }) fly₅ fun h₆ fly₆ sm₆ => ?_
  refine store_ok (v := .ref x) (mkInv h₆ (by rw [hst]; exact fly₆) (sm5.trans sm₆)) hN hj (.inl hn) rfl (fun s7 I7 => ?_) (.inr hn)
  refine wpAny_mono (hs x pins s7 _ _ (D1 D j) (I7.marked x) (hE x H' q hx)) (fun f s8 q8 => ?_) fun _ _ z => z.elim
  cases f with
  | next =>
    obtain ⟨σ', H8, I8, q⟩ := q8
    exact name_goes (I8.unmarked I1.ok.hd) hN hj hn fun s9 I9 => ⟨_, H8, I9, q⟩
  | brk => obtain ⟨_, _, _, z⟩ := q8; exact z.elim
  | cont => obtain ⟨_, _, _, z⟩ := q8; exact z.elim
  | ret u => obtain ⟨_, _, _, _, _, z⟩ := q8; exact z.elim
end
section
variable {X : Cx} {C S f : Addr} {k : Nat} {fd : FuncData} {ps : List Str} {sp : Sp} {dvs : List V} {ds : List Value} {nid nid2 : String} {bB bB2 : List Value} {fx sx n : Str} {p np hpos cpos epos pos : Pos} {b₀ : Stmt} {suite : List Stmt} {j : Nat} {t : TA} {ts : TS} {e : Expr} {es : List Expr}
end
end L2
namespace L2
open PySem PySem.Spec PyProof.Rows
section
variable {prog : Program} {w : World} {A : Around} {E : Value → Shared → Prop} {h : Heap} {g : Array GenState} {d : Drawn} {t : Nat} {os : OsState} {a : Addr} {o : Obj} {K : PySem.W.Frag}
  {nm q : Str} {C N : Addr} {bs bm bmB : List Value} {hdct : Bool} {sn : List Str} {sub : List Value} {ab : Bool} {col : Option Bool} {dd : Option Addr} {k0 k1 k2 k3 k5 : Option Value} {B newId : String}
theorem xc_get {R : Result → Shared → Prop} (hC : h.get? C = some (excClassObj nm q C N bs bm hdct sn sub ab col dd k0 k1 k2 k3 k5 newId)) (ho : bm.contains (.type "object") = true)
    (hx : h.get? a = some o) (hc : o.cls = .ref C) (hq : R (.ok (.ret (.ref C))) ⟨h, g, d, t, os⟩) :
    codeAny (model prog w) A (.call (.builtin "getset_descriptor.__get__") ⟨[.builtin "object.__class__", .ref a, .ref C], []⟩) R ⟨h, g, d, t, os⟩ := by
  have hT5 : (⟨h, g, d, t, os⟩ : Shared).TypeIs (.builtin "object.__class__") "getset_descriptor" := F.typeOf_object_class
  have hcB : (Value.ref C :: bm).contains (.type (".".intercalate ("object.__class__".cutAt '.').dropLast)) = true := by
    rw [F.owner_object_class, List.contains_cons, ho]; rfl
  refine codeAny_call_builtin F.slot_gs_get.plain F.entry_gs_get (F.slot_gs_get.check _ _ _ _ _ _ _ _ hT5 (F.args_gs_get _ _ _) ?_)
  repeat (any_goals (first | assumption | (with_reducible refine wpAny_loadPart_at hx ?_; rw [hc]) | (with_reducible refine wpAny_isSubtype_exc hC ?_; rw [hcB]) | wp_step))
  refine ⟨Code.quiet_builtin _ (by decide +kernel), codeAny_builtin F.entry_object_class ?_⟩
  repeat (any_goals (first | assumption | (with_reducible refine wpAny_loadPart_at hx ?_; rw [hc]) | wp_step))
theorem xc_entry {tk : Tok} {Q : Fin → Shared → Prop} (X : K.In h) (hca : PySem.W.findIn K (.ref C) "__class__" = some (some (.builtin "object.__class__"))) (hC : h.get? C = some (excClassObj nm q C N bs bm hdct sn sub ab col dd k0 k1 k2 k3 k5 newId)) (ho : bm.contains (.type "object") = true)
    (hx : h.get? a = some o) (hc : o.cls = .ref C) (hq : Q (.done (.ret (.ref C))) ⟨h, g, d, t, os⟩) :
    wpAny (model prog w) A (Builtin.«object.__getattribute__» ⟨[.ref a, .str "__class__" tk], []⟩) Q E ⟨h, g, d, t, os⟩ := by
  have hT5 : (⟨h, g, d, t, os⟩ : Shared).TypeIs (.builtin "object.__class__") "getset_descriptor" := F.typeOf_object_class
  have f5 := F.typeOf_object_class
  have f6 := F.slot_gs_get.lookup
  have f7 := F.slot_gs_set.lookup
  have L := PySem.W.looks_findIn (M := model prog w) X hca
  repeat (any_goals (first | assumption | (with_reducible refine wpAny_loadPart_at hx ?_; rw [hc]) | with_reducible refine L.at ?_ | wp_step))
  refine xc_get hC ho hx hc ?_
  repeat (any_goals (first | assumption | wp_step))
theorem xc_check {M : Model} {nameV : Value} {Q : Unit → Shared → Prop} (hC : h.get? C = some (excClassObj nm q C N bs bm hdct sn sub ab col dd k0 k1 k2 k3 k5 newId)) (hb : bm.contains (.type "BaseException") = true)
    (hx : h.get? a = some o) (hc : o.cls = .ref C) (hq : Q () ⟨h, g, d, t, os⟩) : wpAny M A (checkBuiltinCall "BaseException.__getattribute__" ⟨[.ref a, nameV], []⟩) Q E ⟨h, g, d, t, os⟩ := by
  have hk : builtinKind "BaseException.__getattribute__" = some .slot := by decide +kernel
  have hsp : splitId "BaseException.__getattribute__" = some ("BaseException", "__getattribute__") := by decide +kernel
  have hcB : (Value.ref C :: bm).contains (.type "BaseException") = true := by rw [List.contains_cons, hb]; rfl
  have ha := F.args_bexc_ga (.ref a) nameV
  simp only [checkBuiltinCall, hk, hsp]
  refine wpAny_bind ?_
  unfold isInstance
  repeat (first | (with_reducible refine wpAny_loadPart_at hx ?_; rw [hc]) | (with_reducible refine wpAny_isSubtype_exc hC ?_; rw [hcB]) | wp_step)
  exact hq
theorem xc_by {tk : Tok} {Q : Value → Shared → Prop} (FB : ExcAttrFacts B) (X : K.In h) (hga : PySem.W.findIn K (.ref C) "__getattribute__" = some (some (.builtin "BaseException.__getattribute__"))) (hgn : PySem.W.findIn K (.ref C) "__getattr__" = some none)
    (hca : PySem.W.findIn K (.ref C) "__class__" = some (some (.builtin "object.__class__"))) (hC : h.get? C = some (excClassObj nm q C N bs bm hdct sn sub ab col dd k0 k1 k2 k3 k5 newId)) (ho : bm.contains (.type "object") = true) (hb : bm.contains (.type "BaseException") = true)
    (hx : h.get? a = some o) (hc : o.cls = .ref C) (hq : Q (.ref C) ⟨h, g, d, t, os⟩) : wpAny (model prog w) A (getAttrBy (.ref a) (.str "__class__" tk) false) Q E ⟨h, g, d, t, os⟩ := by
  have f3 := FB.ga.bind (.ref a)
  have hx2 : (Value.builtin "BaseException.__getattribute__" == Value.builtin "object.__getattribute__") = false := by decide +kernel
  have hx1 : (onTheHeap (Value.ref C) && Value.builtin "BaseException.__getattribute__" == Value.builtin "object.__getattribute__") = false := by rw [hx2]; rfl
  have L1 := PySem.W.looks_findIn (M := model prog w) X hga
  have L2 := PySem.W.looks_findIn (M := model prog w) X hgn
  repeat (any_goals (first | assumption | (with_reducible refine wpAny_loadPart_at hx ?_; rw [hc]) | with_reducible refine L1.at ?_ | with_reducible refine L2.at ?_ | wp_step))
  refine codeAny_call_builtin FB.ga.plain F.entry_bexc_ga (xc_check hC hb hx hc (xc_entry X hca hC ho hx hc ?_))
  repeat (any_goals (first | assumption | wp_step))
theorem xc_attr {Q : Option Value → Shared → Prop} (FB : ExcAttrFacts B) (X : K.In h) (hga : PySem.W.findIn K (.ref C) "__getattribute__" = some (some (.builtin "BaseException.__getattribute__"))) (hgn : PySem.W.findIn K (.ref C) "__getattr__" = some none)
    (hca : PySem.W.findIn K (.ref C) "__class__" = some (some (.builtin "object.__class__"))) (hC : h.get? C = some (excClassObj nm q C N bs bm hdct sn sub ab col dd k0 k1 k2 k3 k5 newId)) (ho : bm.contains (.type "object") = true) (hb : bm.contains (.type "BaseException") = true)
    (hx : h.get? a = some o) (hc : o.cls = .ref C) (hq : Q (some (.ref C)) ⟨h, g, d, t + 1, os⟩) : wpAny (model prog w) A (getAttr? (.ref a) "__class__") Q E ⟨h, g, d, t, os⟩ := by
  unfold getAttr? getAttrBy?
  repeat (any_goals (first | assumption | with_reducible apply xc_by FB X hga hgn hca hC ho hb hx hc | wp_step))
end
structure XcOk (K : PySem.W.Frag) (C : Addr) (B nid : String) (bB : List Value) : Prop where
  ex : PySem.W.excIn K C bB nid = true
  attr : ExcAttrFacts B
  ga : PySem.W.findIn K (.ref C) "__getattribute__" = some (some (.builtin "BaseException.__getattribute__"))
  gn : PySem.W.findIn K (.ref C) "__getattr__" = some none
  ca : PySem.W.findIn K (.ref C) "__class__" = some (some (.builtin "object.__class__"))
  ho : bB.contains (.type "object") = true
  hb : bB.contains (.type "BaseException") = true
theorem kitx_exc {K : PySem.W.Frag} {C x : Addr} {B nid : String} {bB : List Value} (Z : XcOk K C B nid bB) : PySem.W.KitX K (.ref x) (.ref C) (fun h => ∃ ob, h.get? x = some ob ∧ ob.cls = .ref C) where
  ty := fun M h _ ⟨ob, e, c⟩ => c ▸ (PySem.W.Looks.ld e).andThen .now
  it := fun M h X _ => by
    obtain ⟨tl, N, nm, qn, bs, hd, sn, sub, ab, col, dd, a0, a1, a2, a3, a5, oC, _, _⟩ := class_mro X Z.ex
    intro A2 Q2 E2 s2 k2 q2
    unfold isType loadHead
    exact wpAny_bind (wpAny_loadPart (k2 _ _ oC) (wpAny_pure q2))
  ne := fun h tp dd its n sl X htp => by
    obtain ⟨tl, N, nm, qn, bs, hd, sn, sub, ab, col, dd2, a0, a1, a2, a3, a5, oC, _, _⟩ := class_mro X Z.ex
    refine Bool.eq_false_iff.mpr fun z => ?_
    have e : C = tp := Value.ref.inj (beq_iff_eq.mp z)
    subst e
    have y := congrArg (fun o => o.data) (Option.some.inj (oC.symm.trans htp))
    exact absurd y (fun w => nomatch w)
  ca := fun {prog w A E Q s} X ⟨ob, e, c⟩ k2 => by
    obtain ⟨tl, N, nm, qn, bs, hd, sn, sub, ab, col, dd2, a0, a1, a2, a3, a5, oC, _, oT⟩ := class_mro X Z.ex
    obtain ⟨hh, g, d, t, os⟩ := s
    exact xc_attr Z.attr X Z.ga Z.gn Z.ca oC (oT.hasType Z.ho) (oT.hasType Z.hb) e c k2
noncomputable def rIsX (K : PySem.W.Frag) (C : Addr) : List V → Hp → VK → Prop := fun xs H Q => ∃ x S b, xs = [.ref x, .ref S] ∧ H x = some (excO x C) ∧ PySem.W.kitOne K (.ref C) (.ref S) = some b ∧ Q (.bl b) H
noncomputable def rIsXT (K : PySem.W.Frag) (C : Addr) : List V → Hp → VK → Prop := fun xs H Q => ∃ x T b, xs = [.ref x, .ty T] ∧ H x = some (excO x C) ∧ PySem.W.kitOne K (.ref C) (.type T) = some b ∧ Q (.bl b) H
noncomputable def rIsXs (K : PySem.W.Frag) (C : Addr) : List V → Hp → VK → Prop := fun xs H Q => ∃ (x tp : Addr) (cs : List Addr) (b : Bool), xs = [.ref x, .ref tp] ∧ H x = some (excO x C) ∧ SqT K H tp (cs.map V.ref) ∧ PySem.W.kitAny K (.ref C) (cs.map Value.ref) = some b ∧ Q (.bl b) H
theorem vals_refs : ∀ {cs : List Addr} {us : List Value}, Vals (cs.map V.ref) us → us = cs.map Value.ref
  | [], _, r => by cases r; rfl
  | c :: cs, _, r => by
    cases r with
    | cons h t =>
      cases (show _ = _ from h)
      rw [vals_refs t]
      rfl
section
variable {X : Cx} {C : Addr} {B nid : String} {bB : List Value}
theorem call_isX (Z : XcOk X.K C B nid bB) : CallR X (.builtin "isinstance") (rIsX X.K C) := by
  intro pins s σ H xs us Q I r ⟨x, S, b, e, hx, ek, q⟩
  subst e
  obtain ⟨u, w', rfl, rx, rt⟩ := vals2 r
  cases (show w' = Value.ref S from rt)
  cases (show u = Value.ref x from rx)
  obtain ⟨p, _⟩ := I.hok x _ hx
  exact PySem.W.kia_one (kitx_exc Z) I.kIn p ek (fun z => nomatch z) fun tk => ⟨.bl b, H, I.tok tk, rfl, q⟩
theorem call_isXT (Z : XcOk X.K C B nid bB) : CallR X (.builtin "isinstance") (rIsXT X.K C) := by
  intro pins s σ H xs us Q I r ⟨x, T, b, e, hx, ek, q⟩
  subst e
  obtain ⟨u, w', rfl, rx, rt⟩ := vals2 r
  cases (show w' = Value.type T from rt)
  cases (show u = Value.ref x from rx)
  obtain ⟨p, _⟩ := I.hok x _ hx
  exact PySem.W.kia_one (kitx_exc Z) I.kIn p ek (fun z => nomatch z) fun tk => ⟨.bl b, H, I.tok tk, rfl, q⟩
theorem call_isXs (Z : XcOk X.K C B nid bB) : CallR X (.builtin "isinstance") (rIsXs X.K C) := by
  intro pins s σ H xs us Q I r ⟨x, tp, cs, b, e, hx, ht, ek, q⟩
  subst e
  obtain ⟨u, w', rfl, rx, rt⟩ := vals2 r
  cases (show w' = Value.ref tp from rt)
  cases (show u = Value.ref x from rx)
  obtain ⟨p, _⟩ := I.hok x _ hx
  obtain ⟨its, rv, ⟨o, e1, e2, n, e3⟩, _⟩ := I.tuple ht
  have ei := vals_refs rv
  subst ei
  obtain ⟨oc, od, odt, osl⟩ := o
  cases (show oc = _ from e2)
  cases (show odt = _ from e3)
  exact PySem.W.kia_tup (kitx_exc Z) I.kIn p e1 ek (fun z => nomatch z) fun tk => ⟨.bl b, H, I.tok tk, rfl, q⟩
end
end L2
namespace L2
open PySem PySem.Spec PyProof.Rows
section
variable {X : Cx}
end
end L2
namespace My
open PySem L2
open PySem.W (Dat kqdP kqdPs kqdOk)
end My
namespace My
open PySem L2
open PySem.W (Dat kqdP kqdPs kqdOk)
end My
namespace L2
open PySem PySem.Spec PyProof.Rows
section
open PySem.SeqAt
open PySem.AutoSeq1 (wpAny_loadPart')
open PySem.MeetsSeq PySem.MeetsSeq2 PySem.MeetsSeq3
end
section
variable {X : Cx}
end
end L2
namespace My
open PySem L2
open PySem.W (Dat kqdP kqdPs kqdOk)
end My
namespace L2
open PySem PySem.Spec PyProof.Rows
section
open PySem.Sem (wp)
end
section
variable {X : Cx}
end
end L2
namespace L2
open PySem PySem.Spec PyProof.Rows
structure FunD (K : PySem.W.Frag) (x qual : Str) (st : Stmt) (f : Addr) (fd : FuncData) (T : Addr) : Prop where
  ex : ∃ (oc : Value) (od : Option Addr) (kV doc pm : Value) (an : Option Addr) (cdv ct : Value) (osl : Array (Option Value)),
    fd = PySem.W.fnOf x qual (defArgs st) (defBody st) (defScope st) (.ref T) kV doc pm an cdv ct ∧ K.lookup f = some ⟨oc, od, .func fd, osl⟩ ∧ PySem.W.codeIn K cdv qual = true
  kp : PySem.W.keepIn K (.ref f) = true
section
variable {P : Program} {w : World} {K : PySem.W.Frag} {mg : Str → Option Value} {base : Heap}
theorem FunD.okB {x qual : Str} {st : Stmt} {f T : Addr} {fd : FuncData} {N ps : List Str} {k : Nat} {sp : Sp} (F : FunD K x qual st f fd T) (S : FnScope N ps (defScope st)) (len : ∀ vs H Q E, sp vs H Q E → vs.length = ps.length)
    (hbody : ∀ (cdv : Value) (A : Around) (outer : List Env) (s : Shared) (H : Hp) (vs : List V) (Q : VK) (E : XK), Room k (A.deeper (envOfC qual (defScope st) s.heap.objs.size f cdv)) → sp vs H Q E →
      ∃ t, Bx (PSs (cxOf CX0 P w K mg base N qual (defScope st) f cdv A outer s H E).nox (defBody st) t) ∧ t { nx := fun _ H2 => Q .non H2, rt := Q } (start N vs) H) : FnOk P w K mg base CX0 (k + 1) f fd ps sp := by
  obtain ⟨oc, od, kV, doc, pm, an, cdv, ct, osl, rfl, lk, hcd⟩ := F.ex
  refine fn_of lk hcd S len fun A outer s H vs Q E hr hsp => ?_
  obtain ⟨t, h, q⟩ := hbody cdv A outer s H vs Q E hr hsp
  exact ⟨t, h.1.nox, q⟩
theorem FunD.binds {x qual : Str} {st : Stmt} {f T : Addr} {fd : FuncData} {ps : List Str} {ds : List Value} (F : FunD K x qual st f fd T)
    (h : ∀ (kV doc pm : Value) (an : Option Addr) (cdv ct : Value) (s : Shared) (us : List Value), K.In s.heap → (us ++ ds).length = ps.length →
      BindsTo s (PySem.W.fnOf x qual (defArgs st) (defBody st) (defScope st) (.ref T) kV doc pm an cdv ct) ⟨us, []⟩ (ps.zip (us ++ ds))) : Binds K fd ps ds := by
  obtain ⟨oc, od, kV, doc, pm, an, cdv, ct, osl, rfl, lk, hcd⟩ := F.ex
  exact h kV doc pm an cdv ct
end
end L2
namespace My
open PySem L2
end My
namespace L2
open PySem PySem.Spec PyProof.Rows
noncomputable def strsLook : List Str → List Value → Bool
  | [], [] => true
  | x :: xs, .str y _ :: vs => x == y && strsLook xs vs
  | _, _ => false
noncomputable def TupK (K : PySem.W.Frag) (a : Addr) (xs : List Str) : Prop := (match K.lookup a with
  | some o => (o.cls == .type "tuple" && o.dict.isNone) && (match o.data with
    | .seq vs _ => strsLook xs vs.toList
    | _ => false)
  | none => false) = true
theorem strs_vals : ∀ {xs : List Str} {vs : List Value}, strsLook xs vs = true → Vals (xs.map V.str) vs
  | [], [], _ => .nil
  | x :: xs, v :: vs, h => by
    cases v with
    | str y t =>
      have h' : (x == y && strsLook xs vs) = true := h
      rw [Bool.and_eq_true] at h'
      have e : x = y := eq_of_beq h'.1
      subst e
      exact .cons ⟨t, rfl⟩ (strs_vals h'.2)
    | _ => simp [strsLook] at h
  | [], _ :: _, h => by simp [strsLook] at h
  | _ :: _, [], h => by simp [strsLook] at h
theorem TupK.sq {K : PySem.W.Frag} {H : Hp} {a : Addr} {xs : List Str} (h : TupK K a xs) (hz : xs.length ≤ 1000) : SqT K H a (xs.map V.str) := by
  unfold TupK at h
  cases e : K.lookup a with
  | none => rw [e] at h; cases h
  | some o =>
    rw [e] at h
    simp only [Bool.and_eq_true] at h
    obtain ⟨⟨h1, _⟩, h2⟩ := h
    cases ed : o.data with
    | seq vs n =>
      rw [ed] at h2
      have rv := strs_vals h2
      have lv := rv.length
      rw [List.length_map] at lv
      have lz : vs.size = xs.length := by rw [lv, Array.length_toList]
      have line : (1000 : Nat) ≤ sizeLine := by decide
      exact .inr ⟨o, vs, n, e, beq_iff_eq.mp h1, ed, by omega, rv⟩
    | _ => rw [ed] at h2; cases h2
theorem TupK.plain {K : PySem.W.Frag} {a : Addr} {xs : List Str} (h : TupK K a xs) : ∃ o, K.lookup a = some o ∧ o.cls = .type "tuple" ∧ o.dict = none := by
  unfold TupK at h
  cases e : K.lookup a with
  | none => rw [e] at h; cases h
  | some o =>
    rw [e] at h
    simp only [Bool.and_eq_true] at h
    exact ⟨o, rfl, beq_iff_eq.mp h.1.1, Option.isNone_iff_eq_none.mp h.1.2⟩
end L2
namespace L2
open PySem PySem.Spec PyProof.Rows
section
variable {X : Cx} {o e : Expr} {apos cpos : Pos} {td ty : TE}
end
section
variable {X : Cx} {e : Expr} {te : TE} {p p' pos pos' : Pos}
end
end L2
namespace L2
open PySem PySem.Spec PyProof.Rows
open PySem.W (Dat kqdP kqdPs kqdOk)
section
variable {X : Cx}
open Classical in
end
section
variable {X : Cx} {K : PySem.W.Frag}
end
end L2
namespace My
open PySem L2
end My
namespace My
open PySem L2
end My
namespace L2
open PySem PySem.Spec PyProof.Rows
noncomputable def Itz (a b : Addr) : It :=
  ⟨fun i H => ∃ xs ys x y, H a = some (.lst xs) ∧ H b = some (.lst ys) ∧ xs[i]? = some x ∧ ys[i]? = some y,
   fun i H v H' => ∃ T x y, H T = none ∧ v = .ref T ∧ H' = upd H T (.tup [x, y]) ∧ ∀ xs ys, H a = some (.lst xs) → H b = some (.lst ys) → xs[i]? = some x ∧ ys[i]? = some y,
   fun i H => ∃ xs ys, H a = some (.lst xs) ∧ H b = some (.lst ys) ∧ (xs.length ≤ i ∨ ys.length ≤ i)⟩
theorem far {n : Nat} (i j : Nat) (h : i ≠ j) : (n + i : Nat) ≠ n + j := by omega
theorem Inv.turnedC {X : Cx} {pins : List (Addr × Obj)} {σ : St} {H : Hp} {s : Shared} {h' : Heap} {t' : Nat} {ch : List Addr} (I : Inv X pins σ H s)
    (hch : ∀ b ∈ ch, FpOk X pins H b) (k : ∀ b u, b ∉ ch → s.heap.get? b = some u → h'.get? b = some u) : Inv X pins σ H { s with heap := h', toks := t' } := by
  have nch : ∀ c u, H c = some u → c ∉ ch := fun c u e z => by rw [(hch c z).1] at e; cases e
  refine I.step (g' := s.gens) (d' := s.drawn) (ch := ch) (fun b hb => ⟨(hch b hb).2.2.2.1, (hch b hb).2.1, (hch b hb).2.2.2.2.1, (hch b hb).2.2.2.2.2⟩)
    (fun b u _ _ hc e _ => k b u hc e) (fun b u _ _ hc e _ => ⟨u.slots, k b u hc e⟩) (fun _ _ _ _ q => q) (fun b u hc e => ⟨u, k b u hc e⟩)
    (fun _ _ q => q) (fun _ _ _ q => q) (fun b ps q => ⟨#[], by rw [q]; simp⟩) (fun m hm => ?_) (fun b u e => ?_) I.bare
  · exact hm.at' fun ob e => k _ ob (fun z => (hch _ z).2.1 rfl) e
  · refine (I.hok b u e).stay (fun c v hc q => k c v ?_ q) (fun c q => q) fun c xs q => q
    rcases hc with rfl | hc
    · exact nch _ _ e
    · exact nch _ _ hc
theorem apart_of {n : Nat} {l1 l2 : Addr} (a1 : l1 ≠ n + 4) (a2 : l1 ≠ n + 3) (a3 : l1 ≠ n) (a4 : l1 ≠ n + 1) (b1 : l2 ≠ n + 4) (b2 : l2 ≠ n + 3) (b3 : l2 ≠ n) (b4 : l2 ≠ n + 1) : ZipApart (n + 4) (n + 2) (n + 3) n (n + 1) l1 l2 :=
  ⟨far 2 4 (by decide), far 3 4 (by decide), far 0 4 (by decide), far 1 4 (by decide), far 2 3 (by decide), far 2 0 (by decide), far 2 1 (by decide), far 3 0 (by decide), far 3 1 (by decide), far 0 1 (by decide), a1, a2, a3, a4, b1, b2, b3, b4⟩
theorem turn_zip {P : Program} {w : World} {K : PySem.W.Frag} {elts : List Expr} {k : Nat} {tp : Pos} (a b : Addr) (n : Nat) :
    Turn P w K (.Tuple elts k tp) (Itz a b) [n + 4, n + 2, n + 3, n, n + 1] (n + 4)
      (fun i h => IsZip h (n + 4) (n + 2) (n + 3) .none ∧ IsPair h (n + 2) (.ref n) (.ref (n + 1)) ∧ (∃ u v, IsPair h (n + 3) u v) ∧ h.IsListIter n a i ∧ h.IsListIter (n + 1) b i) where
  mem := by simp
  obj := fun i h st c hc => by
    obtain ⟨hz, hI, ⟨u, v, hO⟩, ⟨o1, e1, _, d1⟩, ⟨o2, e2, _, d2⟩⟩ := st
    simp only [List.mem_cons, List.not_mem_nil, or_false] at hc
    rcases hc with rfl | rfl | rfl | rfl | rfl
    · exact ⟨_, hz, fun v z => nomatch z⟩
    · exact ⟨_, hI, fun v z => nomatch z⟩
    · exact ⟨_, hO, fun v z => nomatch z⟩
    · exact ⟨o1, e1, fun v z => by rw [d1] at z; cases z⟩
    · exact ⟨o2, e2, fun v z => by rw [d2] at z; cases z⟩
  keep := fun i h h' st kp => by
    obtain ⟨hz, hI, ⟨u, v, hO⟩, h1, h2⟩ := st
    exact ⟨kp _ (by simp) _ hz, kp _ (by simp) _ hI, ⟨u, v, kp _ (by simp) _ hO⟩, h1.at fun o q => kp _ (by simp) o q, h2.at fun o q => kp _ (by simp) o q⟩
  item := by
    intro X hP hw hK hc i pins s σ H E I hf st hg
    subst hP hw hK
    obtain ⟨hz, hI, ⟨u, v, hO⟩, h1, h2⟩ := st
    obtain ⟨xs, ys, x, y, ha, hb, hx, hy⟩ := hg
    obtain ⟨its, rv, p1, _⟩ := I.list (.of ha)
    obtain ⟨its2, rv2, p2, _⟩ := I.list (.of hb)
    obtain ⟨u1, hu1, ru1⟩ := rv.get hx
    obtain ⟨u2, hu2, ru2⟩ := rv2.get hy
    have no : ∀ {l : Addr} {o : HO}, H l = some o → ∀ c ∈ [n + 4, n + 2, n + 3, n, n + 1], l ≠ c := fun e c hc z => by
      rw [z, (hf c hc).1] at e
      cases e
    have D : ZipApart (n + 4) (n + 2) (n + 3) n (n + 1) a b := apart_of (no ha (n + 4) (by simp)) (no ha (n + 3) (by simp)) (no ha n (by simp)) (no ha (n + 1) (by simp)) (no hb (n + 4) (by simp)) (no hb (n + 3) (by simp)) (no hb n (by simp)) (no hb (n + 1) (by simp))
    refine wpAny_pyNext_zip_item D hz hI hO h1 h2 p1.isList p2.isList (x := u1) (y := u2) (by simpa using hu1) (by simpa using hu2) fun h' z1 z2 z3 z4 z5 z6 hk => ?_
    have new : ∀ {c : Addr} {o : Obj}, s.heap.get? c = some o → c ≠ s.heap.objs.size := fun e => Nat.ne_of_lt (Heap.lt_size e)
    have I1 : Inv X pins σ (upd H s.heap.objs.size (.tup [x, y])) { s with heap := h' } :=
      I.laidC (t' := s.toks) (ch := [n + 4, n + 2, n + 3, n, n + 1]) hf (fun c o hc q => hk c o (fun z => hc (by simp [z])) (fun z => hc (by simp [z])) (fun z => hc (by simp [z])) (fun z => hc (by simp [z])) q) (Nat.le_refl _)
        ⟨(by show 2 ≤ sizeLine; decide), [u1, u2], .cons ru1 (.cons ru2 .nil), _, z5, rfl, _, rfl⟩
    refine ⟨_, rfl, wpAny_letOwnedTupleGo_zip z1 fun h2' w1 sb => ?_⟩
    have fz := hf (n + 4) (by simp)
    have I2 : Inv X pins σ (upd H s.heap.objs.size (.tup [x, y])) { s with heap := h2' } :=
      I1.turned (t' := s.toks) (fun c o hc q => (sb.2 c hc).trans q) (by rw [upd_ne (new hz)]; exact fz.1) fz.2.1 fz.2.2.2.1 fz.2.2.2.2.1 fz.2.2.2.2.2
    refine ⟨.ref s.heap.objs.size, _, I2, rfl, ⟨_, x, y, I.hok.fresh (Nat.le_refl _), rfl, rfl, fun xs' ys' hxs hys => ?_⟩, ⟨w1, ?_, ⟨u1, u2, ?_⟩, ?_, ?_⟩, fun c hc => ?_⟩
    · rw [ha] at hxs
      rw [hb] at hys
      cases hxs
      cases hys
      exact ⟨hx, hy⟩
    · exact sb.extBut _ _ (far 2 4 (by decide)) (hk _ _ (far 2 4 (by decide)) (far 2 3 (by decide)) (far 2 0 (by decide)) (far 2 1 (by decide)) hI)
    · exact sb.extBut _ _ (far 3 4 (by decide)) z2
    · exact z3.extBut sb.extBut (far 0 4 (by decide))
    · exact z4.extBut sb.extBut (far 1 4 (by decide))
    · have hn : c ≠ s.heap.objs.size := by
        simp only [List.mem_cons, List.not_mem_nil, or_false] at hc
        rcases hc with rfl | rfl | rfl | rfl | rfl
        · exact new hz
        · exact new hI
        · exact new hO
        · obtain ⟨o, e, _⟩ := h1; exact new e
        · obtain ⟨o, e, _⟩ := h2; exact new e
      rw [upd_ne hn]
      exact (hf c hc).1
  done := by
    intro X hP hw hK hc i pins s σ H E I hf st hg
    subst hP hw hK
    obtain ⟨hz, hI, ⟨u, v, hO⟩, h1, h2⟩ := st
    obtain ⟨xs, ys, ha, hb, hx⟩ := hg
    obtain ⟨its, rv, p1, _⟩ := I.list (.of ha)
    obtain ⟨its2, rv2, p2, _⟩ := I.list (.of hb)
    have no : ∀ {l : Addr} {o : HO}, H l = some o → ∀ c ∈ [n + 4, n + 2, n + 3, n, n + 1], l ≠ c := fun e c hc z => by
      rw [z, (hf c hc).1] at e
      cases e
    have D : ZipApart (n + 4) (n + 2) (n + 3) n (n + 1) a b := apart_of (no ha (n + 4) (by simp)) (no ha (n + 3) (by simp)) (no ha n (by simp)) (no ha (n + 1) (by simp)) (no hb (n + 4) (by simp)) (no hb (n + 3) (by simp)) (no hb n (by simp)) (no hb (n + 1) (by simp))
    have l1 := rv.length
    have l2 := rv2.length
    refine wpAny_pyNext_zip_end (I.ok.hd hc) D hz hI hO h1 h2 p1.isList p2.isList (hx.elim (fun q => .inl (by simp; omega)) fun q => .inr (by simp; omega)) fun h' hk => ⟨rfl, ?_⟩
    exact I.turnedC (t' := s.toks) (ch := [n + 4, n + 2, n + 3, n, n + 1]) hf fun c o hc q => hk c o (fun z => hc (by simp [z])) (fun z => hc (by simp [z])) (fun z => hc (by simp [z])) (fun z => hc (by simp [z])) q
  self := fun _ _ _ _ _ st h => wpAny_pyIter_zip st.1 h
noncomputable def iZip (ta : TA) : TI := fun σ H R => ta σ H fun vs H1 => ∃ a b xs ys, vs = [.ref a, .ref b] ∧ H1 a = some (.lst xs) ∧ H1 b = some (.lst ys) ∧ R (Itz a b) H1
theorem pi_zip {X : Cx} {e1 e2 : Expr} {ta : TA} {p pos tp : Pos} {elts : List Expr} {k : Nat} (hg : Gl X "zip") (hm : X.mg "zip" = none) (ha : PA X [e1, e2] ta)
    (hs : starEach [e1, e2] X.env = [(false, eval e1 X.env), (false, eval e2 X.env)] := by rfl) (hs2 : starEach [e2] X.env = [(false, eval e2 X.env)] := by rfl) : PI X (.Tuple elts k tp) (.Call (.Name "zip" p) [e1, e2] [] pos) (iZip ta) := by
  intro pins s σ H R I h
  refine Call_ (ld_blt I hg hm boot_zip (PyProof.Rows.callWith_type1 (thn (ha pos pins s σ H _ I h) fun us s1 ⟨vs, H1, I1, r1, q1⟩ => ?_) (by rw [hs, hs2]) (by rw [hs2]; rfl)))
  obtain ⟨a, b, xs, ys, e, ha', hb', q⟩ := q1
  subst e
  cases r1 with
  | cons r rr =>
    cases rr with
    | cons r' rr =>
      cases rr
      cases r
      cases r'
      obtain ⟨its, rv, p1, _⟩ := I1.list (.of ha')
      obtain ⟨its2, rv2, p2, _⟩ := I1.list (.of hb')
      refine call_zip_2 p1.isList p2.isList fun h' z1 z2 z3 z4 z5 z6 hk => wpAny_pyIter_zip z1 ?_
      refine ⟨s1.heap.objs.size + 4, [s1.heap.objs.size + 4, s1.heap.objs.size + 2, s1.heap.objs.size + 3, s1.heap.objs.size, s1.heap.objs.size + 1], _, _, H1, rfl, I1.kept (t' := s1.toks) hk, turn_zip a b s1.heap.objs.size, ⟨z1, z2, ⟨_, _, z3⟩, z4, z5⟩, fun c hc => ?_, q⟩
      have le : s1.heap.objs.size ≤ c := by
        simp only [List.mem_cons, List.not_mem_nil, or_false] at hc
        rcases hc with rfl | rfl | rfl | rfl | rfl
        · exact Nat.le_add_right _ _
        · exact Nat.le_add_right _ _
        · exact Nat.le_add_right _ _
        · exact Nat.le_refl _
        · exact Nat.le_add_right _ _
      exact I1.fpOk le (I1.hok.fresh le)
theorem for_zip {a b : Addr} {xs ys : List V} {g : TG} {tb : TS} {D : Ends} {σ : St} {H : Hp} (hlen : xs.length = ys.length) (Pv : Nat → St → Hp → Prop) (h0 : Pv 0 σ H)
    (hl : ∀ i σ H, i ≤ xs.length → Pv i σ H → H a = some (.lst xs) ∧ H b = some (.lst ys))
    (hs : ∀ i x y σ H T, xs[i]? = some x → ys[i]? = some y → Pv i σ H → H T = none → g (.ref T) σ (upd H T (.tup [x, y])) fun σ2 H2 => tb { D with nx := Pv (i + 1), ct := Pv (i + 1), bk := D.nx } σ2 H2)
    (hd : ∀ σ H, Pv xs.length σ H → D.nx σ H) :
    ∃ W : Nat → Nat → St → Hp → Prop, (∃ m, W 0 m σ H) ∧ ∀ i m σ H, W i m σ H →
      ((Itz a b).stop i H ∧ D.nx σ H) ∨ ((Itz a b).go i H ∧ ∃ N : St → Hp → Prop, (∀ σ' H', N σ' H' → ∃ m', m' < m ∧ W (i + 1) m' σ' H') ∧
        ∀ x H', (Itz a b).yld i H x H' → g x σ H' fun σ2 H2 => tb { D with nx := N, ct := N, bk := D.nx } σ2 H2) := by
  refine ⟨fun i m σ H => m = xs.length - i ∧ i ≤ xs.length ∧ Pv i σ H, ⟨xs.length, by simp, Nat.zero_le _, h0⟩, ?_⟩
  rintro i m σ H ⟨rfl, hi, p⟩
  obtain ⟨qa, qb⟩ := hl i σ H hi p
  by_cases hlt : i < xs.length
  · refine .inr ⟨⟨xs, ys, xs[i], ys[i], qa, qb, by simp [hlt], List.getElem?_eq_getElem _⟩, Pv (i + 1), fun σ' H' p' => ⟨xs.length - (i + 1), by omega, rfl, hlt, p'⟩, fun x H' y => ?_⟩
    obtain ⟨T, u, v, hT, e1, e2, y⟩ := y
    subst e1 e2
    obtain ⟨y1, y2⟩ := y xs ys qa qb
    exact hs i u v σ H T y1 y2 p hT
  · have e : i = xs.length := by omega
    subst e
    exact .inl ⟨⟨xs, ys, qa, qb, .inl (Nat.le_refl _)⟩, hd σ H p⟩
theorem bpi_zip {X : Cx} {e1 e2 : Expr} {ta : TA} {p pos tp : Pos} {elts : List Expr} {k : Nat} (hg : Gl X "zip") (hm : X.mg "zip" = none) (ha : Bx (PA X [e1, e2] ta))
    (hs : starEach [e1, e2] X.env = [(false, eval e1 X.env), (false, eval e2 X.env)] := by rfl) (hs2 : starEach [e2] X.env = [(false, eval e2 X.env)] := by rfl) : Bx (PI X (.Tuple elts k tp) (.Call (.Name "zip" p) [e1, e2] [] pos) (iZip ta)) := ⟨pi_zip hg hm ha.1 hs hs2⟩
end L2
namespace L2
open PySem PySem.Spec PyProof.Rows
noncomputable def EntD (h : Heap) (d : Addr) (es : Array DictEntry) (ep : Nat) : Prop := ∃ ob, h.get? d = some ob ∧ ob.ExactDict ∧ ob.data = .dict es ep
section
variable {prog : Program} {w : World} {A : Around} {E : Value → Shared → Prop} {s : Shared}
end
section
variable {g : TG} {tt : TT} {te : TE} {n0 : Nat} {cap : List Nat} {σ : St} {Q : VK} {D : Addr} {H1 : Hp}
end
end L2
namespace L2
open PySem PySem.Spec PyProof.Rows
end L2
namespace L2
open PySem PySem.Spec PyProof.Rows
theorem RdT.tup {K : PySem.W.Frag} {H : Hp} {c : Addr} {xs : List V} (q : RdT H c xs) : SqT K H c xs := .inl q
section
variable {prog : Program} {w : World} {A : Around} {E : Value → Shared → Prop} {s : Shared} {Ky : Type} [DecidableEq Ky] {knd : HeapKind prog w Ky}
end
end L2
namespace L2
open PySem PySem.Spec PyProof.Rows
section
variable {prog : Program} {w : World} {A : Around} {E : Value → Shared → Prop} {s : Shared}
theorem EntD.at {h h' : Heap} {d : Addr} {es : Array DictEntry} {ep : Nat} (x : EntD h d es ep) (k : ∀ o, h.get? d = some o → h'.get? d = some o) : EntD h' d es ep := let ⟨o, e, r⟩ := x; ⟨o, k o e, r⟩
end
end L2
namespace L2
open PySem PySem.Spec PyProof.Rows
section
variable {prog : Program} {w : World} {A : Around} {E : Value → Shared → Prop} {s : Shared}
end
section
variable {X : Cx} {o : Expr} {td : TE} {p ap cp pos : Pos}
end
section
variable {g : TG} {tt : TT} {te : TE} {n0 : Nat} {cap : List Nat} {σ : St} {Q : VK} {D : Addr} {H1 : Hp}
end
end L2
namespace L2
open PySem PySem.Spec PyProof.Rows
open PySem.W (Dat kqdP kqdPs kqdOk)
section
variable {X : Cx}
open Classical in
end
end L2
namespace L2
open PySem PySem.Spec PyProof.Rows
section
variable {prog : Program} {w : World} {A : Around} {E : Value → Shared → Prop} {s : Shared}
end
section
variable {X : Cx}
noncomputable def rInsert : V → List V → Hp → VK → Prop := fun v vs H Q => ∃ (l : Addr) (xs : List V) (x : Int) (y : V), v = .ref l ∧ vs = [.int x, y] ∧ H l = some (.lst xs) ∧ 0 ≤ x ∧ x ≤ xs.length ∧ xs.length < sizeLine ∧ Q .non (upd H l (.lst (xs.take x.toNat ++ y :: xs.drop x.toNat)))
theorem mt_insert : MtM X "list.insert" rInsert := by
  intro pins s σ H x vs v us Q I rx rv h
  obtain ⟨l, xs, x, y, rfl, rfl, hH, h0, hi, hz, q⟩ := h
  cases rx
  obtain ⟨u, u2, rfl, ru, ry⟩ := rv.two
  obtain ⟨t, rfl⟩ := ru
  obtain ⟨z, its, n, r, hl, e⟩ := I.lstM hH
  have li := r.length
  have fits : ¬ (!Builtin.List.listFitsIndex x) = true := by
    have : x < 2 ^ 63 := by rw [sizeLine_eq] at hz; omega
    simp only [Builtin.List.listFitsIndex, Bool.not_eq_true, Bool.not_eq_false', Bool.and_eq_true, decide_eq_true_eq]
    exact ⟨by omega, this⟩
  have small : its.toArray.size ≤ sizeLine := by rw [List.size_toArray]; omega
  refine call_meets PySem.F.slot_list_insert ⟨_, e, rfl⟩ PySem.F.entry_list_insert (PySem.F.args_list_insert_3 _ _ _) (PySem.AutoListH.list_insert_list_int_val_1 l its.toArray n x t u2 fits small) ⟨e, ?_⟩
  refine ⟨.non, _, I.lset (its' := its.take x.toNat ++ u2 :: its.drop x.toNat) hH e ?_ ((r.take x.toNat).append (.cons ry (r.drop x.toNat))) ?_, rfl, q⟩
  · have hk : (if x < 0 then (x + ((its.toArray.size : Nat) : Int)).toNat else min x.toNat its.toArray.size) = x.toNat := by
      rw [if_neg (by omega), List.size_toArray]
      omega
    show (its.toArray.extract 0 (if x < 0 then _ else _)).push u2 ++ its.toArray.extract (if x < 0 then _ else _) = _
    rw [hk]
    apply Array.toList_inj.mp
    simp [List.extract_eq_take_drop, List.take_of_length_le]
  · rw [List.length_append, List.length_cons, List.length_take, List.length_drop]
    omega
end
end L2
namespace L2
open PySem
end L2
namespace L2
open PySem PySem.Spec PyProof.Rows
noncomputable def rNe0 (K : PySem.W.Frag) : R2 := fun x y H Q => ∃ a b xs, x = .ref a ∧ y = .ref b ∧ SqL K H a xs ∧ SqL K H b [] ∧ Q (.bl (decide (xs ≠ []))) H
section
variable {X : Cx}
theorem op_ne0 (hu : X.A.units + 64 < cLine) : OpR X (compareOp .NotEq) (rNe0 X.K) := by
  intro pins s σ H x y v u Q I rx ry h
  obtain ⟨a, b, xs, rfl, rfl, ha, hb, q⟩ := h
  cases rx
  cases ry
  obtain ⟨its, r1, ⟨⟨c1, dd, data, sl⟩, n1, ho, hc, hd0, hd⟩, _⟩ := I.list ha
  obtain ⟨its2, r2, ⟨⟨c2, dd2, data2, sl2⟩, n2, ho2, hc2, hd02, hd2⟩, _⟩ := I.list hb
  simp only at hc hd hc2 hd2
  subst hc hd hc2 hd2
  have l1 := r1.length
  have l2 := r2.length
  cases its2 with
  | cons z zs => cases l2
  | nil =>
  by_cases e : xs = []
  · subst e
    cases its with
    | cons z zs => cases l1
    | nil =>
    refine richCompare_meets_room (op := .NotEq) ⟨_, ho, rfl⟩ ⟨_, ho2, rfl⟩ PySem.F.slot_list_ne PySem.F.entry_list_ne (PySem.F.args_list_ne_2 _ _) (PySem.SeqAt.list_neAt a b #[] #[] n1 n2 dd dd2 sl sl2 rfl (fun _ => true))
      ⟨ho, ho2, fun j h1 => absurd h1 (Nat.not_lt_zero _), show Value.bool _ ≠ Value.notImplemented ∧ _ from ⟨(fun z => nomatch z), ⟨.bl _, H, I, rfl, q⟩⟩⟩ (by omega)
  · have ne : (its.toArray.size != ([] : List Value).toArray.size) = true := by
      cases its with
      | nil => exact absurd (List.length_eq_zero_iff.mp l1) e
      | cons z zs => simp
    rw [decide_eq_true e] at q
    exact richCompare_meets_room (op := .NotEq) ⟨_, ho, rfl⟩ ⟨_, ho2, rfl⟩ PySem.F.slot_list_ne PySem.F.entry_list_ne (PySem.F.args_list_ne_2 _ _) (PySem.SeqAt.list_ne_lengthsAt a b its.toArray #[] n1 n2 dd dd2 sl sl2 ne)
      ⟨ho, ho2, show Value.bool true ≠ Value.notImplemented ∧ _ from ⟨(fun z => nomatch z), ⟨.bl true, H, I, rfl, q⟩⟩⟩ (by omega)
end
end L2
namespace L2
open PySem PySem.Spec PyProof.Rows
section
variable {prog : Program} {w : World} {A : Around} {E : Value → Shared → Prop} {s : Shared}
end
end L2
namespace L2
open PySem PySem.Spec PyProof.Rows
section
variable {prog : Program} {w : World} {A : Around} {E : Value → Shared → Prop} {s : Shared}
end
end L2
namespace L2
open PySem PySem.Spec PyProof.Rows
section
variable {prog : Program} {w : World} {A : Around} {E : Value → Shared → Prop} {s : Shared}
noncomputable def TAt (h : Heap) (it t : Addr) (i : Nat) (xs : Array Value) : Prop := IsTupIter h it t i ∧ IsTup h t xs
theorem TAt.keep {h h' : Heap} {it t : Addr} {i : Nat} {xs : Array Value} (x : TAt h it t i xs) (k1 : ∀ o, h.get? it = some o → h'.get? it = some o) (k2 : ∀ o, h.get? t = some o → h'.get? t = some o) : TAt h' it t i xs := by
  obtain ⟨⟨o, a, b⟩, o2, c, d⟩ := x
  exact ⟨⟨o, k1 _ a, b⟩, o2, k2 _ c, d⟩
end
section
variable {prog : Program} {w : World} {A : Around} {E : Value → Shared → Prop} {s : Shared}
end
end L2
namespace L2
open PySem
end L2
namespace L2
open PySem PySem.Spec PyProof.Rows
section
variable {X : Cx}
end
end L2
namespace L2
open PySem PySem.Spec PyProof.Rows
section
variable {X : Cx} {tg : Expr}
end
section
end
section
variable {prog : Program} {w : World} {A : Around} {E : Value → Shared → Prop} {s : Shared}
end
end L2
namespace L2
open PySem PySem.Spec PyProof.Rows
section
variable {X : Cx} {pins : List (Addr × Obj)} {σ : St} {H1 : Hp} {s1 s' : Shared} {C S : Addr} {nid nid2 : String} {bB bB2 : List Value} {sx n : Str} {np hpos : Pos} {b₀ : Stmt} {suite : List Stmt} {j : Nat} {ts : TS} {D : Ends} {E' : XK} {e : Value}
end
section
variable {X : Cx} {C S f : Addr} {k : Nat} {fd : FuncData} {ps : List Str} {sp : Sp} {dvs : List V} {ds : List Value} {nid nid2 : String} {bB bB2 : List Value} {fx sx n : Str} {p np hpos cpos epos pos : Pos} {b₀ : Stmt} {suite : List Stmt} {j : Nat} {t : TA} {ts : TS} {e : Expr} {es : List Expr}
end
end L2
namespace L2
open PySem PySem.Spec PyProof.Rows
section
variable {X : Cx}
theorem bpe_bmK {K : PySem.W.Frag} {o e : Expr} {es : List Expr} {to : TE} {t : TA} {apos cpos : Pos} {name : Str} {T id : String} {r : V → List V → Hp → VK → Prop} (pa : PlainAttrs T) (slot : Slot T name id) (hty : typeOf (.builtin id) = pure (.type "method_descriptor")) (hm : MtR X id r) (ho : Bx (PE X o to)) (ha : Bx (PA X (e :: es) t)) (hK : X.K = K := by rfl)
    (h1 : attributeBase o name X.env (eval o X.env) = eval o X.env := by rfl)
    (h2 : ((backTo cpos (starEach (e :: es) X.env)).all (fun x => !x.1) && (backToKw cpos (keywordEach [] X.env)).all (fun x => x.1.isSome) && decide ((e :: es).length + ([] : List Keyword).length + (if ([] : List Keyword).isEmpty then 0 else 1) < 30)) = true := by rfl)
    (h3 : (apos.endLine == cpos.line) = true := by rfl) (h4 : starEach (e :: es) X.env = (false, eval e X.env) :: starEach es X.env := by rfl) (h5 : (backTo cpos (starEach es X.env)).any (·.1) = false := by rfl) :
    Bx (PE X (.Call (.Attribute o name apos) (e :: es) [] cpos) (tBM K T r to t)) := by subst hK; exact bpe_bm pa slot hty hm ho ha h1 h2 h3 h4 h5
end
end L2
namespace L2
open PySem PySem.Spec PyProof.Rows
theorem TupK.at {K : PySem.W.Frag} {c : Addr} {xs : List Str} (h : TupK K c xs) : ∃ o vs n, K.lookup c = some o ∧ o.cls = .type "tuple" ∧ o.data = .seq vs n ∧ Vals (xs.map V.str) vs.toList := by
  unfold TupK at h
  cases e : K.lookup c with
  | none => rw [e] at h; cases h
  | some o =>
    rw [e] at h
    have h' : ((o.cls == .type "tuple" && o.dict.isNone) && (match o.data with | .seq vs _ => strsLook xs vs.toList | _ => false)) = true := h
    rw [Bool.and_eq_true, Bool.and_eq_true] at h'
    obtain ⟨⟨h1, _⟩, h2⟩ := h'
    cases d : o.data with
    | seq vs n =>
      rw [d] at h2
      exact ⟨o, vs, n, rfl, eq_of_beq h1, d, strs_vals h2⟩
    | _ => rw [d] at h2; cases h2
section
variable {K : PySem.W.Frag} {c : Addr} {xs : List Str}
end
end L2
namespace L2
open PySem PySem.Spec PyProof.Rows
noncomputable def Its (x : Str) : It := ⟨fun i _ => i < x.cps.size, fun i H v H' => H' = H ∧ ∃ c, x.cps[i]? = some c ∧ v = .str ⟨#[c]⟩, fun i _ => x.cps.size ≤ i⟩
theorem turn_str {P : Program} {w : World} {K : PySem.W.Frag} {tg : Expr} (it : Addr) (x : Str) (t : Tok) : Turn P w K tg (Its x) [it] it (fun i h => h.IsStrIter it "str_ascii_iterator" x t i) where
  mem := by simp
  obj := fun i h st b hb => by
    have e : b = it := by simpa using hb
    subst e
    obtain ⟨o, e, c, d⟩ := st
    exact ⟨o, e, fun v z => by rw [d] at z; cases z⟩
  keep := fun i h h' st k => by
    obtain ⟨o, e, c, d⟩ := st
    exact ⟨o, k it (by simp) o e, c, d⟩
  item := by
    intro X hP hw hK hc i pins s σ H E I hf st hg
    subst hP hw hK
    have hx : x.cps[i]? = some x.cps[i] := Array.getElem?_eq_getElem hg
    obtain ⟨f0, f1, f2, f3, f4, f5⟩ := hf it (by simp)
    refine wpAny_pyNext_ascii_item st hx fun h' st' sb => ?_
    have I1 : Inv X pins σ H { s with heap := h', toks := s.toks + 1 } := I.turned (t' := s.toks + 1) (fun b o hb e => (sb.2 b hb).trans e) f0 f1 f3 f4 f5
    obtain ⟨o, e, c, d⟩ := id st'
    exact ⟨_, rfl, go_of (s := { s with heap := h', toks := s.toks + 1 }) e c d (by decide) ⟨.str ⟨#[x.cps[i]]⟩, H, I1, ⟨_, rfl⟩, ⟨rfl, _, hx, rfl⟩, st', fun b hb => (hf b hb).1⟩⟩
  done := by
    intro X hP hw hK hc i pins s σ H E I hf st hg
    subst hP hw hK
    obtain ⟨f0, f1, f2, f3, f4, f5⟩ := hf it (by simp)
    exact wpAny_pyNext_ascii_end (I.ok.hd hc) st (Array.getElem?_eq_none hg) fun h' eb => ⟨rfl, I.turned (t' := s.toks) (fun b o hb e => eb b o hb e) f0 f1 f3 f4 f5⟩
  self := fun _ _ _ _ _ st h => wpAny_pyIter_striter_ascii st h
noncomputable def iStr (te : TE) : TI := fun σ H R => te σ H fun v H1 => ∃ x : Str, v = .str x ∧ x.cps.all (· < 128) = true ∧ R (Its x) H1
theorem pi_str {X : Cx} {tg e : Expr} {te : TE} (he : PE X e te) : PI X tg e (iStr te) := by
  intro pins s σ H R I h
  refine thn (he pins s σ H _ I h) fun v s1 ⟨y, H1, I1, r1, x, ex, ha, q⟩ => ?_
  subst ex
  obtain ⟨t, rfl⟩ := r1
  refine wpAny_pyIter_ascii ha ?_
  refine ⟨s1.heap.objs.size, [s1.heap.objs.size], _, _, H1, rfl, I1.kept (t' := s1.toks) fun b o e => Heap.get?_push_of_some _ e, turn_str _ x t, ⟨_, Heap.get?_push_size _ rfl, rfl, rfl⟩, fun b hb => ?_, q⟩
  have e : b = s1.heap.objs.size := by simpa using hb
  subst e
  exact I1.fpOk (Nat.le_refl _) (I1.hok.fresh (Nat.le_refl _))
theorem bpi_str {X : Cx} {tg e : Expr} {te : TE} (he : Bx (PE X e te)) : Bx (PI X tg e (iStr te)) := ⟨pi_str he.1⟩
theorem for_str {x : Str} {g : TG} {tb : TS} {D : Ends} {σ : St} {H : Hp} (Pv : Nat → St → Hp → Prop) (h0 : Pv 0 σ H)
    (hs : ∀ i c σ H, x.cps.toList[i]? = some c → Pv i σ H → g (.str ⟨#[c]⟩) σ H fun σ2 H2 => tb { D with nx := Pv (i + 1), ct := Pv (i + 1), bk := D.nx } σ2 H2) (hd : ∀ σ H, Pv x.cps.toList.length σ H → D.nx σ H) :
    ∃ W : Nat → Nat → St → Hp → Prop, (∃ m, W 0 m σ H) ∧ ∀ i m σ H, W i m σ H →
      ((Its x).stop i H ∧ D.nx σ H) ∨ ((Its x).go i H ∧ ∃ N : St → Hp → Prop, (∀ σ' H', N σ' H' → ∃ m', m' < m ∧ W (i + 1) m' σ' H') ∧ ∀ y H', (Its x).yld i H y H' → g y σ H' fun σ2 H2 => tb { D with nx := N, ct := N, bk := D.nx } σ2 H2) := by
  have es : x.cps.toList.length = x.cps.size := Array.length_toList
  refine ⟨fun i m σ H => m = x.cps.size - i ∧ i ≤ x.cps.size ∧ Pv i σ H, ⟨x.cps.size, by simp, Nat.zero_le _, h0⟩, ?_⟩
  rintro i m σ H ⟨rfl, hi, p⟩
  by_cases hlt : i < x.cps.size
  · refine .inr ⟨hlt, Pv (i + 1), fun σ' H' p' => ⟨x.cps.size - (i + 1), by omega, rfl, hlt, p'⟩, fun y H' z => ?_⟩
    obtain ⟨e, c, hc, rfl⟩ := z
    subst e
    exact hs i c σ _ (by rw [Array.getElem?_toList]; exact hc) p
  · have e : i = x.cps.size := by omega
    subst e
    exact .inl ⟨Nat.le_refl _, hd σ H (by rw [es]; exact p)⟩
theorem vals_strs : ∀ {zs : List Str} {us : List Value}, Vals (zs.map V.str) us → ∃ l : List (Str × Tok), us = strValues l ∧ l.map (·.1) = zs
  | [], us, h => by
    cases h
    exact ⟨[], rfl, rfl⟩
  | z :: zs, us, h => by
    cases h with
    | cons r t =>
      obtain ⟨tk, rfl⟩ := r
      obtain ⟨l, rfl, rfl⟩ := vals_strs t
      exact ⟨(z, tk) :: l, rfl, rfl⟩
theorem strs_from : ∀ (zs : List Str) (k : Nat), Vals (zs.map V.str) (strsFrom k zs)
  | [], _ => .nil
  | _ :: zs, k => .cons ⟨_, rfl⟩ (strs_from zs (k + 1))
noncomputable def rJoin : V → List V → Hp → VK → Prop := fun x vs H Q => ∃ (sep : Str) (l : Addr) (zs : List Str), x = .str sep ∧ vs = [.ref l] ∧ H l = some (.lst (zs.map V.str)) ∧ 1 ≤ zs.length ∧ (zs.map (·.length)).sum + zs.length * sep.length ≤ 100000 ∧ Q (.str (Str.join sep zs)) H
theorem mt_join {X : Cx} : MtR X "str.join" rJoin := by
  intro pins s σ H x vs v us Q I rx rv h
  obtain ⟨sep, l, zs, rfl, rfl, hH, h2, hz, q⟩ := h
  obtain ⟨tk, rfl⟩ := rx
  obtain ⟨u, rfl, ru⟩ := rv.one
  cases ru
  obtain ⟨z, its, n, r, hl, e⟩ := I.lstM hH
  obtain ⟨ps, rfl, ez⟩ := vals_strs r
  have tl : Builtin.Str.tooLong ((ps.map (·.1)).toArray.foldl (· + ·.length + sep.length) 0) = false := by
    rw [StrLaws.joinTotal, ez]
    have : sizeLine = 16777216 := by decide
    unfold Builtin.Str.tooLong
    rw [decide_eq_false (by omega)]
  refine call_meets F.slot_str_join (typeIs_str s sep tk) F.entry_str_join (F.args_str_join_2 _ _) (meets_str_join_list sep tk l ps tl) ⟨⟨_, e, rfl, n, rfl⟩, ?_⟩
  have lp : ps.length = zs.length := by rw [← ez, List.length_map]
  match ps, lp, ez with
  | p1 :: p2 :: ps, _, ez =>
    show (Made.str (Builtin.Str.glued sep ((p1 :: p2 :: ps).map (·.1)))).post _ s
    rw [ez, StrLaws.glued_eq_join]
    refine ⟨?_, ⟨.str _, H, I.tok _, ⟨_, rfl⟩, q⟩⟩
    have := StrLaws.join_length_le sep zs
    have sl : sizeLine = 16777216 := by decide
    omega
  | [], h, _ => exact absurd h2 (by rw [← h]; decide)
  | [p1], _, ez =>
    rw [← ez] at q
    exact ⟨.str p1.1, H, I, ⟨_, rfl⟩, q⟩
theorem parts_none (z : Str) (k : Nat) : Builtin.Str.partsBetween z [] k = [z] := by
  show [Builtin.Str.strSub z 0 z.length] = [z]
  congr 1
  cases z with
  | mk a => simp [Builtin.Str.strSub, Str.length]
noncomputable def rSplit : V → List V → Hp → VK → Prop := fun x vs H Q => ∃ (z y : Str), x = .str z ∧ vs = [.str y] ∧ (decide (z.length < y.length) || decide (Builtin.Str.strKind z < Builtin.Str.strKind y)) = false ∧ (y.length == 0) = false ∧ z.length ≤ 100000 ∧
  ∀ D, H D = none → Q (.ref D) (upd H D (.lst ((Builtin.Str.partsBetween z (Builtin.Str.occurrences z y 0 z.length (z.length + 1)) y.length).map V.str)))
theorem mt_split {X : Cx} : MtR X "str.split" rSplit := by
  intro pins s σ H x vs v us Q I rx rv h
  obtain ⟨z, y, rfl, rfl, h1, hy, hz, q⟩ := h
  obtain ⟨tk, rfl⟩ := rx
  obtain ⟨u, rfl, ru⟩ := rv.one
  obtain ⟨tu, rfl⟩ := ru
  have sl : sizeLine = 16777216 := by decide
  have hn : (Builtin.Str.partsBetween z (Builtin.Str.occurrences z y 0 z.length (z.length + 1)) y.length).length ≤ sizeLine := by
    rw [length_partsBetween]
    have := StrLaws.occ_length_le z y 0 z.length (z.length + 1)
    omega
  cases hf : (Builtin.Str.occurrences z y 0 z.length (z.length + 1)).isEmpty with
  | true =>
    have e0 : Builtin.Str.occurrences z y 0 z.length (z.length + 1) = [] := List.isEmpty_iff.mp hf
    rw [e0, parts_none] at q
    refine call_meets F.slot_str_split (typeIs_str s z tk) F.entry_str_split (F.args_str_split_2 _ _) (meets_str_split_not_found z y tk tu h1 hy hf) ?_
    refine ⟨.ref s.heap.objs.size, _, I.laid (t' := s.toks) (fun b u e => Heap.get?_push_of_some _ e) (Nat.le_refl _) ?_, rfl, q _ (I.hok.fresh (Nat.le_refl _))⟩
    exact ⟨(by show 1 ≤ sizeLine; decide), _, 0, .cons ⟨_, rfl⟩ .nil, Heap.get?_push_size _ rfl⟩
  | false =>
  refine call_meets F.slot_str_split (typeIs_str s z tk) F.entry_str_split (F.args_str_split_2 _ _) (meets_str_split_sep z y tk tu h1 hy hf (by omega) hn) ?_
  refine ⟨.ref s.heap.objs.size, _, I.laid (fun b u e => Heap.get?_push_of_some _ e) (Nat.le_refl _) ?_, rfl, q _ (I.hok.fresh (Nat.le_refl _))⟩
  exact ⟨by rw [List.length_map]; exact hn, _, 0, strs_from _ _, Heap.get?_push_size _ rfl⟩
theorem mt_index {X : Cx} : MtR X "str.index" (fun x vs H Q => ∃ (z y : Str) (i : Nat) (rest : List Nat), x = .str z ∧ vs = [.str y] ∧ Builtin.Str.occurrences z y 0 z.length 1 = i :: rest ∧ Q (.int (i : Int)) H) := by
  intro pins s σ H x vs v us Q I rx rv h
  obtain ⟨z, y, i, rest, rfl, rfl, h1, q⟩ := h
  obtain ⟨tk, rfl⟩ := rx
  obtain ⟨u, rfl, ru⟩ := rv.one
  obtain ⟨tu, rfl⟩ := ru
  refine call_gives F.slot_str_index (typeIs_str s z tk) F.entry_str_index (F.args_str_index_2 _ _) (gives_str_index z y tk tu i rest h1) ⟨.int _, H, I.tok _, ⟨_, rfl⟩, q⟩
end L2
namespace L2
open PySem PySem.Spec PyProof.Rows
end L2
namespace My
open PySem L2
open PySem.Builtin.Str (occurrences partsBetween strSub subAt)
noncomputable def joinL (c : Nat) : List (List Nat) → List Nat
  | [] => []
  | [p] => p
  | p :: q :: r => p ++ c :: joinL c (q :: r)
theorem occ_loop (z : Str) (c lim : Nat) : ∀ (k a : Nat) (st : Array Nat × Nat), st.2 ≤ a → st.1.size + k ≤ lim →
    (forIn (List.range' a k) st (StrLaws.occBody z ⟨#[c]⟩ z.length lim)).run.fst.toList = st.1.toList ++ (List.range' a k).filter fun i => decide (z.cps.toList[i]? = some c)
  | 0, a, st, _, _ => by simp
  | k + 1, a, st, hf, hs => by
    rw [List.range'_succ, List.forIn_cons]
    unfold StrLaws.occBody
    have key := StrLaws.subAt_one z c a
    by_cases h : z.cps.toList[a]? = some c
    · obtain ⟨h1, h2⟩ := key.mpr h
      rw [if_pos ⟨⟨⟨by omega, hf⟩, h1⟩, h2⟩, List.filter_cons_of_pos (by simpa using h)]
      have := occ_loop z c lim k (a + 1) (st.1.push a, a + 1) (Nat.le_refl _) (by simp; omega)
      refine Eq.trans this ?_
      simp
    · rw [if_neg (fun hc => h (key.mp ⟨hc.1.2, hc.2⟩)), List.filter_cons_of_neg (by simpa using h)]
      exact occ_loop z c lim k (a + 1) st (by omega) (by omega)
theorem occ_all (z : Str) (c : Nat) : occurrences z ⟨#[c]⟩ 0 z.length (z.length + 1) = (List.range' 0 (z.length + 1)).filter fun i => decide (z.cps.toList[i]? = some c) := by
  rw [StrLaws.occ_eq]
  have := occ_loop z c (z.length + 1) (z.length + 1) 0 (#[], 0) (Nat.le_refl _) (by simp)
  simpa using this
theorem strSub_at {z : Str} {pre p rest : List Nat} (e : z.cps.toList = pre ++ p ++ rest) : strSub z pre.length (pre.length + p.length) = ⟨p.toArray⟩ := by
  have h := StrLaws.strSub_toList z pre.length (pre.length + p.length)
  rw [e, List.append_assoc, List.drop_left, Nat.add_sub_cancel_left, List.take_left] at h
  cases hs : strSub z pre.length (pre.length + p.length) with
  | mk a =>
    rw [hs] at h
    congr 1
    exact Array.toList_inj.mp (by simpa using h)
theorem filter_none {c : Nat} {L pre p rest : List Nat} (e : L = pre ++ p ++ rest) (hp : c ∉ p) : (List.range' pre.length p.length).filter (fun i => decide (L[i]? = some c)) = [] := by
  refine List.filter_eq_nil_iff.mpr fun i hi => ?_
  have hr := List.mem_range'_1.mp hi
  rw [decide_eq_true_eq, e, List.append_assoc, List.getElem?_append_right (by omega), List.getElem?_append_left (by omega)]
  exact fun z => hp (List.mem_of_getElem? z)
theorem parts_from {z : Str} {c : Nat} : ∀ (parts : List (List Nat)) (pre : List Nat), parts ≠ [] → (∀ p ∈ parts, c ∉ p) → z.cps.toList = pre ++ joinL c parts →
    StrLaws.partsFrom z 1 pre.length ((List.range' pre.length (z.length + 1 - pre.length)).filter fun i => decide (z.cps.toList[i]? = some c)) = parts.map fun p => ⟨p.toArray⟩
  | [], _, h, _, _ => absurd rfl h
  | [p], pre, _, hc, e => by
    have e' : z.cps.toList = pre ++ p ++ [] := by rw [List.append_nil]; exact e
    have hl : z.length = pre.length + p.length := by
      have := congrArg List.length e
      rw [List.length_append] at this
      exact this
    rw [hl, show pre.length + p.length + 1 - pre.length = p.length + 1 by omega, List.range'_1_concat, List.filter_append, filter_none e' (hc p (.head _))]
    rw [List.filter_cons_of_neg (by
      rw [decide_eq_true_eq, List.getElem?_eq_none (by rw [e', List.append_nil, List.length_append]; exact Nat.le_refl _)]
      exact fun z => nomatch z)]
    show [strSub z pre.length z.length] = [_]
    rw [hl, strSub_at e']
  | p :: q :: r, pre, _, hc, e => by
    have e1 : z.cps.toList = pre ++ p ++ (c :: joinL c (q :: r)) := by rw [e, List.append_assoc]; rfl
    have e2 : z.cps.toList = (pre ++ p ++ [c]) ++ joinL c (q :: r) := by rw [e1, List.append_assoc (pre ++ p)]; rfl
    have l2 : (pre ++ p ++ [c]).length = pre.length + p.length + 1 := by rw [List.length_append, List.length_append]; rfl
    have hl : pre.length + p.length + 1 ≤ z.length := by
      have := congrArg List.length e2
      rw [List.length_append, l2] at this
      have h2 : z.cps.toList.length = z.length := rfl
      omega
    have ih := parts_from (q :: r) (pre ++ p ++ [c]) (fun h => nomatch h) (fun s hs => hc s (.tail _ hs)) e2
    rw [l2] at ih
    have split : List.range' pre.length (z.length + 1 - pre.length) = List.range' pre.length p.length ++ (pre.length + p.length) :: List.range' (pre.length + p.length + 1) (z.length + 1 - (pre.length + p.length + 1)) := by
      rw [show z.length + 1 - pre.length = p.length + (z.length + 1 - (pre.length + p.length + 1) + 1) by omega, ← List.range'_append_1, List.range'_succ]
    rw [split, List.filter_append, filter_none e1 (hc p (.head _)), List.filter_cons_of_pos (by
      rw [decide_eq_true_eq, e1, List.getElem?_append_right (by rw [List.length_append]; exact Nat.le_refl _), List.length_append, Nat.sub_self]
      rfl)]
    show strSub z pre.length (pre.length + p.length) :: StrLaws.partsFrom z 1 (pre.length + p.length + 1) _ = _
    rw [ih, strSub_at e1]
    rfl
theorem split_parts {z : Str} {c : Nat} {parts : List (List Nat)} (h : parts ≠ []) (hc : ∀ p ∈ parts, c ∉ p) (e : z.cps.toList = joinL c parts) :
    partsBetween z (occurrences z ⟨#[c]⟩ 0 z.length (z.length + 1)) (⟨#[c]⟩ : Str).length = parts.map fun p => ⟨p.toArray⟩ := by
  rw [occ_all, StrLaws.partsBetween_eq]
  exact parts_from parts [] h hc e
noncomputable def digs (n : Nat) : List Nat := (Nat.toDigits 10 n).map Char.toNat
theorem digit_nat {d : Nat} (h : d < 10) : (Nat.digitChar d).toNat = 48 + d := by
  match d, h with
  | 0, _ | 1, _ | 2, _ | 3, _ | 4, _ | 5, _ | 6, _ | 7, _ | 8, _ | 9, _ => rfl
theorem digs_step (n : Nat) : digs n = if n < 10 then [48 + n] else digs (n / 10) ++ [48 + n % 10] := by
  unfold digs
  by_cases h : n < 10
  · rw [if_pos h, Nat.toDigits_of_lt_base h, List.map_singleton, digit_nat h]
  · rw [if_neg h, Nat.toDigits_of_base_le (by decide) (by omega), List.map_append, List.map_singleton, digit_nat (Nat.mod_lt _ (by decide))]
theorem digs_in (n : Nat) : ∀ c ∈ digs n, 48 ≤ c ∧ c < 58 := by
  induction n using Nat.strongRecOn with
  | _ n ih =>
    rw [digs_step]
    split
    · intro c hc
      rw [List.mem_singleton.mp hc]
      omega
    · intro c hc
      rcases List.mem_append.mp hc with hc | hc
      · exact ih (n / 10) (by omega) c hc
      · rw [List.mem_singleton.mp hc]
        omega
noncomputable def readN (l : List Nat) : Nat := l.foldl (fun a c => a * 10 + (c - 48)) 0
theorem readN_snoc (l : List Nat) (c : Nat) : readN (l ++ [c]) = readN l * 10 + (c - 48) := by
  unfold readN
  rw [List.foldl_append]
  rfl
theorem digs_len (n : Nat) (k : Nat) : n < 10 ^ k → 1 ≤ k → (digs n).length ≤ k := by
  induction k generalizing n with
  | zero => intro _ h; exact absurd h (by decide)
  | succ k ih =>
    intro h _
    rw [digs_step]
    split
    · exact Nat.le_add_left _ _
    · rw [List.length_append, List.length_singleton]
      have h1 : n / 10 < 10 ^ k := by
        rw [Nat.pow_succ] at h
        omega
      have hk : 1 ≤ k := by
        rcases Nat.eq_zero_or_pos k with h0 | h0
        · subst h0
          have : n / 10 < 1 := h1
          omega
        · exact h0
      have := ih (n / 10) h1 hk
      omega
theorem str_digs (n : Nat) : (Str.ofString (toString (n : Int))).cps.toList = digs n := by
  have e : toString (n : Int) = String.ofList (Nat.toDigits 10 n) := by
    show (n : Int).repr = _
    rw [← Nat.repr_eq_ofList_toDigits]
    rfl
  rw [e, Str.ofString_eq_toList]
  simp [digs]
end My
namespace L2
open PySem PySem.Spec PyProof.Rows
theorem note_same {e : Value} {a b : Env} (h : a.frame = b.frame) : noteFrame e a = noteFrame e b := by
  unfold noteFrame PySem.frameOf
  rw [h]
noncomputable def afterC (X : Cx) (c : Env) (x : Value) (s1 : Shared) : Prop := ∃ m, s1.heap.Ns c.locals m ∧ ∀ h', Heap.SameBut c.locals s1.heap h' →
  wpAny (model X.prog X.w) X.A (passOn "comprehension.variables-let-go" x c : Sem Value) (fun _ _ => False) X.xe { s1 with heap := h' }
noncomputable def postC (X : Cx) (QQ : Value → Shared → Prop) (acc : Value) (c : Env) : Result → Shared → Prop
  | .ok _, s1 => ∃ m, s1.heap.Ns c.locals m ∧ ∀ h', Heap.SameBut c.locals s1.heap h' → QQ acc { s1 with heap := h' }
  | .error x, s1 => afterC X c x s1
theorem compr_own {X : Cx} {s : Shared} {e : Expr} {scope : Scope} {pos : Pos} {mk first : Sem Value} {g : Comprehension} {gs : List Comprehension} {cl : List (Str × Addr)} {QQ : Value → Shared → Prop}
    (ec : clausesOf e = g :: gs) (es : ∀ x, foldedSetIterable g.iter X.env x = pure x) (el : closureFor scope X.env = pure cl) (ek : scope.kind = .function) (en : ∀ y ∈ scope.names, y.2 = .local → scope.names.lookup y.1 = some .local)
    (h : wpAny (model X.prog X.w) X.A first (fun x s1 => wpAny (model X.prog X.w) X.A (pyIter x) (fun it s2 => wpAny (model X.prog X.w) X.A mk (fun acc s3 =>
      wpAny (model X.prog X.w) X.A (newFunctionEnv scope X.env.globals cl [] X.env.qual none .none (some X.env)) (fun c s4 =>
        codeAny (model X.prog X.w) X.A (.compStart e 0 it acc { c with scope := relabel scope X.env }) (postC X QQ acc { c with scope := relabel scope X.env }) s4) X.xe s3) X.xe s2) X.xe s1) X.xe s) :
    wpAny (model X.prog X.w) X.A (comprehension e scope X.env pos mk false first) QQ X.xe s := by
  unfold comprehension
  rw [el, ec]
  refine wpAny_bind (thn h fun x s1 h1 => wpAny_bind (wpAny_standAt (wpAny_bind (wpAny_of_eq (es x) (wpAny_bind (wpAny_holding (thn h1 fun it s2 h2 => ?_)))))))
  refine wpAny_standIf (wpAny_bind (thn h2 fun acc s3 h3 => wpAny_bind (wpAny_pure (wpAny_bind (thn h3 fun c s4 h4 => ?_)))))
  dsimp only
  have kv : ∀ y ∈ (scope.names.filter fun y => (y.2 == .local || y.2 == .cell) && y.1 != (".0" : Str)).reverse, y.2 = .local →
      Env.kindOf { c with scope := relabel scope X.env } y.1 = some .local := fun y hy hl => lookup_relabel_local (en y (List.mem_filter.mp (List.mem_reverse.mp hy)).1 hl)
  refine wpAny_holding (wpAny_bind (wpAny_attempt (wpAny_holding (wpAny_run (codeAny_mono h4 fun r s5 hr => ?_)))))
  cases r with
  | ok f =>
    obtain ⟨m, hn, hq⟩ := hr
    exact wpAny_bind (wpAny_holding (wpAny_comp_letGo (cenv := { c with scope := relabel scope X.env }) ek _ s5 m kv hn fun h' _ _ sb => wpAny_pure (hq h' sb)))
  | error x =>
    obtain ⟨m, hn, hq⟩ := hr
    exact wpAny_bind (wpAny_holding (wpAny_comp_letGo (cenv := { c with scope := relabel scope X.env }) ek _ s5 m kv hn fun h' _ _ sb => wpAny_mono (hq h' sb) (fun _ _ z => z.elim) fun _ _ z => z))
noncomputable abbrev cxCompX (X : Cx) (N : List Str) (scope : Scope) (cl : List (Str × Addr)) (fp : List Addr) (s : Shared) (H : Hp) : Cx :=
  (cxComp X N scope cl fp s H).wish (notedBy (model X.prog X.w) X.A (compEnvC scope cl s.heap.objs.size X.env) (afterC X (compEnvC scope cl s.heap.objs.size X.env)))
noncomputable def OutC (X : Cx) (fp : List Addr) (s : Shared) (H : Hp) : Prop := ∃ pins σ, Inv X pins σ H s ∧ ∀ b ∈ fp, FpOk X pins H b
theorem comp_loopX {prog : Program} {w : World} {A : Around} {R : Result → Shared → Prop} {s : Shared}
    {elt tg iter : Expr} {ifs : List Expr} {scope : Scope} {pos : Pos} {it acc : Value} {env : Env}
    (I : Nat → Shared → Prop)
    (turn : ∀ n s, I n s → wpAny (model prog w) A (pyNext it)
      (fun r s1 => match r with
        | none => R (.ok .next) s1
        | some v => wpAny (model prog w) A (letOwnedTupleGo tg it v) (fun _ s2 =>
            wpAny (model prog w) A (assign tg env v) (fun _ s3 =>
            wpAny (model prog w) A
              (forIn ifs true fun c r => if r = true then do
                  let ok ← isTrue c env (eval c env)
                  pure (ForInStep.yield ok)
                else pure (ForInStep.yield r))
              (fun ok s4 => if ok = true then
                  wpAny (model prog w) A (eval elt env) (fun x s5 =>
                    wpAny (model prog w) A (call (.builtin "list.append") [acc, x])
                      (fun _ s6 => ∃ m, m < n ∧ I m s6) (notedBy (model prog w) A env fun x s1 => R (.error x) s1) s5) (notedBy (model prog w) A env fun x s1 => R (.error x) s1) s4
                else ∃ m, m < n ∧ I m s4) (notedBy (model prog w) A env fun x s1 => R (.error x) s1) s3) (notedBy (model prog w) A env fun x s1 => R (.error x) s1) s2)
            (notedBy (model prog w) A env fun x s1 => R (.error x) s1) s1)
      (notedBy (model prog w) A env fun x s1 => R (.error x) s1) s)
    (n : Nat) (h : I n s) :
    codeAny (model prog w) A (.compLoop (.ListComp elt [⟨tg, iter, ifs, 0⟩] scope pos) 0 it acc env) R s := by
  refine codeAny_loop rfl I (fun n s hI => ?_) n h
  show wpAny _ A ((compTurn _ 0 it acc env).onRaise (fun x => do noteFrame x env; theTreesLotGoes x)) _ _ s
  refine wpAny_noted (E := fun e s' => R (.error e) s') ?_
  rw [compTurn_list]
  refine wpAny_bind (wpAny_standAt (wpAny_bind (wpAny_mono (turn n s hI) (fun r s1 h1 => ?_) fun _ _ z => z)))
  cases r with
  | none => exact wpAny_pure h1
  | some v =>
    refine wpAny_bind (wpAny_mono h1 (fun _ s2 h2 => wpAny_bind (wpAny_mono h2 (fun _ s3 h3 =>
      wpAny_bind (wpAny_mono h3 (fun ok s4 h4 => ?_) fun _ _ z => z)) fun _ _ z => z)) fun _ _ z => z)
    cases ok with
    | false => exact wpAny_pure ⟨rfl, h4⟩
    | true =>
      exact wpAny_bind (wpAny_bind (wpAny_mono h4 (fun x s5 h5 => wpAny_bind (wpAny_mono h5
        (fun _ s6 h6 => wpAny_pure (wpAny_pure ⟨rfl, h6⟩)) fun _ _ z => z)) fun _ _ z => z))

theorem comp_coreX {X : Cx} {elt tg iter : Expr} {ifs : List Expr} {scope : Scope} {pos : Pos} {N : List Str} {n : Nat} {cap : List Nat} {g : TG} {tt : TT} {te : TE}
    {cl : List (Str × Addr)} {E : Value → Shared → Prop} {QQ : Value → Shared → Prop}
    (hc : X.calm = true) (B : Blk X scope N n cap) (c1 : ∀ x c, cl.lookup x = some c → X.env.cells.lookup x = some c) (c2 : ∀ y ∈ scope.names, y.2 = .free → ∃ c, cl.lookup y.1 = some c)
    (hk : KeepG n g) (hg : ∀ cl fp s H, PG (cxCompX X N scope cl fp s H) tg g) (ht : ∀ cl fp s H, PTs (cxCompX X N scope cl fp s H) ifs tt) (he : ∀ cl fp s H, OutC X fp s H → PE (cxCompX X N scope cl fp s H) elt te)
    {pins : List (Addr × Obj)} {σ : St} {Q : VK} {itv : Value} {s2 : Shared}
    (h : PIE X pins σ tg (fun J H1 => ∀ D, H1 D = none → compRun J D n cap σ g tt te Q H1) itv s2)
    (hRR : ∀ (D C : Addr) (H' : Hp) (s' : Shared) (m : Str → Option Value), Inv X pins σ H' s' → FpOk X pins H' C → s'.heap.Ns C m → Q (.ref D) H' → ∀ h', Heap.SameBut C s'.heap h' → QQ (.ref D) { s' with heap := h' }) :
    wpAny (model X.prog X.w) X.A (newList []) (fun acc s3 =>
      wpAny (model X.prog X.w) X.A (newFunctionEnv scope X.env.globals cl [] X.env.qual none .none (some X.env)) (fun cenv s4 =>
        codeAny (model X.prog X.w) X.A (.compStart (.ListComp elt [⟨tg, iter, ifs, 0⟩] scope pos) 0 itv acc { cenv with scope := relabel scope X.env })
          (postC X QQ acc { cenv with scope := relabel scope X.env }) s4) E s3) E s2 := by
  obtain ⟨it, fp, tn, J, H2, e, I2, T, st2, f2, q2⟩ := h
  subst e
  refine wpAny_newObj_type ?_ (by show 0 ≤ sizeLine; decide)
  have hD : H2 s2.heap.objs.size = none := I2.hok.fresh (Nat.le_refl _)
  obtain ⟨W, ⟨m0, w0⟩, turn⟩ := q2 _ hD
  have I3 : Inv X pins σ (upd H2 s2.heap.objs.size (.lst [])) { s2 with heap := s2.heap.push { cls := .type "list", data := .seq ([] : List Value).toArray }, toks := s2.toks } :=
    I2.lnew .nil (by show 0 ≤ sizeLine; decide)
  have st3 : tn 0 (s2.heap.push { cls := .type "list", data := .seq ([] : List Value).toArray }) := T.keep _ _ _ st2 fun b _ o e => Heap.get?_push_of_some _ e
  have obj2 := T.obj _ _ st2
  have fD : ∀ b ∈ fp, b ≠ s2.heap.objs.size := fun b hb => by
    obtain ⟨o, eo, _⟩ := obj2 b hb
    exact Nat.ne_of_lt (Heap.lt_size eo)
  have f3 : ∀ b ∈ fp, FpOk X pins (upd H2 s2.heap.objs.size (.lst [])) b := fun b hb => ⟨by rw [upd_ne (fD b hb)]; exact (f2 b hb).1, (f2 b hb).2⟩
  have go3 : ∀ (s3 : Shared) (H3 : Hp), Inv X pins σ H3 s3 → tn 0 s3.heap → (∀ b ∈ fp, FpOk X pins H3 b) → W 0 m0 H3 →
      wpAny (model X.prog X.w) X.A (newFunctionEnv scope X.env.globals cl [] X.env.qual none .none (some X.env)) (fun cenv s4 =>
        codeAny (model X.prog X.w) X.A (.compStart (.ListComp elt [⟨tg, iter, ifs, 0⟩] scope pos) 0 (.ref it) (.ref s2.heap.objs.size) { cenv with scope := relabel scope X.env })
          (postC X QQ (.ref s2.heap.objs.size) { cenv with scope := relabel scope X.env }) s4) E s3 := by
    intro s3 H3 I3 st3 f3 w0
    refine wpAny_newFunctionEnv B.cell (fun y hy => nomatch hy) (fun h4 n4 sb4 => ?_) B.kind
    have k4 : ∀ b o, s3.heap.get? b = some o → h4.get? b = some o := fun b o e => sb4.extBut b o (Nat.ne_of_lt (Heap.lt_size e)) (Heap.get?_push_of_some _ e)
    have fl3 : ∀ b ∈ fp, b < s3.heap.objs.size := fun b hb => by
      obtain ⟨o, eo, _⟩ := T.obj _ _ st3 b hb
      exact Heap.lt_size eo
    have I4 : Inv (cxCompX X N scope cl fp s3 H3) [] (blockSt n cap σ) H3 { s3 with heap := h4, toks := s3.toks + ([] : List (Str × Value)).length } :=
      (comp_start I3 B c1 c2 f3 fl3 n4 k4).wish _
    have st4 : tn 0 h4 := T.keep _ _ _ st3 fun b _ o e => k4 b o e
    have stat : ∀ {H' : Hp}, (∀ b ∈ fp, H' b = none) → ∀ b ∈ fp, FpOk (cxCompX X N scope cl fp s3 H3) [] H' b := fun hn b hb => by
      obtain ⟨_, a1, a2, _, a4, _⟩ := f3 b hb
      refine ⟨hn b hb, Nat.ne_of_lt (fl3 b hb), fun z => ?_, .inl hb, fun x c e => a4 x c (c1 x c e), fun p hp => nomatch hp⟩
      rcases List.mem_cons.mp (I3.stkSub b z) with e | e
      · exact a1 e
      · exact a2 e
    have loop : ∀ s5 : Shared, s5 = { s3 with heap := h4, toks := s3.toks + ([] : List (Str × Value)).length } →
        codeAny (model X.prog X.w) X.A (.compLoop (.ListComp elt [⟨tg, iter, ifs, 0⟩] scope pos) 0 (.ref it) (.ref s2.heap.objs.size) (compEnvC scope cl s3.heap.objs.size X.env))
          (postC X QQ (.ref s2.heap.objs.size) (compEnvC scope cl s3.heap.objs.size X.env)) s5 := by
      rintro s5 rfl
      refine comp_loopX (fun k s' => ∃ i H', Inv (cxCompX X N scope cl fp s3 H3) [] (blockSt n cap σ) H' s' ∧ tn i s'.heap ∧ (∀ b ∈ fp, H' b = none) ∧ W i k H') ?_ m0
        ⟨0, H3, I4, st4, fun b hb => (f3 b hb).1, w0⟩
      rintro k s6 ⟨i, H6, I6, st6, fr6, w6⟩
      rcases turn i k H6 w6 with ⟨stop, qn⟩ | ⟨go, N6, hN6, step⟩
      · refine thn (T.done (cxCompX X N scope cl fp s3 H3) rfl rfl rfl hc i [] s6 _ H6 _ I6 (stat fr6) st6 stop) fun r s7 ⟨hr, I7⟩ => ?_
        subst hr
        obtain ⟨J7, C7, m7, n7⟩ := comp_end I3 I7.unwish f3
        exact ⟨m7, n7, hRR _ _ H6 s7 m7 J7 C7 n7 qn⟩
      · refine thn (T.item (cxCompX X N scope cl fp s3 H3) rfl rfl rfl hc i [] s6 _ H6 _ I6 (stat fr6) st6 go) fun r s7 ⟨u, hr, h7⟩ => ?_
        subst hr
        refine thn h7 fun _ s8 ⟨x, H8, I8, r8, y8, st8, fr8⟩ => ?_
        have I8' := I8.pinned (stat fr8) (T.obj _ _ st8)
        refine thn (hg cl fp s3 H3 _ s8 _ H8 x u _ I8' r8 (hk _ _ _ _ (step x H8 y8))) fun _ s9 ⟨σ9, H9, I9, q9, l9, k9⟩ => ?_
        refine thn (ht cl fp s3 H3 _ s9 σ9 H9 _ I9 q9) fun b s10 ⟨H10, I10, q10⟩ => ?_
        have wk : ∀ (z : Nat) v, (blockSt n cap σ)[z]? = some (some v) → σ9[z]? = some (some v) := fun z v e => by
          obtain ⟨kk, j, rfl, _, _⟩ := blk_get e
          rw [k9 _ (Nat.le_add_right _ _)]
          exact e
        have back : ∀ {Ha : Hp} {sa : Shared} {j : Nat}, Inv (cxCompX X N scope cl fp s3 H3) ([] ++ pinsAt fp s8.heap) σ9 Ha sa → W (i + 1) j Ha →
            ∃ i H', Inv (cxCompX X N scope cl fp s3 H3) [] (blockSt n cap σ) H' sa ∧ tn i sa.heap ∧ (∀ b ∈ fp, H' b = none) ∧ W i j H' := fun {Ha sa j} Ia wa => by
          refine ⟨i + 1, Ha, (Ia.unpinned).weak l9.symm wk, T.keep _ _ _ st8 fun b hb o e => (Ia.pin (b, o) (List.mem_append_right _ (List.mem_append_right _ (mem_pinsAt hb e)))).1, fun b hb => ?_, wa⟩
          obtain ⟨o, e, d⟩ := T.obj _ _ st8 b hb
          exact (Ia.pin (b, o) (List.mem_append_right _ (List.mem_append_right _ (mem_pinsAt hb e)))).2.1
        cases b with
        | false =>
          rw [if_neg Bool.false_ne_true] at q10 ⊢
          obtain ⟨m', hm, w'⟩ := hN6 _ q10
          exact ⟨m', hm, back I10 w'⟩
        | true =>
          rw [if_pos rfl] at q10 ⊢
          refine thn (he cl fp s3 H3 ⟨pins, σ, I3, f3⟩ _ s10 σ9 H10 _ I10 q10) fun y s11 ⟨yv, H11, I11, r11, q11⟩ => ?_
          obtain ⟨xs, eD, hl, q11⟩ := q11
          obtain ⟨m', hm, w'⟩ := hN6 _ q11
          refine thn (mt_append _ s11 σ9 H11 (.ref s2.heap.objs.size) [yv] (.ref s2.heap.objs.size) [y] (fun _ Hz => Hz = upd H11 s2.heap.objs.size (.lst (xs ++ [yv]))) I11 rfl (.cons r11 .nil)
            ⟨_, xs, yv, rfl, rfl, eD, hl, rfl⟩) fun _ s12 ⟨_, H12, I12, _, e12⟩ => ?_
          subst e12
          exact ⟨m', hm, back I12 w'⟩
    exact codeAny_compStart_list (loop _ rfl) (T.self _ _ _ _ _ st4 (loop _ rfl))
  exact go3 _ _ I3 st3 f3 w0


section
variable {X : Cx} {elt tg iter : Expr} {ifs : List Expr} {scope : Scope} {pos : Pos} {N : List Str} {n : Nat} {cap : List Nat} {wi : TI} {g : TG} {tt : TT} {te : TE}
theorem pe_compX (hc : X.calm = true) (B : Blk X scope N n cap) (hi : PI X tg iter wi) (hk : KeepG n g)
    (hg : ∀ cl fp s H, PG (cxCompX X N scope cl fp s H) tg g) (ht : ∀ cl fp s H, PTs (cxCompX X N scope cl fp s H) ifs tt) (he : ∀ cl fp s H, OutC X fp s H → PE (cxCompX X N scope cl fp s H) elt te)
    (hs : ∀ x, foldedSetIterable iter X.env x = pure x := by intro _; rfl) : PE X (.ListComp elt [⟨tg, iter, ifs, 0⟩] scope pos) (tComp n cap wi g tt te) := by
  intro pins s σ H Q I h
  obtain ⟨cl, ecl, c1, c2⟩ := closure_ok (scope := scope) (env := X.env) fun y hy k => I.ok.has y.1 (B.free y hy k)
  rw [eval_ListComp]
  refine compr_own rfl hs ecl B.kind B.names ?_
  refine thn (hi pins s σ H _ I h) fun v s1 h1 => thn h1 fun itv s2 h2 => ?_
  refine comp_coreX (QQ := EP X pins σ Q) hc B c1 c2 hk hg ht he h2 fun D C H' s' m J f nn q h' sb => ?_
  exact ⟨.ref D, H', J.turned (t' := s'.toks) (fun b o hb e => sb.extBut b o hb e) f.1 f.2.1 f.2.2.2.1 f.2.2.2.2.1 f.2.2.2.2.2, rfl, q⟩
end
theorem Un.leftX {fs ex : List Addr} {H H' : Hp} {h h' h'' : Heap} (u : Un fs ex H H' h h') (k : ∀ b o ob, b ∉ fs → b ∉ ex → h.get? b = some ob → h'.get? b = some o → h''.get? b = some o)
    (ks : ∀ b o, b ∈ fs → h'.get? b = some o → ∃ sl, h''.get? b = some { o with slots := sl }) : Un fs ex H H' h h'' := by
  refine ⟨fun b o e n hb hx => k b o o hb hx e (u.keep b o e n hb hx), fun b o e n hb hx => ?_, u.free, fun b o e hx => ?_, u.tups, u.frzs, u.tbls⟩
  · obtain ⟨sl, q⟩ := u.slot b o e n hb hx
    obtain ⟨sl', q'⟩ := ks b _ hb q
    exact ⟨sl', q'⟩
  · obtain ⟨o', q⟩ := u.there b o e hx
    by_cases hb : b ∈ fs
    · obtain ⟨sl, q'⟩ := ks b o' hb q
      exact ⟨_, q'⟩
    · exact ⟨o', k b o' o hb hx e q⟩
section
variable {P : Program} {w : World} {K : PySem.W.Frag} {mg : Str → Option Value} {base : Heap} {N : List Str} {qual : Str} {scope : Scope} {f C : Addr} {cd : Value} {A : Around} {outer : List Env} {s : Shared} {H : Hp} {E : XK}
theorem passCompC {N' : List Str} {scope' : Scope} {cl : List (Str × Addr)} {fp : List Addr} {s3 : Shared} {H3 : Hp} (o : OutC (cxOf (CXC P w (.ref C)) P w K mg base N qual scope f cd A outer s H E) fp s3 H3) :
    Passes (CXC P w (.ref C)) (cxCompX (cxOf (CXC P w (.ref C)) P w K mg base N qual scope f cd A outer s H E) N' scope' cl fp s3 H3) E := by
  intro pins σ H1 s1 e s' I cx
  obtain ⟨pins0, σ0, I0, f0⟩ := o
  obtain ⟨x, H', rfl, hos, hb, un, ok, ⟨newx, hx, T, a0, oe, vs, oT, ts, ex, ec, ed, e1, nT, hT, Tx, eT, edT, e3⟩, q⟩ := cx
  have IB := I.call' hos un ok hb (fun b z => absurd z (by simp))
  have u : Un (frs (envOfC qual scope s.heap.objs.size f cd :: outer)) fp H3 H' s3.heap s'.heap := IB.base
  have u1 : Un (frs (envOfC qual scope s.heap.objs.size f cd :: outer)) fp H3 H1 s3.heap s1.heap := I.base
  have fr0 : s1.heap.FunFrames base (envOfC qual scope s.heap.objs.size f cd :: outer) := I.stack
  have frf : ∀ b ∈ frs (envOfC qual scope s.heap.objs.size f cd :: outer), H1 b = none := I.stkFree
  obtain ⟨B, hB⟩ := heap_without s'.heap (x :: T :: s3.heap.objs.size :: frs (envOfC qual scope s.heap.objs.size f cd :: outer))
  have frs' : ∀ b ∈ frs (envOfC qual scope s.heap.objs.size f cd :: outer), H' b = none := IB.stkFree
  have fl : s'.heap.FunFrames B (envOfC qual scope s.heap.objs.size f cd :: outer) :=
    funFrames_of fr0 (fun b z o ho => un.slot b o ho (frf b z) z (by simp)) fun b z => (hB b).1 (.tail _ (.tail _ (.tail _ z)))
  have st : B.StaysIn s'.heap := fun b o hb => by
    by_cases z : b ∈ x :: T :: s3.heap.objs.size :: frs (envOfC qual scope s.heap.objs.size f cd :: outer)
    · rw [(hB b).1 z] at hb; cases hb
    · rw [(hB b).2 z] at hb; exact hb
  show wpAny _ _ (noteFrame (.ref x) (compEnvC scope' cl s3.heap.objs.size (envOfC qual scope s.heap.objs.size f cd))) _ _ s'
  rw [note_same (a := compEnvC scope' cl s3.heap.objs.size (envOfC qual scope s.heap.objs.size f cd)) (b := envOfC qual scope s.heap.objs.size f cd) rfl]
  refine wpAny_noteFrame_onW (base := B) (cls := .ref C) (a0 := a0) I.ok.frames fl rfl ⟨oe, vs, T, oT, ts, ex, ec, ed, e1, (hB T).1 (.tail _ (.head _)), Tx, eT, edT, e3⟩ st ((hB x).1 (.head _)) fun h1 ⟨k1, k2, k3, k4⟩ => ?_
  obtain ⟨m, hn, _⟩ := IB.loc
  have hn1 : h1.Ns s3.heap.objs.size m := Heap.UpToSlots.ns k4 hn
  refine ⟨m, hn1, fun h2 sb => ?_⟩
  have nof : ∀ {b : Addr} {ob : Obj} {ws : Array Value}, h1.get? b = some ob → ob.data = .fields ws → b ≠ s3.heap.objs.size := fun {b ob ws} eb db z => by
    obtain ⟨o2, es, ep, ho, hd, _⟩ := hn1
    rw [← z, eb] at ho
    cases ho
    rw [db] at hd
    cases hd
  have same : ∀ b, b ≠ s3.heap.objs.size → h2.get? b = h1.get? b := fun b hb => sb.2 b hb
  have st2 : B.StaysIn h2 := fun b o eb => by
    rw [same b fun z => by rw [z, (hB _).1 (.tail _ (.tail _ (.head _)))] at eb; cases eb]
    exact k1 b o eb
  have fC : ∀ b ∈ frs (envOfC qual scope s.heap.objs.size f cd :: outer), b ≠ s3.heap.objs.size := fun b z y => by
    obtain ⟨_, o2, h2', _⟩ := I0.stack.mem z
    exact absurd (Heap.lt_size h2') (by rw [y]; exact Nat.lt_irrefl _)
  have fl2 : h2.FunFrames B (envOfC qual scope s.heap.objs.size f cd :: outer) := funFrames_of k2 (fun b z o ho => ⟨o.slots, by rw [same b (fC b z)]; exact ho⟩) fun b z => (hB b).1 (.tail _ (.tail _ (.tail _ z)))
  have tr2 : h2.TracedAtW B x (.ref C) a0 (rawInt s.heap.objs.size) := by
    obtain ⟨oe1, vs1, T1, oT1, ts1, ex1, ec1, ed1, e11, nT1, Tx1, eT1, edT1, e31⟩ := k3
    exact ⟨oe1, vs1, T1, oT1, ts1, by rw [same _ (nof ex1 ed1)]; exact ex1, ec1, ed1, e11, nT1, Tx1, by rw [same _ (nof eT1 edT1)]; exact eT1, edT1, e31⟩
  obtain ⟨oe1, vs1, T1, oT1, ts1, ex1, ec1, ed1, e11, nT1, Tx1, eT1, edT1, e31⟩ := id tr2
  show wpAny _ _ (passOn _ (.ref x) _) _ _ { s' with heap := h2 }
  unfold PySem.passOn
  refine wpAny_bind (wpAny_field ex1 ed1 e11 ?_)
  rw [if_neg (show ¬ ((Value.ref T1 == Value.none) = true) from by simp)]
  have fin : wpAny (model P w) (A.deeper (envOfC qual scope s.heap.objs.size f cd)) (leaving (envOfC qual scope s.heap.objs.size f cd) (.ref x)) (fun _ s'' => CXC P w (.ref C) outer H s E (.ref x) s'') (fun e' s'' => CXC P w (.ref C) outer H s E e' s'') { s' with heap := h2 } := by
    unfold leaving
    refine wpAny_bind (wpAny_noteFrame_againW (L := s.heap.objs.size) rfl tr2 ?_)
    refine wpAny_setFlight_noneW (base := B) (l := envOfC qual scope s.heap.objs.size f cd :: outer) st2 fl2 tr2 fun h3 j1 j2 j3 j4 => ?_
    have k : ∀ b o, b ∉ s3.heap.objs.size :: frs (envOfC qual scope s.heap.objs.size f cd :: outer) → b ≠ x → b ≠ T → s'.heap.get? b = some o → h3.get? b = some o := fun b o n1 n2 n3 eb => j1 b o (by
      rw [(hB b).2 fun z => by
        rcases List.mem_cons.mp z with z | z
        · exact n2 z
        · rcases List.mem_cons.mp z with z | z
          · exact n3 z
          · exact n1 z]
      exact eb)
    have ks : ∀ b o, b ∈ frs (envOfC qual scope s.heap.objs.size f cd :: outer) → s'.heap.get? b = some o → ∃ sl, h3.get? b = some { o with slots := sl } := fun b o z eb => by
      have nf : ∀ ws, o.data ≠ .fields ws := by
        obtain ⟨_, o2, h2', h3'⟩ := fl.mem z
        rw [eb] at h2'
        cases h2'
        exact h3'
      obtain ⟨sl, y⟩ := k4 b o eb nf
      exact ⟨sl, j4 b _ ((same b (fC b z)).trans y) nf⟩
    have un4 : Un (frs (envOfC qual scope s.heap.objs.size f cd :: outer)) fp H3 H' s3.heap h3 := u.leftX (fun b o ob nb nx eb eo => by
      obtain ⟨o1, e1'⟩ := u1.there b ob eb nx
      refine k b o (fun z => ?_) (fun z => ?_) (fun z => ?_) eo
      · rcases List.mem_cons.mp z with z | z
        · exact absurd (Heap.lt_size eb) (by rw [z]; exact Nat.lt_irrefl _)
        · exact nb z
      · rw [z, newx] at e1'; cases e1'
      · rw [z, nT] at e1'; cases e1') ks
    have ok4 : HOk P w H' h3 := ok.left (fun b z => by
      rcases List.mem_cons.mp z with z | z
      · rw [z]; exact IB.free
      · exact frs' b z) hx hT k
    have J := I0.call' (s' := { s' with heap := h3 }) (ch := fp) IB.os un4 ok4 hb fun b z => by
      obtain ⟨_, c1, _, c3, c4, c5⟩ := f0 b z
      exact ⟨c3, c1, c4, c5⟩
    have n0 : ∀ {b : Addr}, s1.heap.get? b = none → s.heap.get? b = none := fun {b} z => by
      cases y : s.heap.get? b with
      | none => rfl
      | some ob =>
        obtain ⟨o', y'⟩ := I0.base.there b ob y (by show b ∉ []; simp)
        obtain ⟨o'', y''⟩ := u1.there b o' y' fun hm => by
          rcases (f0 b hm).2.2.2.1 with z | z
          · exact nomatch z
          · exact absurd (Heap.lt_size y) (Nat.not_lt.mpr z)
        rw [z] at y''
        cases y''
    have nC : s.heap.get? s3.heap.objs.size = none := by
      cases y : s.heap.get? s3.heap.objs.size with
      | none => rfl
      | some ob => exact absurd (Heap.lt_size y) (Nat.not_lt.mpr I0.sz)
    obtain ⟨oe3, vs3, T3, oT3, ts3, ex3, ec3, ed3, e13, nT3, Tx3, eT3, edT3, e33⟩ := j3
    have gT : s.heap.get? T3 = none ∧ H' T3 = none := by
      by_cases z : T3 ∈ x :: T :: s3.heap.objs.size :: frs (envOfC qual scope s.heap.objs.size f cd :: outer)
      · rcases List.mem_cons.mp z with z | z
        · exact absurd z Tx3
        rcases List.mem_cons.mp z with z | z
        · rw [z]; exact ⟨n0 nT, hT⟩
        rcases List.mem_cons.mp z with z | z
        · rw [z]; exact ⟨nC, IB.free⟩
        · obtain ⟨_, o2, h2', h3'⟩ := j2.mem z
          rw [eT3] at h2'
          cases h2'
          exact absurd edT3 (h3' _)
      · have z' : s'.heap.get? T3 = none := by rw [← (hB T3).2 z]; exact nT3
        refine ⟨n0 ?_, get_none_free ok z'⟩
        cases y : s1.heap.get? T3 with
        | none => rfl
        | some ob =>
          obtain ⟨o', y'⟩ := un.there T3 ob y (by simp)
          rw [z'] at y'
          cases y'
    exact ⟨x, H', rfl, J.os, hb, J.base, ok4, ⟨n0 newx, hx, T3, a0, oe3, vs3, oT3, ts3, ex3, ec3, ed3, e13, gT.1, gT.2, Tx3, eT3, edT3, e33⟩, q⟩
  have step : wpAny (model P w) (A.deeper (envOfC qual scope s.heap.objs.size f cd)) (setFlight (.ref x) (some s.heap.objs.size)) (fun _ s'' => wpAny (model P w) (A.deeper (envOfC qual scope s.heap.objs.size f cd)) (throw (.ref x) : Sem Value) (fun _ _ => False) (cxOf (CXC P w (.ref C)) P w K mg base N qual scope f cd A outer s H E).xe s'') (cxOf (CXC P w (.ref C)) P w K mg base N qual scope f cd A outer s H E).xe { s' with heap := h2 } := by
    unfold setFlight
    refine wpAny_bind (wpAny_field ex1 ed1 e11 ?_)
    rw [if_pos (show (Value.ref T1 != Value.none) = true from by simp)]
    show wpAny _ _ (setField (.ref T1) 3 (rawInt s.heap.objs.size)) _ _ _
    refine wpAny_setField eT1 edT1 (Array.getElem?_eq_some_iff.mp e31).1 ?_
    show wpAny _ _ _ _ _ { s' with heap := h2.update T1 (Obj.mapFields (·.setIfInBounds 3 (rawInt s.heap.objs.size))) }
    rw [Heap.update_setField_same h2 T1 oT1 ts1 3 (rawInt s.heap.objs.size) eT1 edT1 e31]
    exact wpAny_throw fin
  first
    | exact wpAny_bind (wpAny_pure (wpAny_bind step))
    | exact wpAny_bind step
end
theorem bpe_compX {X : Cx} {elt tg iter : Expr} {ifs : List Expr} {scope : Scope} {pos : Pos} {N : List Str} {n : Nat} {cap : List Nat} {wi : TI} {g : TG} {tt : TT} {te : TE} (hc : X.calm = true) (B : Blk X scope N n cap) (hi : Bx (PI X tg iter wi)) (hk : KeepG n g)
    (hg : ∀ cl fp s H, Bx (PG (cxCompX X N scope cl fp s H) tg g)) (ht : ∀ cl fp s H, Bx (PTs (cxCompX X N scope cl fp s H) ifs tt)) (he : ∀ cl fp s H, OutC X fp s H → Bx (PE (cxCompX X N scope cl fp s H) elt te))
    (hs : ∀ x, foldedSetIterable iter X.env x = pure x := by intro _; rfl) : Bx (PE X (.ListComp elt [⟨tg, iter, ifs, 0⟩] scope pos) (tComp n cap wi g tt te)) :=
  ⟨pe_compX hc B hi.1 hk (fun a b c d => (hg a b c d).1) (fun a b c d => (ht a b c d).1) (fun a b c d o => (he a b c d o).1) hs⟩
end L2
namespace L2
open PySem PySem.Spec PyProof.Rows
section
variable {X : Cx}
theorem mem_picked {x : Str} {l : List Nat} {c : Nat} (h : c ∈ l.filterMap (x.cps[·]?)) : c ∈ x.cps.toList := by
  obtain ⟨i, _, e⟩ := List.mem_filterMap.mp h
  rw [← Array.getElem?_toList] at e
  exact List.mem_of_getElem? e
noncomputable def repS (z : Str) (n : Nat) : Str := ⟨(List.replicate n z.cps).foldl (· ++ ·) #[]⟩
theorem op_mul_str : OpR X (binaryOp .Mult) (fun x y H Q => ∃ (z : Str) (n : Int), x = .str z ∧ y = .int n ∧ 1 < n ∧ n ≤ 1000 ∧ z.length = 1 ∧ (repS z n.toNat).length ≤ 1000 ∧ Q (.str (repS z n.toNat)) H) := by
  intro pins s σ H x y v u Q I rx ry h
  obtain ⟨z, n, rfl, rfl, n1, n2, hz, hl, q⟩ := h
  obtain ⟨t, rfl⟩ := rx
  obtain ⟨t', rfl⟩ := ry
  have a1 : ¬ n < 1 := by omega
  have a2 : (n == 1 || z.length == 0) = false := by
    rw [hz]
    have : (n == 1) = false := by simp; omega
    rw [this]
    rfl
  refine PySem.P.mul_str (by rw [decide_eq_false (by omega), decide_eq_false (by omega)]; rfl) (fun _ _ => by
    rw [hz]
    have : (1 : Int) ≤ (2 ^ 63 - 1) / n := Int.le_ediv_of_mul_le (by omega) (by omega)
    omega) (fun _ _ => by
    unfold Builtin.Str.tooLong
    rw [hz, sizeLine_eq, decide_eq_false (by omega)]) ?_
  rw [if_neg a1, if_neg (ne_true_of_eq_false a2)]
  exact ⟨by rw [sizeLine_eq]; show (repS z n.toNat).length ≤ _; omega, ⟨.str _, H, I.tok _, ⟨_, rfl⟩, q⟩⟩
theorem call_intT : CallR X (.type "int") (fun xs H Q => ∃ (z : Str), xs = [.str z] ∧ (∀ c ∈ z.cps.toList, 48 ≤ c ∧ c ≤ 57) ∧ z.cps.toList ≠ [] ∧ z.length ≤ 640 ∧ Q (.int ((z.cps.toList.foldl (fun a c => a * 10 + (c - 48)) 0 : Nat) : Int)) H) := by
  intro pins s σ H xs us Q I r h
  obtain ⟨z, rfl, hd, hn, hl, q⟩ := h
  obtain ⟨u, rfl, ru⟩ := r.one
  obtain ⟨t, rfl⟩ := ru
  exact PySem.W.KIN.call_text (PySem.intText_digits hd hn (by omega)) hl ⟨.int _, H, I.tok _, ⟨_, rfl⟩, q⟩
end
noncomputable def cutL (c : Nat) : List Nat → List (List Nat)
  | [] => [[]]
  | a :: l => if a = c then [] :: cutL c l else match cutL c l with
    | [] => [[a]]
    | p :: ps => (a :: p) :: ps
theorem cutL_ne (c : Nat) : ∀ l, cutL c l ≠ []
  | [] => fun z => nomatch z
  | a :: l => by
    unfold cutL
    split
    · exact fun z => nomatch z
    · split <;> exact fun z => nomatch z
theorem cutL_clean (c : Nat) : ∀ l, ∀ p ∈ cutL c l, c ∉ p
  | [], p, hp => by
    rw [List.mem_singleton.mp hp]
    exact fun z => nomatch z
  | a :: l, p, hp => by
    have ih := cutL_clean c l
    unfold cutL at hp
    split at hp
    · rcases List.mem_cons.mp hp with e | hp
      · rw [e]; exact fun z => nomatch z
      · exact ih p hp
    · rename_i ne
      split at hp
      · rw [List.mem_singleton.mp hp]
        exact fun z => ne (List.mem_singleton.mp z).symm
      · rename_i q qs e
        rcases List.mem_cons.mp hp with e2 | hp
        · rw [e2]
          intro z
          rcases List.mem_cons.mp z with z | z
          · exact ne z.symm
          · exact ih q (by rw [e]; exact .head _) z
        · exact ih p (by rw [e]; exact .tail _ hp)
theorem cutL_join (c : Nat) : ∀ l, My.joinL c (cutL c l) = l
  | [] => rfl
  | a :: l => by
    have ih := cutL_join c l
    have ne := cutL_ne c l
    unfold cutL
    split
    · rename_i e
      subst e
      cases h : cutL a l with
      | nil => exact absurd h ne
      | cons q qs =>
        rw [h] at ih
        show [] ++ a :: My.joinL a (q :: qs) = _
        rw [ih]
        rfl
    · cases h : cutL c l with
      | nil => exact absurd h ne
      | cons q qs =>
        rw [h] at ih
        show My.joinL c ((a :: q) :: qs) = _
        cases qs with
        | nil =>
          show a :: q = _
          rw [show q = l from ih]
        | cons r rs =>
          show (a :: q) ++ c :: My.joinL c (r :: rs) = _
          rw [← ih]
          rfl
section
variable {X : Cx}
theorem mt_splitA : MtR X "str.split" (fun x vs H Q => ∃ (z : Str) (c : Nat) (y : Str), x = .str z ∧ vs = [.str y] ∧ y = ⟨#[c]⟩ ∧ Builtin.Str.strKind y = 1 ∧ z.length ≤ 100000 ∧
    ∀ D, H D = none → Q (.ref D) (upd H D (.lst ((cutL c z.cps.toList).map fun p => V.str ⟨p.toArray⟩)))) := by
  intro pins s σ H x vs v us Q I rx rv h
  obtain ⟨z, c, y, rfl, rfl, ey, hy, hz, q⟩ := h
  by_cases h0 : z.length = 0
  · obtain ⟨tk, rfl⟩ := rx
    obtain ⟨u, rfl, ru⟩ := rv.one
    obtain ⟨tu, rfl⟩ := ru
    have e0 : z.cps.toList = [] := List.length_eq_zero_iff.mp (by rw [Array.length_toList]; exact h0)
    have ez : z = ⟨([] : List Nat).toArray⟩ := by
      cases z with
      | mk a => congr 1; exact Array.toList_inj.mp (by simpa using e0)
    rw [e0] at q
    have y1 : y.length = 1 := by rw [ey]; rfl
    refine call_meets F.slot_str_split (typeIs_str s z tk) F.entry_str_split (F.args_str_split_2 _ _) (meets_str_split_cannot_occur z y tk tu (by rw [h0, y1]; rfl)) ?_
    refine ⟨.ref s.heap.objs.size, _, I.laid (t' := s.toks) (fun b u e => Heap.get?_push_of_some _ e) (Nat.le_refl _) ?_, rfl, q _ (I.hok.fresh (Nat.le_refl _))⟩
    exact ⟨(by show 1 ≤ sizeLine; decide), _, 0, .cons (show RelV (.str ⟨([] : List Nat).toArray⟩) (.str z tk) from ⟨tk, by rw [ez]⟩) .nil, Heap.get?_push_size _ rfl⟩
  · refine mt_split pins s σ H _ _ v us Q I rx rv ⟨z, y, rfl, rfl, ?_, by rw [ey]; rfl, hz, fun D hD => ?_⟩
    · have h2 : 1 ≤ Builtin.Str.strKind z := by
        unfold Builtin.Str.strKind
        split
        · decide
        · split <;> decide
      have h3 : y.length = 1 := by rw [ey]; rfl
      rw [hy, h3, decide_eq_false (by omega), decide_eq_false (by omega)]
      rfl
    · subst ey
      rw [My.split_parts (z := z) (c := c) (parts := cutL c z.cps.toList) (cutL_ne _ _) (cutL_clean _ _) (cutL_join _ _).symm, List.map_map]
      exact q D hD
variable {D : Addr} {n0 : Nat} {cap : List Nat} {σ : St} {g : TG} {tt : TT} {te : TE} {Q : VK} {H1 : Hp}
theorem comp_str {x : Str} (Pv : Nat → Hp → Prop) (h0 : Pv 0 (upd H1 D (.lst [])))
    (hs : ∀ i c H, x.cps.toList[i]? = some c → Pv i H → g (.str ⟨#[c]⟩) (blockSt n0 cap σ) H fun σ2 H2 => tt σ2 H2 fun b H3 => if b = true then te σ2 H3 fun y H4 => ∃ xs, H4 D = some (.lst xs) ∧ xs.length < sizeLine ∧ Pv (i + 1) (upd H4 D (.lst (xs ++ [y]))) else Pv (i + 1) H3)
    (hd : ∀ H, Pv x.cps.toList.length H → Q (.ref D) H) :
    compRun (Its x) D n0 cap σ g tt te Q H1 := by
  have es : x.cps.toList.length = x.cps.size := Array.length_toList
  refine ⟨fun i m H => m = x.cps.size - i ∧ i ≤ x.cps.size ∧ Pv i H, ⟨x.cps.size, by simp, Nat.zero_le _, h0⟩, ?_⟩
  rintro i m H ⟨rfl, hi, p⟩
  by_cases hlt : i < x.cps.size
  · refine .inr ⟨hlt, Pv (i + 1), fun H' p' => ⟨x.cps.size - (i + 1), by omega, rfl, hlt, p'⟩, fun y H' z => ?_⟩
    obtain ⟨e, c, hc, rfl⟩ := z
    subst e
    exact hs i c _ (by rw [Array.getElem?_toList]; exact hc) p
  · have e : i = x.cps.size := by omega
    subst e
    exact .inl ⟨Nat.le_refl _, hd H (by rw [es]; exact p)⟩
end
end L2
namespace L2
open PySem PySem.Spec PyProof.Rows
section
variable {X : Cx} {pins : List (Addr × Obj)} {σ : St} {H : Hp} {s : Shared}
theorem ev_var {E : Value → Shared → Prop} {i : Nat} {x : Str} {pos : Pos} {v : V} {Q : Value → Shared → Prop} (I : Inv X pins σ H s) (hN : X.N[i]? = some x) (hv : Vis X.env.scope x) (e : σ[i]? = some (some v))
    (h : ∀ u, RelV v u → Q u s) (hd : (x == ("__debug__" : Str)) = false) (hcd : (x == ("__classdict__" : Str)) = false) : wpAny (model X.prog X.w) X.A (eval (.Name x pos) X.env) Q E s := by
  obtain ⟨m, hn, hl⟩ := I.loc
  obtain ⟨u, r, l⟩ := hl i x v hN e hv
  have fin := h u r
  rcases l with ⟨hk, hm⟩ | ⟨hk, c, hc, hcell⟩
  · exact wpAny_Name (wpAny_loadName_local I.ok.kind hk hn hm fin) hd
  · rcases hk with hk | hk
    · exact wpAny_Name (wpAny_loadName_cell I.ok.kind hk hc hcell fin) hd
    · exact wpAny_Name (wpAny_loadName_free I.ok.kind hk hc hcell fin hcd) hd
open PySem.Builtin PySem.Builtin.Str in
theorem gives_rep1 (x y z : Str) (t u v r : Tok) (n0 : (u == 0 || v == 0) = false) (nuv : (u == v) = false) (nyz : (y == z) = false) (nl : tooLong (x.length + (occurrences x y 0 x.length 1).length * z.length) = false) :
    Gives («str.replace» ⟨[.str x t, .str y u, .str z v, .int 1 r], []⟩) (if ((occurrences x y 0 x.length 1).isEmpty || (y.length == 0 && z.length == 0)) = true then .val (.str x t) else .str (glued z (partsBetween x (occurrences x y 0 x.length 1) y.length))) := by
  show Gives (do
    let lim ← countLimit "str.replace" (some (.int 1 r)) (x.length + 1)
    if ((occurrences x y 0 x.length lim).isEmpty || (y.length == 0 && z.length == 0)) = true then (do rule "str.replace.nothing"; ret (.str x t)) else
      (do let one ← isSame (.str y u) (.str z v)
          if one = true then (do rule "str.replace.old-is-new"; ret (.str x t)) else
          if tooLong (x.length + (occurrences x y 0 x.length lim).length * z.length) = true then unsupported "str.replace:memory" else
            retStr (glued z (partsBetween x (occurrences x y 0 x.length lim) y.length)))) _
  rw [countLimit_int _ _ _ _ (by decide)]
  show Gives (if ((occurrences x y 0 x.length 1).isEmpty || (y.length == 0 && z.length == 0)) = true then (do rule "str.replace.nothing"; ret (.str x t)) else
      (do let one ← isSame (.str y u) (.str z v)
          if one = true then (do rule "str.replace.old-is-new"; ret (.str x t)) else
          if tooLong (x.length + (occurrences x y 0 x.length 1).length * z.length) = true then unsupported "str.replace:memory" else
            retStr (glued z (partsBetween x (occurrences x y 0 x.length 1) y.length)))) _
  cases hc : ((occurrences x y 0 x.length 1).isEmpty || (y.length == 0 && z.length == 0))
  · rw [isSame_str_other y z u v n0 nuv nyz, nl]
    exact .of_eq rfl
  · exact .rule (.of_eq rfl)
theorem mem_join {sep : Str} {c : Nat} : ∀ {zs : List Str}, c ∈ (Str.join sep zs).cps.toList → c ∈ sep.cps.toList ∨ ∃ z ∈ zs, c ∈ z.cps.toList
  | [], h => by
    have e : (Str.join sep []).cps.toList = [] := rfl
    rw [e] at h
    exact nomatch h
  | [z], h => .inr ⟨z, .head _, h⟩
  | z :: y :: r, h => by
    have e : (Str.join sep (z :: y :: r)).cps.toList = (z.cps.toList ++ sep.cps.toList) ++ (Str.join sep (y :: r)).cps.toList := by
      show ((z.cps ++ sep.cps) ++ (Str.join sep (y :: r)).cps).toList = _
      rw [Array.toList_append, Array.toList_append]
    rw [e] at h
    rcases List.mem_append.mp h with h | h
    · rcases List.mem_append.mp h with h | h
      · exact .inr ⟨z, .head _, h⟩
      · exact .inl h
    · rcases mem_join h with h | ⟨q, hq, h⟩
      · exact .inl h
      · exact .inr ⟨q, .tail _ hq, h⟩
open PySem.Builtin PySem.Builtin.Str in
end
section
variable {X : Cx}
theorem len_app (x y : Str) : (x ++ y).length = x.length + y.length := by
  show (x.cps ++ y.cps).size = _
  rw [Array.size_append]
  rfl
end
noncomputable def tTryA (sp : Sp) (dvs : List V) (C : Addr) (i j : Nat) (t : TA) (ts : TS) : TS := fun D σ H => t σ H fun vs H1 => sp (vs ++ dvs) H1 (fun v H2 => D.nx (σ.set i (some v)) H2) fun _ ox H2 => ∀ x, ox = some x → H2 x = none → ts (D1 D j) (σ.set j (some (.ref x))) (upd H2 x (excO x C))
section
variable {X : Cx} {C S f : Addr} {k : Nat} {fd : FuncData} {ps : List Str} {sp : Sp} {dvs : List V} {ds : List Value} {nid nid2 : String} {bB bB2 : List Value} {fx sx n y : Str} {p np hpos cpos epos pos pos' : Pos} {b₀ : Stmt} {suite : List Stmt} {i j : Nat} {t : TA} {ts : TS} {e : Expr} {es : List Expr}
theorem ps_tryA (F : FnOk X.prog X.w X.K X.mg X.base (CXC X.prog X.w (.ref C)) k f fd ps sp) (hr : Room k X.A) (hg : Gl X fx) (hm : X.mg fx = some (.ref f)) (hkp : PySem.W.keepIn X.K (.ref f) = true) (hb : Binds X.K fd ps ds) (hd : Vals dvs ds) (ha : PA X.nox (e :: es) t)
    (hcalm : X.calm = true) (hst : X.stack = X.env :: X.outer) (hfm : X.env.frame = some X.env.locals) (hgS : Gl X sx) (hmS : X.mg sx = some (.ref S))
    (cC : PySem.W.excIn X.K C bB nid = true) (cS : PySem.W.excIn X.K S bB2 nid2 = true) (b2 : bB2.contains (.type "BaseException") = true) (hin : (mroOf X.K C).tail.contains (.ref S) = true)
    (hN : X.N.Nodup) (hi : X.N[i]? = some y) (hy : Loc X.env.scope y) (hf : X.fn y = true ∨ X.env.scope.names.lookup y = some .local) (hj : X.N[j]? = some n) (hn : X.env.scope.names.lookup n = some .local) (hs : ∀ x, PSs (X.marked x) (b₀ :: suite) ts) (hdb : (sx == ("__debug__" : Str)) = false := by decide) (hdf : (fx == ("__debug__" : Str)) = false := by decide)
    (he : starEach (e :: es) X.env = (false, eval e X.env) :: starEach es X.env := by rfl) (hpl : (backTo cpos (starEach es X.env)).any (·.1) = false := by rfl) (hsw : swapsWith (.Call (.Name fx p) (e :: es) [] cpos) (some (.Name y pos')) epos.line X.env = pure false := by rfl) :
    PS X (.Try [.Assign [.Name y pos'] (.Call (.Name fx p) (e :: es) [] cpos) epos] [.ExceptHandler (some (.Name sx np)) (some n) (b₀ :: suite) hpos] [] [] pos) (tTryA sp dvs C i j t ts) := by
  intro pins s σ H D I h
  refine wpAny_Try_except (wpAny_execs_cons (wpAny_Assign_Name (wpAny_mono (Q := EP X pins σ fun v H2 => D.nx (σ.set i (some v)) H2) ?_ (fun v s1 ⟨x, H1, I1, r1, q1⟩ => store_ok I1 hN hi hy r1 (fun s2 I2 => wpAny_execs_nil (wpAny_execs_nil ⟨_, H1, I2, q1⟩)) hf) fun _ _ z => z) hsw))
  refine wpAny_Call_Name_kw (ld_glob I hg hm ?_ hdf)
  refine PySem.W.callWith_K (h₀ := X.base) I.ok.mod.kin hkp (wpAny_mono (ha cpos pins s σ H _ (I.wish _) h) (fun us s1 ⟨vs, H1, I1, r, q⟩ => ⟨I1.kIn, ?_⟩) fun _ _ z => z.elim) he hpl
  replace I1 := I1.unwish
  have r2 : Vals (vs ++ dvs) (us ++ ds) := r.append hd
  have hl : (us ++ ds).length = ps.length := by rw [← r2.length]; exact F.len _ _ _ _ q
  refine wpAny_call (codeAny_mono (F.run X.A X.stack s1 H1 ⟨us, []⟩ (us ++ ds) (vs ++ dvs) _ _ hr I1.env0 (hb s1 us I1.kIn hl) r2 q) fun r s2 hq => ?_)
  cases r with
  | error e2 =>
    replace hq : CXC X.prog X.w (.ref C) X.stack H1 s1 (fun _ ox H2 => ∀ x, ox = some x → H2 x = none → ts (D1 D j) (σ.set j (some (.ref x))) (upd H2 x (excO x C))) e2 s2 := hq
    exact caught_as I1 hcalm hst hfm hgS hmS cC cS b2 hin hN hj hn hs hdb hq fun x H2 z y => z x rfl y
  | ok fl =>
    cases fl with
    | ret u => exact I1.after hq
    | next => exact hq.elim
    | brk => exact hq.elim
    | cont => exact hq.elim
end
end L2
namespace L2
open PySem PySem.Spec PyProof.Rows
end L2
namespace L2
open PySem PySem.Spec PyProof.Rows
noncomputable def rJoinA : V → List V → Hp → VK → Prop := fun x vs H Q => ∃ (sep : Str) (l : Addr) (zs : List Str), x = .str sep ∧ vs = [.ref l] ∧ H l = some (.lst (zs.map V.str)) ∧ (zs.map (·.length)).sum + zs.length * sep.length ≤ 100000 ∧ Q (.str (Str.join sep zs)) H
theorem mt_joinA {X : Cx} : MtR X "str.join" rJoinA := by
  intro pins s σ H x vs v us Q I rx rv h
  obtain ⟨sep, l, zs, ex, ev, hH, hz, q⟩ := h
  cases zs with
  | cons z zs => exact mt_join pins s σ H x vs v us Q I rx rv ⟨sep, l, z :: zs, ex, ev, hH, by rw [List.length_cons]; omega, hz, q⟩
  | nil =>
    subst ex ev
    obtain ⟨tk, rfl⟩ := rx
    obtain ⟨u, rfl, ru⟩ := rv.one
    cases ru
    obtain ⟨z, its, n, r, hl, e⟩ := I.lstM hH
    obtain ⟨ps, rfl, ez⟩ := vals_strs (zs := []) r
    have ep : ps = [] := List.map_eq_nil_iff.mp ez
    subst ep
    refine call_meets F.slot_str_join (typeIs_str s sep tk) F.entry_str_join (F.args_str_join_2 _ _) (meets_str_join_list sep tk l [] rfl) ⟨⟨_, e, rfl, n, rfl⟩, ?_⟩
    show (Made.str (Builtin.Str.glued sep [])).post _ s
    rw [StrLaws.glued_eq_join]
    exact ⟨(by show 0 ≤ sizeLine; decide), ⟨.str _, H, I.tok _, ⟨_, rfl⟩, q⟩⟩
end L2
namespace L2
open PySem PySem.Spec PyProof.Rows
noncomputable def pairK (c : Nat) : List Int := [((c / 2 : Nat) : Int), ((c % 2 : Nat) : Int)]
noncomputable def pairH (c : Nat) : Int := reduceHash (Builtin.Tuple.tupleHashOf [hashInt ((c / 2 : Nat) : Int), hashInt ((c % 2 : Nat) : Int)])
noncomputable def tabAsk (te : SetTable × List Nat) (c : Nat) : Option SetTable.Met := te.1.probe (fun i => ((te.2[i]?).map pairH).getD 0) (pairH c) (te.1.probeStart (pairH c))
noncomputable def tabPut (te : SetTable × List Nat) (c j : Nat) : SetTable × List Nat := ((te.1.put j).1, te.2.take (te.1.put j).2 ++ c :: te.2.drop (te.1.put j).2)
noncomputable def tabStep (te : SetTable × List Nat) (c : Nat) : SetTable × List Nat :=
  match tabAsk te c with
  | some (.empty j none) => tabPut te c j
  | _ => te
noncomputable def tabAll (led : Bool) : List (SetTable × List Nat) :=
  let s0 := [((SetTable.fresh 0 0 led, []) : SetTable × List Nat)]
  let nx := fun (l : List (SetTable × List Nat)) => l.flatMap fun te => ([0, 1, 2, 3].filter fun c => !te.2.contains c).map fun c => tabStep te c
  s0 ++ nx s0 ++ nx (nx s0) ++ nx (nx (nx s0)) ++ nx (nx (nx (nx s0)))
noncomputable def entP (p : Nat × Addr) : Int × Value := (pairH p.1, .ref p.2)
noncomputable def esP (L : List (Nat × Addr)) : Array (Int × Value) := (L.map entP).toArray
noncomputable def PrSet (prog : Program) (w : World) (h : Heap) (S : Addr) (led : Bool) (t : SetTable) (L : List (Nat × Addr)) : Prop :=
  ∃ o ep, h.get? S = some o ∧ o.ExactSet ∧ o.data = .set (esP L) ep t ∧ (t, L.map Prod.fst) ∈ tabAll led ∧ ∀ p ∈ L, p.1 < 4 ∧ IsTupleKey (intKind prog w) h (pairK p.1) p.2
section
variable {prog : Program} {w : World} {A : Around} {E : Value → Shared → Prop} {s : Shared}
end
end L2
namespace L2
open PySem PySem.Spec PyProof.Rows
noncomputable def GotP (L xs : List (Nat × Addr)) : Prop := (∀ p ∈ L, p ∈ xs) ∧ (∀ x ∈ xs, x.1 ∈ L.map Prod.fst) ∧ (L.map Prod.fst).Nodup
theorem GotP.nil : GotP [] [] := ⟨fun _ h => h, fun _ h => (List.not_mem_nil h).elim, List.nodup_nil⟩
theorem GotP.old {L xs : List (Nat × Addr)} {x : Nat × Addr} (h : GotP L xs) (hm : x.1 ∈ L.map Prod.fst) : GotP L (xs ++ [x]) := by
  refine ⟨fun p hp => List.mem_append_left _ (h.1 p hp), fun y hy => ?_, h.2.2⟩
  rcases List.mem_append.mp hy with hy | hy
  · exact h.2.1 y hy
  · rw [List.mem_singleton.mp hy]; exact hm
theorem GotP.new {L L' xs : List (Nat × Addr)} {x : Nat × Addr} (h : GotP L xs) (hm : x.1 ∉ L.map Prod.fst) (p : List.Perm L' (x :: L)) : GotP L' (xs ++ [x]) := by
  refine ⟨fun q hq => ?_, fun y hy => ?_, ?_⟩
  · rcases List.mem_cons.mp (p.mem_iff.mp hq) with rfl | hq
    · exact List.mem_append_right _ (List.mem_singleton.mpr rfl)
    · exact List.mem_append_left _ (h.1 q hq)
  · refine (p.map Prod.fst).mem_iff.mpr ?_
    rcases List.mem_append.mp hy with hy | hy
    · exact List.mem_cons_of_mem _ (h.2.1 y hy)
    · rw [List.mem_singleton.mp hy]; exact List.mem_cons_self
  · exact (p.map Prod.fst).nodup_iff.mpr (List.nodup_cons.mpr ⟨hm, h.2.2⟩)
section
variable {prog : Program} {w : World}
theorem PrSet.keep {h h' : Heap} {I S : Addr} {led : Bool} {t : SetTable} {L : List (Nat × Addr)} (hm : PrSet prog w h S led t L) (hS : S ≠ I) (hI : ∃ oi, h.get? I = some oi ∧ oi.cls ≠ .type "tuple")
    (hk : ∀ b o, b ≠ I → h.get? b = some o → h'.get? b = some o) : PrSet prog w h' S led t L := by
  obtain ⟨o, ep, ho, hex, hd, htab, hall⟩ := hm
  obtain ⟨oi, e1, e2⟩ := hI
  refine ⟨o, ep, hk _ _ hS ho, hex, hd, htab, fun p hp => ⟨(hall p hp).1, ?_⟩⟩
  obtain ⟨o', it, n, e, c, r⟩ := (hall p hp).2
  refine ⟨o', it, n, hk _ _ (fun z => ?_) e, c, r⟩
  rw [z, e1] at e
  cases e
  exact e2 c
end
section
variable {prog : Program} {w : World} {A : Around} {R : Result → Shared → Prop}
end
section
variable {prog : Program} {w : World} {A : Around} {E : Value → Shared → Prop} {s : Shared}
end
end L2
namespace L2
open PySem PySem.Spec PyProof.Rows
noncomputable def SetIt (w : World) (h : Heap) (I S : Addr) (ep : Nat) (t : SetTable) (L : List (Nat × Addr)) (i : Nat) : Prop :=
  ∃ (o oS : Obj) (slot : Nat), h.get? I = some o ∧ o.cls = .type "set_iterator" ∧ o.data = .fields #[.int slot 0, .int i 0, .ref S, .int (L.length : Nat) 0, .int ep 0] ∧ (w.params.followText "set-order" = false → SetTable.below t.place slot = i) ∧
    h.get? S = some oS ∧ oS.data = .set (esP L) ep t
section
variable {prog : Program} {w : World} {A : Around} {E : Value → Shared → Prop} {s : Shared}
theorem SetIt.at {h h' : Heap} {I S : Addr} {ep : Nat} {t : SetTable} {L : List (Nat × Addr)} {i : Nat} (x : SetIt w h I S ep t L i) (hI : ∀ o, h.get? I = some o → h'.get? I = some o) (hS : ∀ o, h.get? S = some o → h'.get? S = some o) : SetIt w h' I S ep t L i := by
  obtain ⟨o, oS, slot, ho, hc, hd, hb, hoS, hdS⟩ := x
  exact ⟨o, oS, slot, hI _ ho, hc, hd, hb, hS _ hoS, hdS⟩
end
end L2
namespace L2
open PySem PySem.Spec PyProof.Rows
section
variable {prog : Program} {w : World} {A : Around} {E : Value → Shared → Prop} {s : Shared}
end
end L2
namespace L2
open PySem PySem.Spec PyProof.Rows
section
variable {prog : Program} {w : World} {A : Around} {E : Value → Shared → Prop} {s : Shared}
end
end L2
namespace L2
open PySem PySem.Spec PyProof.Rows
section
variable {prog : Program} {w : World} {A : Around} {E : Value → Shared → Prop} {s : Shared}
end
end L2
namespace L2
open PySem PySem.Spec PyProof.Rows
section
variable {X : Cx} {e : Expr} {te : TE} {p p' pos pos' : Pos} {xs xt : Str}
end
end L2
namespace L2
open PySem PySem.Spec PyProof.Rows
section
variable {prog : Program} {w : World} {A : Around} {E : Value → Shared → Prop} {s : Shared}
end
section
variable {X : Cx}
end
end L2
namespace My
open PySem L2
noncomputable def hiV (c : Nat) : Int := ((c / 2 : Nat) : Int)
noncomputable def loV (c : Nat) : Int := ((c % 2 : Nat) : Int)
theorem hi_bit {c : Nat} (h : c < 4) : hiV c = 0 ∨ hiV c = 1 := by
  have : c = 0 ∨ c = 1 ∨ c = 2 ∨ c = 3 := by omega
  rcases this with rfl | rfl | rfl | rfl <;> decide
theorem lo_bit {c : Nat} (h : c < 4) : loV c = 0 ∨ loV c = 1 := by
  have : c = 0 ∨ c = 1 ∨ c = 2 ∨ c = 3 := by omega
  rcases this with rfl | rfl | rfl | rfl <;> decide
inductive Chosen {α : Type} : List α → List (List α) → Prop
  | nil : Chosen [] []
  | cons {x : α} {r : List α} {l : List α} {ls : List (List α)} : x ∈ l → Chosen r ls → Chosen (x :: r) (l :: ls)
theorem Chosen.length {α : Type} {r : List α} {ls : List (List α)} (h : Chosen r ls) : r.length = ls.length := by
  induction h with
  | nil => rfl
  | cons _ _ ih => rw [List.length_cons, List.length_cons, ih]
theorem Chosen.snoc {α : Type} : ∀ {r : List α} {ls : List (List α)} {l : List α}, Chosen r (ls ++ [l]) ↔ ∃ a x, r = a ++ [x] ∧ Chosen a ls ∧ x ∈ l
  | r, [], l => by
    constructor
    · intro h
      cases h with
      | cons hx hr => cases hr; exact ⟨[], _, rfl, .nil, hx⟩
    · rintro ⟨a, x, rfl, ha, hx⟩
      cases ha
      exact .cons hx .nil
  | r, m :: ls, l => by
    constructor
    · intro h
      cases h with
      | cons hx hr =>
        obtain ⟨a, y, rfl, ha, hy⟩ := Chosen.snoc.mp hr
        exact ⟨_ :: a, y, rfl, .cons hx ha, hy⟩
    · rintro ⟨a, x, rfl, ha, hx⟩
      cases ha with
      | cons hy ha => exact .cons hy (Chosen.snoc.mpr ⟨_, x, rfl, ha, hx⟩)
noncomputable def Codes (cs : List Nat) : Prop := ∀ c ∈ cs, c < 4
theorem Chosen.codes {r : List Nat} {ls : List (List Nat)} (h : Chosen r ls) (hc : ∀ l ∈ ls, Codes l) : Codes r := by
  induction h with
  | nil => exact fun _ h => (List.not_mem_nil h).elim
  | cons hx _ ih =>
    intro c hm
    rcases List.mem_cons.mp hm with rfl | hm
    · exact hc _ List.mem_cons_self _ hx
    · exact ih (fun l hl => hc l (List.mem_cons_of_mem _ hl)) c hm
theorem Codes.hi {r : List Nat} (h : Codes r) : Bits (r.map hiV) := fun n hn => by
  obtain ⟨c, hc, rfl⟩ := List.mem_map.mp hn
  exact hi_bit (h c hc)
theorem Codes.lo {r : List Nat} (h : Codes r) : Bits (r.map loV) := fun n hn => by
  obtain ⟨c, hc, rfl⟩ := List.mem_map.mp hn
  exact lo_bit (h c hc)
end My
namespace L2
open PySem PySem.Spec PyProof.Rows
section
variable {prog : Program} {w : World} {A : Around} {R : Result → Shared → Prop} {I : Addr} {fp wr : List Addr} {n : Nat} {P : Nat → Value → Prop} {St : Nat → Heap → Prop}
end
section
variable {prog : Program} {w : World} {A : Around} {E : Value → Shared → Prop} {s : Shared} {l : Addr} {xs : Array (Int × Tok)}
end
theorem DPut.r {H : Hp} {a b : Addr} {kvs : List (List Key × V)} {k : List Key} {v : V} (e : H a = some (.dT kvs)) (eb : RdT H b (k.map kV)) (hl : kvs.length < sizeLine) : DPut H a (.ref b) v (upd H a (.dT (putK kvs k v))) := .inr ⟨kvs, k, b, e, rfl, eb, hl, rfl⟩
section
variable {X : Cx}
end
end L2
namespace L2
open PySem PySem.Spec PyProof.Rows
open PySem.W (Dat kqdP kqdPs kqdOk)
noncomputable def innerC : List Int → List Nat
  | [] => []
  | [b] => [48 + b.toNat]
  | b :: c :: r => (48 + b.toNat) :: 44 :: 32 :: innerC (c :: r)
theorem bit_cps {b : Int} (h : b = 0 ∨ b = 1) : (Str.ofString (toString b)).cps.toList = [48 + b.toNat] := by
  rcases h with rfl | rfl <;> decide +kernel
theorem cat_cps (a b : Str) : (a ++ b).cps.toList = a.cps.toList ++ b.cps.toList := by
  show (a.cps ++ b.cps).toList = _
  rw [Array.toList_append]
theorem join_cps : ∀ ns : List Int, (∀ b ∈ ns, b = 0 ∨ b = 1) → (Str.join ", " (ns.map fun n => ((toString n : String) : Str))).cps.toList = innerC ns
  | [], _ => rfl
  | [b], h => bit_cps (h b (.head _))
  | b :: c :: r, h => by
    have e1 := bit_cps (h b (.head _))
    have e2 := join_cps (c :: r) fun x hx => h x (.tail _ hx)
    show (Str.ofString (toString b) ++ ", " ++ Str.join ", " ((c :: r).map fun n => ((toString n : String) : Str))).cps.toList = _
    rw [cat_cps, cat_cps, e1, e2]
    rfl
section
variable {X : Cx}
end
end L2
namespace L2
open PySem PySem.Spec PyProof.Rows
end L2
namespace L2
open PySem PySem.Spec PyProof.Rows
section
variable {prog : Program} {w : World} {A : Around} {E : Value → Shared → Prop} {s : Shared}
end
section
variable {X : Cx}
end
end L2
namespace L2
open PySem PySem.Spec PyProof.Rows
section
open PySem.SeqAt
open PySem.AutoSeq1 (wpAny_loadPart')
open PySem.MeetsSeq PySem.MeetsSeq2 PySem.MeetsSeq3
end
section
variable {prog : Program} {w : World} {A : Around} {E : Value → Shared → Prop} {s : Shared}
end
section
variable {X : Cx}
end
end L2
namespace My
open PySem L2
open PySem.W (Dat kqdP kqdPs kqdOk)
section
variable {m : Nat} {a b : Works} {fs gs : List Flt}
end
end My
namespace My
open PySem L2
open PySem.W (Dat kqdP kqdPs kqdOk)
section
variable {m : Nat} {w : Works} {st F : List Flt} {row : List Int}
end
section
variable {m : Nat} {w : Works} {keep : Nat → Bool} {fs : List Flt} {row : List Int}
end
end My
namespace L2
open PySem PySem.Spec PyProof.Rows
section
variable {M : Model} {A : Around} {E : Value → Shared → Prop}
variable {nm q nm2 q2 : Str} {C N S N2 : Addr} {bs bm bs2 bm2 : List Value} {hdct hd2 : Bool} {sn sn2 : List Str} {sub sub2 : List Value} {ab ab2 : Bool} {col col2 : Option Bool} {dd dd2 : Option Addr} {k0 k1 k2 k3 k5 l0 l1 l2 l3 l5 : Option Value} {newId newId2 : String}
end
section
variable {X : Cx} {pins : List (Addr × Obj)} {σ : St} {H1 : Hp} {s1 s' : Shared} {C S : Addr} {nid nid2 : String} {bB bB2 : List Value} {sx n : Str} {np hpos : Pos} {b₀ : Stmt} {suite : List Stmt} {j : Nat} {ts : TS} {D : Ends} {E' : XK} {e : Value}
end
theorem boot_VE : bootBuiltins "ValueError" = some (.type "ValueError") := by kernel_rfl
section
variable {X : Cx} {C S f : Addr} {k k2 : Nat} {fd : FuncData} {ps : List Str} {spG spX : Sp} {dvs : List V} {ds : List Value} {nid nid2 : String} {bB bB2 : List Value} {fx sx n : Str} {p np hpos cpos epos pos : Pos} {b₀ : Stmt} {suite body a b : List Stmt} {j : Nat} {ta : TA} {tc : TT} {ts : TS} {t u : (Addr → Hp → Prop) → TS} {e c : Expr} {es : List Expr}
end
section
variable {X : Cx} {pins : List (Addr × Obj)} {σ : St} {H : Hp} {s : Shared}
end
section
variable {X : Cx}
end
end L2
namespace L2
open PySem PySem.Spec PyProof.Rows
section
variable {X : Cx} {e l k : Expr} {te tl tk : TE} {pos p2 : Pos}
end
section
variable {D : Addr} {n0 : Nat} {cap : List Nat} {σ : St} {g : TG} {tt : TT} {te : TE} {Q : VK} {H1 : Hp}
end
end L2
namespace L2
open PySem PySem.Spec PyProof.Rows
noncomputable def postU (X : Cx) (OK : Value → Env → Shared → Prop) (acc : Value) (c : Env) : Result → Shared → Prop
  | .ok _, s1 => OK acc c s1
  | .error x, s1 => afterC X c x s1
noncomputable def okU (X : Cx) (u : Value → Sem Unit) (QQ : Value → Shared → Prop) (acc : Value) (c : Env) (s1 : Shared) : Prop :=
  wpAny (model X.prog X.w) X.A (u acc) (fun _ s2 => ∃ m, s2.heap.Ns c.locals m ∧ ∀ h', Heap.SameBut c.locals s2.heap h' → QQ .none { s2 with heap := h' }) X.xe s1
theorem compr_ownU {X : Cx} {s : Shared} {e : Expr} {scope : Scope} {pos : Pos} {mk first : Sem Value} {g : Comprehension} {gs : List Comprehension} {cl : List (Str × Addr)} {u : Value → Sem Unit} {QQ : Value → Shared → Prop}
    (ec : clausesOf e = g :: gs) (es : ∀ x, foldedSetIterable g.iter X.env x = pure x) (el : closureFor scope X.env = pure cl) (ek : scope.kind = .function) (en : ∀ y ∈ scope.names, y.2 = .local → scope.names.lookup y.1 = some .local)
    (h : wpAny (model X.prog X.w) X.A first (fun x s1 => wpAny (model X.prog X.w) X.A (pyIter x) (fun it s2 => wpAny (model X.prog X.w) X.A mk (fun acc s3 =>
      wpAny (model X.prog X.w) X.A (newFunctionEnv scope X.env.globals cl [] X.env.qual none .none (some X.env)) (fun c s4 =>
        codeAny (model X.prog X.w) X.A (.compStart e 0 it acc { c with scope := relabel scope X.env }) (postU X (okU X u QQ) acc { c with scope := relabel scope X.env }) s4) X.xe s3) X.xe s2) X.xe s1) X.xe s) :
    wpAny (model X.prog X.w) X.A (comprehension e scope X.env pos mk false first (some u)) QQ X.xe s := by
  unfold comprehension
  rw [el, ec]
  refine wpAny_bind (thn h fun x s1 h1 => wpAny_bind (wpAny_standAt (wpAny_bind (wpAny_of_eq (es x) (wpAny_bind (wpAny_holding (thn h1 fun it s2 h2 => ?_)))))))
  refine wpAny_standIf (wpAny_bind (thn h2 fun acc s3 h3 => wpAny_bind (wpAny_pure (wpAny_bind (thn h3 fun c s4 h4 => ?_)))))
  dsimp only
  have kv : ∀ y ∈ (scope.names.filter fun y => (y.2 == .local || y.2 == .cell) && y.1 != (".0" : Str)).reverse, y.2 = .local →
      Env.kindOf { c with scope := relabel scope X.env } y.1 = some .local := fun y hy hl => lookup_relabel_local (en y (List.mem_filter.mp (List.mem_reverse.mp hy)).1 hl)
  have kv' : ∀ x ∈ (scope.names.filter fun x => (x.2 == .local || x.2 == .cell) && x.1 != (".0" : Str)).reverse.drop 1 ++ (scope.names.filter fun x => (x.2 == .local || x.2 == .cell) && x.1 != (".0" : Str)).reverse.take 1,
      x.2 = .local → Env.kindOf { c with scope := relabel scope X.env } x.1 = some .local := fun x hx hl => by
    rcases List.mem_append.mp hx with h1 | h1
    · exact kv x (List.mem_of_mem_drop h1) hl
    · exact kv x (List.mem_of_mem_take h1) hl
  refine wpAny_holding (wpAny_bind (wpAny_attempt (wpAny_holding (wpAny_run (codeAny_mono h4 fun r s5 hr => ?_)))))
  cases r with
  | ok f =>
    refine wpAny_bind (wpAny_rule (wpAny_bind (wpAny_holding (wpAny_mono (show okU X u QQ acc _ s5 from hr) (fun _ s6 hr' => ?_) fun _ _ h' => h'))))
    obtain ⟨m, hn, hq⟩ := hr'
    exact wpAny_bind (wpAny_comp_letGo (cenv := { c with scope := relabel scope X.env }) ek _ s6 m kv' hn fun h' m' _ hs' => wpAny_pure (hq h' hs'))
  | error x =>
    obtain ⟨m, hn, hq⟩ := hr
    exact wpAny_bind (wpAny_holding (wpAny_comp_letGo (cenv := { c with scope := relabel scope X.env }) ek _ s5 m kv hn fun h' _ _ sb => wpAny_mono (hq h' sb) (fun _ _ z => z.elim) fun _ _ z => z))
theorem comp_coreU {X : Cx} {elt tg iter : Expr} {ifs : List Expr} {scope : Scope} {pos : Pos} {N : List Str} {n : Nat} {cap : List Nat} {g : TG} {tt : TT} {te : TE}
    {cl : List (Str × Addr)} {E : Value → Shared → Prop} {OK : Value → Env → Shared → Prop}
    (hc : X.calm = true) (B : Blk X scope N n cap) (c1 : ∀ x c, cl.lookup x = some c → X.env.cells.lookup x = some c) (c2 : ∀ y ∈ scope.names, y.2 = .free → ∃ c, cl.lookup y.1 = some c)
    (hk : KeepG n g) (hg : ∀ cl fp s H, PG (cxCompX X N scope cl fp s H) tg g) (ht : ∀ cl fp s H, PTs (cxCompX X N scope cl fp s H) ifs tt) (he : ∀ cl fp s H, OutC X fp s H → PE (cxCompX X N scope cl fp s H) elt te)
    {pins : List (Addr × Obj)} {σ : St} {Q : VK} {itv : Value} {s2 : Shared}
    (h : PIE X pins σ tg (fun J H1 => ∀ D, H1 D = none → compRun J D n cap σ g tt te Q H1) itv s2)
    (hRR : ∀ (D C : Addr) (H' : Hp) (s' : Shared) (m : Str → Option Value) (c : Env), c.locals = C → Inv X pins σ H' s' → FpOk X pins H' C → s'.heap.Ns C m → Q (.ref D) H' → OK (.ref D) c s') :
    wpAny (model X.prog X.w) X.A (newList []) (fun acc s3 =>
      wpAny (model X.prog X.w) X.A (newFunctionEnv scope X.env.globals cl [] X.env.qual none .none (some X.env)) (fun cenv s4 =>
        codeAny (model X.prog X.w) X.A (.compStart (.ListComp elt [⟨tg, iter, ifs, 0⟩] scope pos) 0 itv acc { cenv with scope := relabel scope X.env })
          (postU X OK acc { cenv with scope := relabel scope X.env }) s4) E s3) E s2 := by
  obtain ⟨it, fp, tn, J, H2, e, I2, T, st2, f2, q2⟩ := h
  subst e
  refine wpAny_newObj_type ?_ (by show 0 ≤ sizeLine; decide)
  have hD : H2 s2.heap.objs.size = none := I2.hok.fresh (Nat.le_refl _)
  obtain ⟨W, ⟨m0, w0⟩, turn⟩ := q2 _ hD
  have I3 : Inv X pins σ (upd H2 s2.heap.objs.size (.lst [])) { s2 with heap := s2.heap.push { cls := .type "list", data := .seq ([] : List Value).toArray }, toks := s2.toks } :=
    I2.lnew .nil (by show 0 ≤ sizeLine; decide)
  have st3 : tn 0 (s2.heap.push { cls := .type "list", data := .seq ([] : List Value).toArray }) := T.keep _ _ _ st2 fun b _ o e => Heap.get?_push_of_some _ e
  have obj2 := T.obj _ _ st2
  have fD : ∀ b ∈ fp, b ≠ s2.heap.objs.size := fun b hb => by
    obtain ⟨o, eo, _⟩ := obj2 b hb
    exact Nat.ne_of_lt (Heap.lt_size eo)
  have f3 : ∀ b ∈ fp, FpOk X pins (upd H2 s2.heap.objs.size (.lst [])) b := fun b hb => ⟨by rw [upd_ne (fD b hb)]; exact (f2 b hb).1, (f2 b hb).2⟩
  have go3 : ∀ (s3 : Shared) (H3 : Hp), Inv X pins σ H3 s3 → tn 0 s3.heap → (∀ b ∈ fp, FpOk X pins H3 b) → W 0 m0 H3 →
      wpAny (model X.prog X.w) X.A (newFunctionEnv scope X.env.globals cl [] X.env.qual none .none (some X.env)) (fun cenv s4 =>
        codeAny (model X.prog X.w) X.A (.compStart (.ListComp elt [⟨tg, iter, ifs, 0⟩] scope pos) 0 (.ref it) (.ref s2.heap.objs.size) { cenv with scope := relabel scope X.env })
          (postU X OK (.ref s2.heap.objs.size) { cenv with scope := relabel scope X.env }) s4) E s3 := by
    intro s3 H3 I3 st3 f3 w0
    refine wpAny_newFunctionEnv B.cell (fun y hy => nomatch hy) (fun h4 n4 sb4 => ?_) B.kind
    have k4 : ∀ b o, s3.heap.get? b = some o → h4.get? b = some o := fun b o e => sb4.extBut b o (Nat.ne_of_lt (Heap.lt_size e)) (Heap.get?_push_of_some _ e)
    have fl3 : ∀ b ∈ fp, b < s3.heap.objs.size := fun b hb => by
      obtain ⟨o, eo, _⟩ := T.obj _ _ st3 b hb
      exact Heap.lt_size eo
    have I4 : Inv (cxCompX X N scope cl fp s3 H3) [] (blockSt n cap σ) H3 { s3 with heap := h4, toks := s3.toks + ([] : List (Str × Value)).length } :=
      (comp_start I3 B c1 c2 f3 fl3 n4 k4).wish _
    have st4 : tn 0 h4 := T.keep _ _ _ st3 fun b _ o e => k4 b o e
    have stat : ∀ {H' : Hp}, (∀ b ∈ fp, H' b = none) → ∀ b ∈ fp, FpOk (cxCompX X N scope cl fp s3 H3) [] H' b := fun hn b hb => by
      obtain ⟨_, a1, a2, _, a4, _⟩ := f3 b hb
      refine ⟨hn b hb, Nat.ne_of_lt (fl3 b hb), fun z => ?_, .inl hb, fun x c e => a4 x c (c1 x c e), fun p hp => nomatch hp⟩
      rcases List.mem_cons.mp (I3.stkSub b z) with e | e
      · exact a1 e
      · exact a2 e
    have loop : ∀ s5 : Shared, s5 = { s3 with heap := h4, toks := s3.toks + ([] : List (Str × Value)).length } →
        codeAny (model X.prog X.w) X.A (.compLoop (.ListComp elt [⟨tg, iter, ifs, 0⟩] scope pos) 0 (.ref it) (.ref s2.heap.objs.size) (compEnvC scope cl s3.heap.objs.size X.env))
          (postU X OK (.ref s2.heap.objs.size) (compEnvC scope cl s3.heap.objs.size X.env)) s5 := by
      rintro s5 rfl
      refine comp_loopX (fun k s' => ∃ i H', Inv (cxCompX X N scope cl fp s3 H3) [] (blockSt n cap σ) H' s' ∧ tn i s'.heap ∧ (∀ b ∈ fp, H' b = none) ∧ W i k H') ?_ m0
        ⟨0, H3, I4, st4, fun b hb => (f3 b hb).1, w0⟩
      rintro k s6 ⟨i, H6, I6, st6, fr6, w6⟩
      rcases turn i k H6 w6 with ⟨stop, qn⟩ | ⟨go, N6, hN6, step⟩
      · refine thn (T.done (cxCompX X N scope cl fp s3 H3) rfl rfl rfl hc i [] s6 _ H6 _ I6 (stat fr6) st6 stop) fun r s7 ⟨hr, I7⟩ => ?_
        subst hr
        obtain ⟨J7, C7, m7, n7⟩ := comp_end I3 I7.unwish f3
        exact hRR _ _ H6 s7 m7 _ rfl J7 C7 n7 qn
      · refine thn (T.item (cxCompX X N scope cl fp s3 H3) rfl rfl rfl hc i [] s6 _ H6 _ I6 (stat fr6) st6 go) fun r s7 ⟨u, hr, h7⟩ => ?_
        subst hr
        refine thn h7 fun _ s8 ⟨x, H8, I8, r8, y8, st8, fr8⟩ => ?_
        have I8' := I8.pinned (stat fr8) (T.obj _ _ st8)
        refine thn (hg cl fp s3 H3 _ s8 _ H8 x u _ I8' r8 (hk _ _ _ _ (step x H8 y8))) fun _ s9 ⟨σ9, H9, I9, q9, l9, k9⟩ => ?_
        refine thn (ht cl fp s3 H3 _ s9 σ9 H9 _ I9 q9) fun b s10 ⟨H10, I10, q10⟩ => ?_
        have wk : ∀ (z : Nat) v, (blockSt n cap σ)[z]? = some (some v) → σ9[z]? = some (some v) := fun z v e => by
          obtain ⟨kk, j, rfl, _, _⟩ := blk_get e
          rw [k9 _ (Nat.le_add_right _ _)]
          exact e
        have back : ∀ {Ha : Hp} {sa : Shared} {j : Nat}, Inv (cxCompX X N scope cl fp s3 H3) ([] ++ pinsAt fp s8.heap) σ9 Ha sa → W (i + 1) j Ha →
            ∃ i H', Inv (cxCompX X N scope cl fp s3 H3) [] (blockSt n cap σ) H' sa ∧ tn i sa.heap ∧ (∀ b ∈ fp, H' b = none) ∧ W i j H' := fun {Ha sa j} Ia wa => by
          refine ⟨i + 1, Ha, (Ia.unpinned).weak l9.symm wk, T.keep _ _ _ st8 fun b hb o e => (Ia.pin (b, o) (List.mem_append_right _ (List.mem_append_right _ (mem_pinsAt hb e)))).1, fun b hb => ?_, wa⟩
          obtain ⟨o, e, d⟩ := T.obj _ _ st8 b hb
          exact (Ia.pin (b, o) (List.mem_append_right _ (List.mem_append_right _ (mem_pinsAt hb e)))).2.1
        cases b with
        | false =>
          rw [if_neg Bool.false_ne_true] at q10 ⊢
          obtain ⟨m', hm, w'⟩ := hN6 _ q10
          exact ⟨m', hm, back I10 w'⟩
        | true =>
          rw [if_pos rfl] at q10 ⊢
          refine thn (he cl fp s3 H3 ⟨pins, σ, I3, f3⟩ _ s10 σ9 H10 _ I10 q10) fun y s11 ⟨yv, H11, I11, r11, q11⟩ => ?_
          obtain ⟨xs, eD, hl, q11⟩ := q11
          obtain ⟨m', hm, w'⟩ := hN6 _ q11
          refine thn (mt_append _ s11 σ9 H11 (.ref s2.heap.objs.size) [yv] (.ref s2.heap.objs.size) [y] (fun _ Hz => Hz = upd H11 s2.heap.objs.size (.lst (xs ++ [yv]))) I11 rfl (.cons r11 .nil)
            ⟨_, xs, yv, rfl, rfl, eD, hl, rfl⟩) fun _ s12 ⟨_, H12, I12, _, e12⟩ => ?_
          subst e12
          exact ⟨m', hm, back I12 w'⟩
    exact codeAny_compStart_list (loop _ rfl) (T.self _ _ _ _ _ st4 (loop _ rfl))
  exact go3 _ _ I3 st3 f3 w0


section
variable {X : Cx} {elt tg iter : Expr} {ifs : List Expr} {scope : Scope} {pos : Pos} {N : List Str} {n : Nat} {cap : List Nat} {wi : TI} {g : TG} {tt : TT} {te : TE}
theorem ps_setCX {i : Nat} {x : Str} {pos' spos : Pos} (hc : X.calm = true) (B : Blk X scope N n cap) (hN : X.N.Nodup) (hi : X.N[i]? = some x) (hx : X.env.scope.names.lookup x = some .local) (hit : PI X tg iter wi) (hk : KeepG n g)
    (hg : ∀ cl fp s H, PG (cxCompX X N scope cl fp s H) tg g) (ht : ∀ cl fp s H, PTs (cxCompX X N scope cl fp s H) ifs tt) (he : ∀ cl fp s H, OutC X fp s H → PE (cxCompX X N scope cl fp s H) elt te)
    (hsw : swapsWith (.ListComp elt [⟨tg, iter, ifs, 0⟩] scope pos) (some (.Name x pos')) spos.line X.env = pure true)
    (hs : ∀ x, foldedSetIterable iter X.env x = pure x := by intro _; rfl) :
    PS X (.Assign [.Name x pos'] (.ListComp elt [⟨tg, iter, ifs, 0⟩] scope pos) spos) (tAsg (tComp n cap wi g tt te) (gName i)) := by
  intro pins s σ H D I h
  obtain ⟨cl, ecl, c1, c2⟩ := closure_ok (scope := scope) (env := X.env) fun y hy k => I.ok.has y.1 (B.free y hy k)
  rw [exec_Assign_Name_used _ _ _ _ hsw]
  refine wpAny_bind (wpAny_standAt (wpAny_bind ?_))
  show wpAny _ X.A (do
    let _ ← comprehension (.ListComp elt [⟨tg, iter, ifs, 0⟩] scope pos) scope X.env _ (newList []) false (eval iter X.env)
      (some (assign (.Name x pos') X.env))) _ _ s
  refine wpAny_bind (thn (compr_ownU (u := assign (.Name x pos') X.env) (QQ := fun _ s' => SP X pins D .next s') rfl hs ecl B.kind B.names ?_) fun _ s' hq => wpAny_pure (wpAny_pure hq))
  refine thn (hit pins s σ H _ I h) fun v s1 h1 => thn h1 fun itv s2 h2 => ?_
  refine comp_coreU (Q := fun y H2 => gName i y σ H2 D.nx) (OK := okU X (assign (.Name x pos') X.env) (fun _ s' => SP X pins D .next s')) hc B c1 c2 hk hg ht he h2 fun Dl C H' s' m c ec J f nn q => ?_
  unfold okU
  rw [ec]
  refine wpAny_assign_Name (store_ok2 J hN hi (.inl hx) (show RelV (.ref Dl) (.ref Dl) from rfl) (fun s3 I3 ⟨a, sb, ha⟩ => ?_) (.inr hx))
  have ca : C ≠ a := by
    rcases ha with e | e
    · rw [e]; exact f.2.1
    · exact fun z => f.2.2.2.2.1 x a e z.symm
  refine ⟨m, nn.sameBut sb ca, fun h' sb' => ⟨_, H', I3.turned (t' := s3.toks) (fun b o hb e => sb'.extBut b o hb e) f.1 f.2.1 f.2.2.2.1 f.2.2.2.2.1 f.2.2.2.2.2, q⟩⟩
theorem bps_setCX {k : Nat} {x : Str} {pos' spos : Pos} (hc : X.calm = true) (B : Blk X scope N n cap) (hN : X.N.Nodup) (hi : X.N[k]? = some x) (hx : X.env.scope.names.lookup x = some .local) (hit : Bx (PI X tg iter wi)) (hk : KeepG n g)
    (hg : ∀ cl fp s H, Bx (PG (cxCompX X N scope cl fp s H) tg g)) (ht : ∀ cl fp s H, Bx (PTs (cxCompX X N scope cl fp s H) ifs tt)) (he : ∀ cl fp s H, OutC X fp s H → Bx (PE (cxCompX X N scope cl fp s H) elt te))
    (hsw : swapsWith (.ListComp elt [⟨tg, iter, ifs, 0⟩] scope pos) (some (.Name x pos')) spos.line X.env = pure true)
    (hs : ∀ x, foldedSetIterable iter X.env x = pure x := by intro _; rfl) :
    Bx (PS X (.Assign [.Name x pos'] (.ListComp elt [⟨tg, iter, ifs, 0⟩] scope pos) spos) (tAsg (tComp n cap wi g tt te) (gName k))) :=
  ⟨ps_setCX hc B hN hi hx hit.1 hk (fun a b c d => (hg a b c d).1) (fun a b c d => (ht a b c d).1) (fun a b c d o => (he a b c d o).1) hsw hs⟩
end
end L2
namespace L2
open PySem PySem.Spec PyProof.Rows
section
variable {X : Cx}
noncomputable def cutN (lo hi : Option Int) (n : Nat) : Nat := (Builtin.Str.strSliceIndices lo hi 1 n).length
theorem cutN_to {a : Int} {n : Nat} (h : 0 ≤ a) : cutN none (some a) n ≤ a.toNat := by
  unfold cutN Builtin.Str.strSliceIndices sliceRange
  simp only [show (1 : Int) > 0 by decide, if_true, List.length_map, List.length_range]
  (split <;> (try split) <;> (try split) <;> (try simp only [Int.ediv_one]) <;> omega)
theorem cutN_from {a : Int} {n : Nat} (h : 0 ≤ a) : cutN (some a) none n ≤ n - a.toNat := by
  unfold cutN Builtin.Str.strSliceIndices sliceRange
  simp only [show (1 : Int) > 0 by decide, if_true, List.length_map, List.length_range]
  (split <;> (try split) <;> (try split) <;> (try simp only [Int.ediv_one]) <;> omega)
noncomputable def rSlB : V → Option Int → Option Int → Hp → VK → Prop := fun x lo hi H Q => ∃ z : Str, x = .str z ∧ z.length ≤ sizeLine ∧ ∀ y : Str, y.length ≤ cutN lo hi z.length → (∀ c ∈ y.cps.toList, c ∈ z.cps.toList) → Q (.str y) H
theorem sl_strB : SlR X rSlB := by
  intro pins s σ H x v vl vu lo hi sl Q I rx hs pl pu h
  obtain ⟨z, rfl, hz, q⟩ := h
  obtain ⟨t, rfl⟩ := rx
  have part : ∀ {v : Value} {o : Option Int}, IsPart v o → ∃ p : Option (Int × Tok), v = partValue p ∧ p.map (·.1) = o := fun {v o} p => by
    cases p with
    | none => exact ⟨none, rfl, rfl⟩
    | int i t => exact ⟨some (i, t), rfl, rfl⟩
  obtain ⟨p1, e1, d1⟩ := part pl
  obtain ⟨p2, e2, d2⟩ := part pu
  subst e1 e2
  have ep : (slicePicked z p1 p2 none).length = cutN lo hi z.length := by
    unfold slicePicked cutN
    rw [d1, d2]
    rfl
  refine ⟨"str", _, F.slot_str_getitem.lookup, typeIs_str s z t, ?_⟩
  refine wpAny_getItem_str_slice (l := p1) (u := p2) (st := none) (by
    obtain ⟨o, h1, h2, h3⟩ := hs
    exact ⟨o, h1, h2, h3⟩) rfl ?_
  unfold sliceMade
  split
  · rename_i hc
    have := (Bool.and_eq_true_iff.mp hc).2
    have e : (slicePicked z p1 p2 none).length = z.length := by simpa using this
    exact ⟨.str z, H, I, ⟨_, rfl⟩, q z (by rw [← ep, e]; exact Nat.le_refl _) fun _ hc => hc⟩
  · have hl : (⟨((slicePicked z p1 p2 none).filterMap (z.cps[·]?)).toArray⟩ : Str).length ≤ cutN lo hi z.length := by
      show ((slicePicked z p1 p2 none).filterMap (z.cps[·]?)).toArray.size ≤ _
      rw [List.size_toArray, ← ep]
      exact List.length_filterMap_le _ _
    have hl2 : (⟨((slicePicked z p1 p2 none).filterMap (z.cps[·]?)).toArray⟩ : Str).length ≤ z.length := Nat.le_trans hl (PySem.sliceIndices_le _ _ _)
    exact ⟨Nat.le_trans hl2 hz, ⟨.str _, H, I.tok _, ⟨_, rfl⟩, q _ hl fun c hc => mem_picked (by simpa using hc)⟩⟩
end
theorem sub_len (z : Str) (i j : Nat) : (Builtin.Str.strSub z i j).length ≤ min j z.length - i := by
  have e : (Builtin.Str.strSub z i j).length = (Builtin.Str.strSub z i j).cps.toList.length := Array.length_toList.symm
  rw [e, StrLaws.strSub_toList, List.length_take, List.length_drop, Array.length_toList]
  have : z.cps.size = z.length := rfl
  omega
section
variable {X : Cx} {pins : List (Addr × Obj)} {σ : St} {H : Hp} {s : Shared}
open PySem.Builtin PySem.Builtin.Str in
theorem ev_repB {E : Value → Shared → Prop} {i : Nat} {x : Str} {p4 apos cpos p5 p6 p7 : Pos} {k2 k3 k4} {a b z : Str} {Q : Value → Shared → Prop} (I : Inv X pins σ H s) (hN : X.N[i]? = some x) (hv : Vis X.env.scope x) (e : σ[i]? = some (some (.str z))) (ht : s.toks ≠ 0)
    (ea : a = ⟨#[32]⟩) (eb : b = ⟨#[32, 32]⟩) (hz : z.length ≤ 100000)
    (h : ∀ (y : Str) (t tk : Nat), y.length ≤ z.length + 4 → (∀ c ∈ y.cps.toList, c ∈ z.cps.toList ∨ c = 32) → Q (.str y t) { s with toks := tk })
    (hd : (x == ("__debug__" : Str)) = false) (hcd : (x == ("__classdict__" : Str)) = false) (hbase : attributeBase (.Name x p4) "replace" X.env (eval (.Name x p4) X.env) = eval (.Name x p4) X.env)
    (hline : (apos.endLine == cpos.line) = true) :
    wpAny (model X.prog X.w) X.A (eval (.Call (.Attribute (.Name x p4) "replace" apos) [.Constant (.str a) k2 p5, .Constant (.str b) k3 p6, .Constant (.int 1) k4 p7] [] cpos) X.env) Q E s := by
  refine wpAny_Call_method_late hbase rfl hline rfl (ev_var I hN hv e (fun u ru => ?_) hd hcd)
  obtain ⟨t, rfl⟩ := ru
  refine ⟨"str", _, F.plainAttrs_str, F.slot_str_replace, F.type_str_replace, typeIs_str s z t, (fun _ h => nomatch h), ?_⟩
  refine Calls.callWith_builtin rfl (Calls.evalArgs_plain ?_)
  refine Calls.spliced_cons (Calls.Constant_str (k := k2) (pos := p5) (Calls.spliced_cons (Calls.Constant_str (k := k3) (pos := p6) (Calls.spliced_cons (wpAny_Constant_int (k := k4) (pos := p7) (Calls.spliced_nil ?_))))))
  have ol := StrLaws.occ_length_le z a 0 z.length 1
  have bl : b.length = 2 := by rw [eb]; rfl
  have al : a.length = 1 := by rw [ea]; rfl
  refine call_gives F.slot_str_replace (typeIs_str _ z t) F.entry_str_replace (F.args_str_replace_4 _ _ _ _) (gives_rep1 z a b t s.toks (s.toks + 1) (s.toks + 1 + 1) (by simp [ht]) (by simp) (by rw [ea, eb]; decide) ?_) ?_
  · unfold tooLong
    rw [bl, sizeLine_eq, decide_eq_false (by omega)]
  · have pl : (partsBetween z (occurrences z a 0 z.length 1) a.length).length ≤ 2 := by
      rw [length_partsBetween]
      omega
    have pm : ∀ p ∈ partsBetween z (occurrences z a 0 z.length 1) a.length, p.length ≤ z.length ∧ ∀ c ∈ p.cps.toList, c ∈ z.cps.toList := fun p hp => by
      simp only [partsBetween, List.mem_map] at hp
      obtain ⟨⟨i, j⟩, _, rfl⟩ := hp
      refine ⟨strSub_length_le .., fun c hc => ?_⟩
      rw [StrLaws.strSub_toList] at hc
      exact List.mem_of_mem_drop (List.mem_of_mem_take hc)
    have sum : ((partsBetween z (occurrences z a 0 z.length 1) a.length).map (·.length)).sum ≤ z.length := by
      generalize occurrences z a 0 z.length 1 = os at ol
      match os, ol with
      | [], _ =>
        show (strSub z 0 z.length).length + 0 ≤ _
        have := sub_len z 0 z.length
        omega
      | [i], _ =>
        show (strSub z 0 i).length + ((strSub z (i + a.length) z.length).length + 0) ≤ _
        have h1 := sub_len z 0 i
        have h2 := sub_len z (i + a.length) z.length
        rw [al] at h2 ⊢
        omega
    have gl : (glued b (partsBetween z (occurrences z a 0 z.length 1) a.length)).length ≤ z.length + 4 := by
      rw [StrLaws.glued_eq_join]
      have := StrLaws.join_length_le b (partsBetween z (occurrences z a 0 z.length 1) a.length)
      rw [bl] at this
      omega
    split
    · exact h z t _ (by omega) fun c hc => .inl hc
    · refine ⟨by rw [sizeLine_eq]; omega, h _ _ _ gl fun c hc => ?_⟩
      rw [StrLaws.glued_eq_join] at hc
      rcases mem_join hc with hc | ⟨p, hp, hc⟩
      · right
        rw [eb] at hc
        simpa using hc
      · exact .inl ((pm p hp).2 c hc)
end
section
variable {X : Cx}
noncomputable def tRepB (i : Nat) (f : Str → Str) : TA := fun σ H Q => ∃ z : Str, σ[i]? = some (some (.str z)) ∧ z.length ≤ 100000 ∧ ∀ y : Str, y.length ≤ z.length + 4 → (∀ c ∈ y.cps.toList, c ∈ z.cps.toList ∨ c = 32) → Q [.str (f z), .str y] H
theorem pa_rep2B {i : Nat} {x : Str} {c a b : Str} {p1 p2 p3 p4 apos cpos p5 p6 p7 : Pos} {k1 k2 k3 k4} (hc : c.length = 1) (ea : a = ⟨#[32]⟩) (eb : b = ⟨#[32, 32]⟩) (hN : X.N[i]? = some x) (hv : Vis X.env.scope x)
    (hd : (x == ("__debug__" : Str)) = false := by decide) (hcd : (x == ("__classdict__" : Str)) = false := by decide) (hbase : attributeBase (.Name x p4) "replace" X.env (eval (.Name x p4) X.env) = eval (.Name x p4) X.env := by rfl)
    (hline : (apos.endLine == cpos.line) = true := by rfl) :
    PA X [.BinOp (.Constant (.str c) k1 p2) .Add (.Name x p1) p3, .Call (.Attribute (.Name x p4) "replace" apos) [.Constant (.str a) k2 p5, .Constant (.str b) k3 p6, .Constant (.int 1) k4 p7] [] cpos] (tRepB i fun z => c ++ z) := by
  intro pos pins s σ H Q I h
  obtain ⟨z, e, hz, q⟩ := h
  have two : ∀ (u : Value) (s1 : Shared), Inv X pins σ H s1 → RelV (.str (c ++ z)) u → s1.toks ≠ 0 → wpAny (model X.prog X.w) X.A (spliced (backTo pos [(false, eval (.Call (.Attribute (.Name x p4) "replace" apos) [.Constant (.str a) k2 p5, .Constant (.str b) k3 p6, .Constant (.int 1) k4 p7] [] cpos) X.env)])) (fun vs s2 => AP X pins σ Q (u :: vs) s2) X.xe s1 := fun u s1 I1 r1 t1 => by
    refine Calls.spliced_cons (ev_repB I1 hN hv e t1 ea eb hz (fun y t tk hl hm => Calls.spliced_nil ?_) hd hcd hbase hline)
    exact ⟨[.str (c ++ z), .str y], H, I1.tok _, .cons r1 (.cons ⟨_, rfl⟩ .nil), q y hl hm⟩
  show wpAny _ _ (spliced ((false, eval (.BinOp (.Constant (.str c) k1 p2) .Add (.Name x p1) p3) X.env) :: backTo pos _)) _ _ s
  have I1 : Inv X pins σ H { s with toks := s.toks + 1 } := I.tok _
  refine Calls.spliced_cons (wpAny_BinOp (Calls.Constant_str (ev_var I1 hN hv e (fun u ru => ?_) hd hcd)))
  obtain ⟨t, rfl⟩ := ru
  refine PySem.P.add_str ?_
  split
  · rename_i h0
    rw [hc] at h0
    cases h0
  · split
    · rename_i h0
      have z0 : z.cps.toList = [] := List.length_eq_zero_iff.mp (by rw [Array.length_toList]; exact eq_of_beq h0)
      have ez : c ++ z = c := by
        show (⟨c.cps ++ z.cps⟩ : Str) = c
        cases c with
        | mk ca => congr 1; exact Array.toList_inj.mp (by rw [Array.toList_append, z0, List.append_nil])
      exact two _ _ I1 (by rw [ez]; exact ⟨_, rfl⟩) (Nat.succ_ne_zero _)
    · exact ⟨by rw [sizeLine_eq, len_app]; omega, two _ _ (I1.tok _) ⟨_, rfl⟩ (Nat.succ_ne_zero _)⟩
end
theorem bpa_rep2B {X : Cx} {k : Nat} {x : Str} {c a b : Str} {p1 p2 p3 p4 apos cpos p5 p6 p7 : Pos} {k1 k2 k3 k4} (hc : c.length = 1) (ea : a = ⟨#[32]⟩) (eb : b = ⟨#[32, 32]⟩) (hN : X.N[k]? = some x) (hv : Vis X.env.scope x)
    (hd : (x == ("__debug__" : Str)) = false := by decide) (hcd : (x == ("__classdict__" : Str)) = false := by decide) (hbase : attributeBase (.Name x p4) "replace" X.env (eval (.Name x p4) X.env) = eval (.Name x p4) X.env := by rfl)
    (hline : (apos.endLine == cpos.line) = true := by rfl) :
    Bx (PA X [.BinOp (.Constant (.str c) k1 p2) .Add (.Name x p1) p3, .Call (.Attribute (.Name x p4) "replace" apos) [.Constant (.str a) k2 p5, .Constant (.str b) k3 p6, .Constant (.int 1) k4 p7] [] cpos] (tRepB k fun z => c ++ z)) := ⟨pa_rep2B hc ea eb hN hv hd hcd hbase hline⟩
end L2
namespace L2
open PySem PySem.Spec PyProof.Rows
section
variable {prog : Program} {w : World} {A : Around} {E : Value → Shared → Prop} {s : Shared}
noncomputable def blH (b : Bool) : Int := if b then 1 else 0
theorem pyHash_bool {b : Bool} {Q : Int → Shared → Prop} (h : Q (blH b) { s with toks := s.toks + 1 }) : wpAny (model prog w) A (pyHash (.bool b)) Q E s := by
  cases b
  · unfold pyHash
    have hv : [Value.bool false].any Value.onHeap = false := rfl
    refine wpAny_bind ?_
    rw [cRoomFor, if_neg (by rw [hv]; exact Bool.false_ne_true)]; refine wpAny_pure ?_
    refine wpAny_bind (wpAny_specialOf (PySem.typeIs_bool s false) F.slot_bool_hash.lookup ?_)
    show wpAny _ _ (if (some (Value.builtin "int.__hash__") == some Value.none) = true then _ else _) Q E s
    rw [if_neg (by rw [beq_builtin_none]; exact Bool.false_ne_true)]
    refine wpAny_bind (wpAny_specialOf (PySem.typeIs_bool s false) F.slot_bool_hash.lookup ?_)
    show wpAny _ _ (callSpecialIfBoundUnlessNone? (.bool false) "__hash__" _ >>= _) Q E s
    refine wpAny_bind (wpAny_callSpecialIfBoundUnlessNone?_slot (PySem.typeIs_bool s false) F.slot_bool_hash
      (wpAny_call_entry F.slot_bool_hash (PySem.typeIs_bool s false) entry_int_hash
        (show wpAny _ _ (do ret (← mkInt 0)) _ _ s from wpAny_ret_mkInt ?_) (args_int_hash _)))
    exact wpAny_pure h
  · unfold pyHash
    have hv : [Value.bool true].any Value.onHeap = false := rfl
    refine wpAny_bind ?_
    rw [cRoomFor, if_neg (by rw [hv]; exact Bool.false_ne_true)]; refine wpAny_pure ?_
    refine wpAny_bind (wpAny_specialOf (PySem.typeIs_bool s true) F.slot_bool_hash.lookup ?_)
    show wpAny _ _ (if (some (Value.builtin "int.__hash__") == some Value.none) = true then _ else _) Q E s
    rw [if_neg (by rw [beq_builtin_none]; exact Bool.false_ne_true)]
    refine wpAny_bind (wpAny_specialOf (PySem.typeIs_bool s true) F.slot_bool_hash.lookup ?_)
    show wpAny _ _ (callSpecialIfBoundUnlessNone? (.bool true) "__hash__" _ >>= _) Q E s
    refine wpAny_bind (wpAny_callSpecialIfBoundUnlessNone?_slot (PySem.typeIs_bool s true) F.slot_bool_hash
      (wpAny_call_entry F.slot_bool_hash (PySem.typeIs_bool s true) entry_int_hash
        (show wpAny _ _ (do ret (← mkInt 1)) _ _ s from wpAny_ret_mkInt ?_) (args_int_hash _)))
    exact wpAny_pure h
end
noncomputable def blIs (b : Bool) (v : Value) : Bool := match v with
  | .bool c => c == b
  | _ => false
theorem blIs_shape {b : Bool} {v : Value} (h : blIs b v = true) : v = .bool b := by
  unfold blIs at h
  split at h
  · rw [eq_of_beq h]
  · cases h
noncomputable def boolKind (prog : Program) (w : World) : PySem.KeyKind prog w Bool where
  is := blIs
  hash := blH
  inj := fun v a b ha hb => by
    have e1 := blIs_shape ha
    rw [blIs_shape hb] at e1
    injection e1 with e1
    exact e1.symm
  byValue := fun k v h => by
    rw [blIs_shape h]
    rfl
  pyHash := fun hv h => by
    rw [blIs_shape hv]
    exact pyHash_bool h
  eqBool := fun {A E s a b u v Q} hu hv h => by
    rw [blIs_shape hu, blIs_shape hv]
    refine SeqAt.EqAt.bool_bool a b _ _ _ _ ?_
    have e : (a == b) = decide (a = b) := by cases a <;> cases b <;> rfl
    rw [e]
    exact h
  «strs» := fun k x t v h => by
    have := blIs_shape h
    cases this
theorem bitems {P : Program} {w : World} : ∀ {ks : List Bool} {us : List Value}, Vals (ks.map V.bl) us → ItemsAre (boolKind P w) ks us
  | [], _, r => by rw [List.map_nil] at r; cases r; exact .nil
  | k :: ks, _, r => by
    rw [List.map_cons] at r
    cases r with
    | cons h t =>
      refine .cons ?_ (bitems t)
      rw [show _ = Value.bool k from h]
      show (k == k) = true
      simp
theorem bkey_of {P : Program} {w : World} {H : Hp} {h : Heap} {a : Addr} {ks : List Bool} (ok : HOk P w H h) (e : RdT H a (ks.map V.bl)) : (tupleKind (boolKind P w)).is h ks a := by
  obtain ⟨_, its, r, o, h1, h2, n, h3⟩ := (show ObjOk P w H h a (.tup (ks.map V.bl)) from Rd.ok (show Rd H a _ from e) ok)
  exact ⟨o, its.toArray, n, h1, h2, h3, by simpa using bitems r⟩
section
variable {X : Cx} {k1 v1 k2 v2 e f : Expr} {tk1 tv1 tk2 tv2 te tf : TE} {dp apos cpos : Pos}
noncomputable def dictB (P : Program) (w : World) (d : Addr) (xs : List (List Bool × Addr × Value)) (h : Heap) : Prop := ∃ o es ep, h.get? d = some o ∧ o.ExactDict ∧ o.data = .dict es ep ∧ es.toList = xs.map (entryOfKey (tupleKind (boolKind P w))) ∧ (xs.map (·.1)).Nodup
noncomputable def tGetB (tk1 tv1 tk2 tv2 te tf : TE) : TE := fun σ H Q => ∀ p, H p = none → tk1 σ (upd H p (.dT [])) fun x1 H1 => tv1 σ H1 fun y1 H2 => tk2 σ H2 fun x2 H3 => tv2 σ H3 fun y2 H4 => H4 p = some (.dT []) ∧
  ∃ (b1 b2 : Addr) (ks1 ks2 : List Bool), x1 = .ref b1 ∧ x2 = .ref b2 ∧ RdT H4 b1 (ks1.map V.bl) ∧ RdT H4 b2 (ks2.map V.bl) ∧ ks1 ≠ ks2 ∧ ∀ φ, te σ (upd H4 p (.ext φ)) fun x H5 => tf σ H5 fun z H6 => H6 p = some (.ext φ) ∧ RdT H6 b1 (ks1.map V.bl) ∧ RdT H6 b2 (ks2.map V.bl) ∧
    ∃ (b : Addr) (ks : List Bool), x = .ref b ∧ RdT H6 b (ks.map V.bl) ∧ Q (if ks = ks1 then y1 else if ks = ks2 then y2 else z) H6
theorem pe_getB (hu : X.A.units + 1 < cLine) (hk1 : PE X k1 tk1) (hv1 : PE X v1 tv1) (hk2 : PE X k2 tk2) (hv2 : PE X v2 tv2) (he : PE X e te) (hf : PE X f tf) (m : M2 X (.Dict [some k1, some k2] [v1, v2] dp) "get" apos e f cpos) :
    PE X (.Call (.Attribute (.Dict [some k1, some k2] [v1, v2] dp) "get" apos) [e, f] [] cpos) (tGetB tk1 tv1 tk2 tv2 te tf) := by
  intro pins s σ H Q I q
  have hn := I.hok.fresh (Nat.le_refl s.heap.objs.size)
  have I1 := I.laid (a := s.heap.objs.size) (o := .dT []) (h' := s.heap.push { cls := .type "dict", data := .dict #[] }) (t' := s.toks) (fun _ _ q => Heap.get?_push_of_some _ q) (Nat.le_refl _) (dt_empty s.heap I.big)
  refine wpAny_Call_method m.base m.few m.line PySem.F.plainAttrs_dict PySem.F.slot_dict_get PySem.F.type_dict_get ?_
  refine wpAny_Dict_any rfl rfl (by simp) (by show 2 ≤ 15; decide) ?_
  refine pairTrees_cons_walk (thn (hk1 pins _ σ _ _ I1 (q _ hn)) fun u1 s1 ⟨x1, H1, I2, rx1, q1⟩ => thn (hv1 pins s1 σ H1 _ I2 q1) fun w1 s2 ⟨y1, H2, I3, ry1, q2⟩ => ?_)
  refine pairTrees_cons_walk (thn (hk2 pins s2 σ H2 _ I3 q2) fun u2 s3 ⟨x2, H3, I4, rx2, q3⟩ => thn (hv2 pins s3 σ H3 _ I4 q3) fun w2 s4 ⟨y2, H4, I5, ry2, q4⟩ => pairTrees_nil_walk ?_)
  obtain ⟨e4, b1, b2, ks1, ks2, rfl, rfl, eb1, eb2, ne, q5⟩ := q4
  cases (show u1 = Value.ref b1 from rx1)
  cases (show u2 = Value.ref b2 from rx2)
  show wpAny _ _ (PySem.storeAll s.heap.objs.size [(Value.ref b1, w1), (Value.ref b2, w2)]) _ _ s4
  unfold PySem.storeAll
  rw [List.forIn_cons]
  obtain ⟨z, hd, xs0, r0, o0, es0, ep0, d1, d2, d3, d4, d5, d6⟩ := dt_of I5.hok e4
  cases r0
  have dd : s4.heap.DictOfH (tupleKind (boolKind X.prog X.w)) s.heap.objs.size [] := ⟨o0, es0, ep0, d1, d2, d3, d4, fun x hx => (nomatch hx), by simp⟩
  refine wpAny_bind (wpAny_bind (wpAny_dictSet_heap (knd := tupleKind (boolKind X.prog X.w)) (by show X.A.units < cLine; omega) (bkey_of I5.hok eb1) dd (fun h1 dd1 hs1 => ?_) (Nat.zero_le _)))
  refine wpAny_pure ?_
  show wpAny _ _ (forIn [(Value.ref b2, w2)] PUnit.unit _) _ _ _
  rw [List.forIn_cons]
  refine wpAny_bind (wpAny_bind (wpAny_dictSet_heap (knd := tupleKind (boolKind X.prog X.w)) (by show X.A.units < cLine; omega) ((tupleKind (boolKind X.prog X.w)).keeps (bkey_of I5.hok eb2) d1 d3 hs1) dd1 (fun h2 dd2 hs2 => ?_) (by show 1 ≤ sizeLine; decide)))
  refine wpAny_pure ?_
  show wpAny _ _ (forIn ([] : List (Value × Value)) PUnit.unit _) _ _ _
  rw [List.forIn_nil]
  refine wpAny_pure ?_
  have exs : storedH (storedH [] ks1 b1 w1) ks2 b2 w2 = [(ks1, b1, w1), (ks2, b2, w2)] := by
    have h1 : storedH [] ks1 b1 w1 = [(ks1, b1, w1)] := rfl
    rw [h1, storedH_new]
    · rfl
    · unfold atKey
      simp [ne]
  rw [exs] at dd2
  have hs : Heap.SameBut s.heap.objs.size s4.heap h2 := hs1.trans hs2
  obtain ⟨qo, es, ep, g1, g2, g3, g4, g5, g6⟩ := id dd2
  have I6 := d_write (t' := s4.toks + (tupleKind (boolKind X.prog X.w)).draws ks1 + (tupleKind (boolKind X.prog X.w)).draws ks2) (ob := .ext (dictB X.prog X.w s.heap.objs.size [(ks1, b1, w1), (ks2, b2, w2)])) I5 (by rw [e4]; exact True.intro) hs ⟨qo, g1⟩
    ⟨⟨qo, es, ep, g1, g2, g3, g4, g6⟩, ⟨qo, g1⟩, fun ha hb ⟨o', es', ep', p1, p2⟩ k => ⟨o', es', ep', k _ p1, p2⟩⟩
  refine ⟨dd2.typeIs, fun b e => ?_, ?_⟩
  · cases e
    exact ⟨qo, g1, g2.2.1⟩
  rw [m.trees]
  refine Calls.callWith_builtin rfl (Calls.evalArgs_plain (Calls.spliced_cons (thn (he pins _ σ _ _ I6 (q5 _)) fun iv s5 ⟨x, H5, I7, rx, q6⟩ =>
    Calls.spliced_cons (thn (hf pins s5 σ H5 _ I7 q6) fun fv s6 ⟨zv, H6, I8, rz, e6, f1, f2, b, ks, ex, eb, q7⟩ => Calls.spliced_nil ?_))))
  subst ex
  cases (show iv = Value.ref b from rx)
  obtain ⟨⟨o6, es6, ep6, p1, p2, p3, p4, p5⟩, _, _⟩ := (show ObjOk X.prog X.w H6 s6.heap s.heap.objs.size (.ext (dictB X.prog X.w s.heap.objs.size [(ks1, b1, w1), (ks2, b2, w2)])) from I8.hok _ _ e6)
  have dd6 : s6.heap.DictOfH (tupleKind (boolKind X.prog X.w)) s.heap.objs.size [(ks1, b1, w1), (ks2, b2, w2)] := ⟨o6, es6, ep6, p1, p2, p3, p4, fun x hx => by
    rcases List.mem_cons.mp hx with rfl | hx
    · exact bkey_of I8.hok f1
    · rw [List.mem_singleton.mp hx]
      exact bkey_of I8.hok f2, p5⟩
  refine call_meetsIn PySem.F.slot_dict_get dd6.typeIs PySem.F.entry_dict_get (PySem.F.args_dict_get_3 _ _ _) (meetsH_dict_get_default (tupleKind (boolKind X.prog X.w)) s.heap.objs.size b hd fv) ⟨tupleKind_room_in1 hu, ks, _, bkey_of I8.hok eb, dd6, ⟨_, H6, I8.tok _, ?_, q7⟩⟩
  by_cases c1 : ks = ks1
  · subst c1
    rw [if_pos rfl]
    simp [atKey]
    exact ry1
  · rw [if_neg c1]
    by_cases c2 : ks = ks2
    · subst c2
      rw [if_pos rfl]
      simp [atKey, ne]
      exact ry2
    · rw [if_neg c2]
      simp [atKey, Ne.symm c1, Ne.symm c2]
      exact rz
theorem bpe_getB (hu : X.A.units + 1 < cLine) (hk1 : Bx (PE X k1 tk1)) (hv1 : Bx (PE X v1 tv1)) (hk2 : Bx (PE X k2 tk2)) (hv2 : Bx (PE X v2 tv2)) (he : Bx (PE X e te)) (hf : Bx (PE X f tf)) (m : M2 X (.Dict [some k1, some k2] [v1, v2] dp) "get" apos e f cpos) :
    Bx (PE X (.Call (.Attribute (.Dict [some k1, some k2] [v1, v2] dp) "get" apos) [e, f] [] cpos) (tGetB tk1 tv1 tk2 tv2 te tf)) := ⟨pe_getB hu hk1.1 hv1.1 hk2.1 hv2.1 he.1 hf.1 m⟩
end
end L2
set_option exponentiation.threshold 3000
namespace My
open PySem L2
open PySem.W (Dat kqdP kqdPs kqdOk)
noncomputable def tab_LEG_BOUNDS : List (Str × PyProof.Rows.KTD.Dat) := [("and", .tup ([2, 4].map PyData.int)), ("or", .tup ([2, 4].map PyData.int)), ("odd", .tup ([2, 4].map PyData.int)), ("not", .tup ([1, 1].map PyData.int)), ("choose", .tup ([3, 3].map PyData.int)), ("zero", .tup ([0, 0].map PyData.int)), ("one", .tup ([0, 0].map PyData.int))]
theorem lenV1 {us : List Value} (h : us.length = 1) : ∃ x0, us = [x0] := match us, h with | [x0], _ => ⟨x0, rfl⟩
theorem lenV2 {us : List Value} (h : us.length = 2) : ∃ x0 x1, us = [x0, x1] := match us, h with | [x0, x1], _ => ⟨x0, x1, rfl⟩
theorem lenV3 {us : List Value} (h : us.length = 3) : ∃ x0 x1 x2, us = [x0, x1, x2] := match us, h with | [x0, x1, x2], _ => ⟨x0, x1, x2, rfl⟩
set_option genInjectivity false
structure Def (K : PySem.W.Frag) (mg : Str → Option Value) (x : Str) (st : Stmt) (ps : List Str) (f : Addr) (fd : FuncData) : Prop where
  F : Fun K x x st f fd
  b : Binds K fd ps []
  m : mg x = some (.ref f)
structure Adr where
  f_works_of : Addr
  fd_works_of : FuncData
  f_check_gate : Addr
  fd_check_gate : FuncData
  f_is_kind : Addr
  fd_is_kind : FuncData
  f_are_wires_below : Addr
  fd_are_wires_below : FuncData
  f_read_works : Addr
  fd_read_works : FuncData
  f_read_row : Addr
  fd_read_row : FuncData
  f_read_number : Addr
  fd_read_number : FuncData
  f_law_stir : Addr
  fd_law_stir : FuncData
  f_law_deck : Addr
  fd_law_deck : FuncData
  f_law_take : Addr
  fd_law_take : FuncData
  f_law_legs : Addr
  fd_law_legs : FuncData
  f_law_works : Addr
  fd_law_works : FuncData
  f_law_text : Addr
  fd_law_text : FuncData
  f_law_number : Addr
  fd_law_number : FuncData
  f_law_read : Addr
  fd_law_read : FuncData
  f_law_told : Addr
  fd_law_told : FuncData
  f_law_word : Addr
  fd_law_word : FuncData
  f_law_rows_put : Addr
  fd_law_rows_put : FuncData
  f_law_spoilt : Addr
  fd_law_spoilt : FuncData
  f_law : Addr
  fd_law : FuncData
  c_LEG_BOUNDS : Addr
  k_FIGURES : Tok
  x_StuckError : Addr
  x_NoWorks : Addr
  x_NoRow : Addr
  x_NoFault : Addr
  x_NoText : Addr
  x_NoOrder : Addr
  x_TooMany : Addr
structure Txt (K : PySem.W.Frag) (mg : Str → Option Value) (t : Adr) : Prop where
  d_works_of : Def K mg "works_of" s_works_of ["inputs", "gates", "outputs"] t.f_works_of t.fd_works_of
  d_check_gate : Def K mg "check_gate" s_check_gate ["kind", "legs", "own_wire"] t.f_check_gate t.fd_check_gate
  d_is_kind : Def K mg "is_kind" s_is_kind ["word"] t.f_is_kind t.fd_is_kind
  d_are_wires_below : Def K mg "are_wires_below" s_are_wires_below ["numbers", "bound"] t.f_are_wires_below t.fd_are_wires_below
  d_read_works : Def K mg "read_works" s_read_works ["text"] t.f_read_works t.fd_read_works
  d_read_row : Def K mg "read_row" s_read_row ["row"] t.f_read_row t.fd_read_row
  d_read_number : Def K mg "read_number" s_read_number ["text"] t.f_read_number t.fd_read_number
  d_law_stir : Def K mg "_law_stir" s_law_stir ["cell", "k"] t.f_law_stir t.fd_law_stir
  d_law_deck : Def K mg "_law_deck" s_law_deck ["cell"] t.f_law_deck t.fd_law_deck
  d_law_take : Def K mg "_law_take" s_law_take ["deck", "many"] t.f_law_take t.fd_law_take
  d_law_legs : Def K mg "_law_legs" s_law_legs ["deck", "kind"] t.f_law_legs t.fd_law_legs
  d_law_works : Def K mg "_law_works" s_law_works ["deck", "most"] t.f_law_works t.fd_law_works
  d_law_text : Def K mg "_law_text" s_law_text ["works"] t.f_law_text t.fd_law_text
  d_law_number : Def K mg "_law_number" s_law_number ["word"] t.f_law_number t.fd_law_number
  d_law_read : Def K mg "_law_read" s_law_read ["text"] t.f_law_read t.fd_law_read
  d_law_told : Def K mg "_law_told" s_law_told ["text"] t.f_law_told t.fd_law_told
  d_law_word : Def K mg "_law_word" s_law_word ["deck"] t.f_law_word t.fd_law_word
  d_law_rows_put : Def K mg "_law_rows_put" s_law_rows_put ["deck", "rows"] t.f_law_rows_put t.fd_law_rows_put
  d_law_spoilt : Def K mg "_law_spoilt" s_law_spoilt ["deck", "text"] t.f_law_spoilt t.fd_law_spoilt
  d_law : Def K mg "law" s_law ["script"] t.f_law t.fd_law
  z_ValueError : mg "ValueError" = none
  z_all : mg "all" = none
  z_enumerate : mg "enumerate" = none
  z_int : mg "int" = none
  z_isinstance : mg "isinstance" = none
  z_len : mg "len" = none
  z_list : mg "list" = none
  z_max : mg "max" = none
  z_range : mg "range" = none
  z_str : mg "str" = none
  z_tuple : mg "tuple" = none
  z_zip : mg "zip" = none
  g_LEG_BOUNDS : mg "LEG_BOUNDS" = some (.ref t.c_LEG_BOUNDS)
  k_LEG_BOUNDS : TabK K t.c_LEG_BOUNDS tab_LEG_BOUNDS
  g_FIGURES : mg "FIGURES" = some (.str "0123456789" t.k_FIGURES)
  g_StuckError : mg "StuckError" = some (.ref t.x_StuckError)
  k_StuckError : XcOk K t.x_StuckError "ValueError" "ValueError.__new__" [.type "ValueError", .type "Exception", .type "BaseException", .type "object"]
  g_NoWorks : mg "NoWorks" = some (.ref t.x_NoWorks)
  k_NoWorks : XcOk K t.x_NoWorks "ValueError" "ValueError.__new__" [.type "ValueError", .type "Exception", .type "BaseException", .type "object"]
  g_NoRow : mg "NoRow" = some (.ref t.x_NoRow)
  k_NoRow : XcOk K t.x_NoRow "ValueError" "ValueError.__new__" [.type "ValueError", .type "Exception", .type "BaseException", .type "object"]
  g_NoFault : mg "NoFault" = some (.ref t.x_NoFault)
  k_NoFault : XcOk K t.x_NoFault "ValueError" "ValueError.__new__" [.type "ValueError", .type "Exception", .type "BaseException", .type "object"]
  g_NoText : mg "NoText" = some (.ref t.x_NoText)
  k_NoText : XcOk K t.x_NoText "ValueError" "ValueError.__new__" [.type "ValueError", .type "Exception", .type "BaseException", .type "object"]
  g_NoOrder : mg "NoOrder" = some (.ref t.x_NoOrder)
  k_NoOrder : XcOk K t.x_NoOrder "ValueError" "ValueError.__new__" [.type "ValueError", .type "Exception", .type "BaseException", .type "object"]
  g_TooMany : mg "TooMany" = some (.ref t.x_TooMany)
  k_TooMany : XcOk K t.x_TooMany "ValueError" "ValueError.__new__" [.type "ValueError", .type "Exception", .type "BaseException", .type "object"]
  i_noneT : PySem.W.kitAny K (.ref t.x_NoText) [.ref t.x_NoFault, .ref t.x_NoOrder, .ref t.x_NoRow, .ref t.x_TooMany] = some false
  i_TT : PySem.W.kitOne K (.ref t.x_NoText) (.ref t.x_NoText) = some true
  i_TW : PySem.W.kitOne K (.ref t.x_NoText) (.ref t.x_NoWorks) = some false
  i_valueT : PySem.W.kitOne K (.ref t.x_NoText) (.type "ValueError") = some true
  i_aboveT : (mroOf K t.x_NoText).tail.contains (.ref t.x_StuckError) = true
  i_noneW : PySem.W.kitAny K (.ref t.x_NoWorks) [.ref t.x_NoFault, .ref t.x_NoOrder, .ref t.x_NoRow, .ref t.x_TooMany] = some false
  i_WT : PySem.W.kitOne K (.ref t.x_NoWorks) (.ref t.x_NoText) = some false
  i_WW : PySem.W.kitOne K (.ref t.x_NoWorks) (.ref t.x_NoWorks) = some true
  i_valueW : PySem.W.kitOne K (.ref t.x_NoWorks) (.type "ValueError") = some true
  i_aboveW : (mroOf K t.x_NoWorks).tail.contains (.ref t.x_StuckError) = true

noncomputable def sp_stir : Sp := fun vs H Q _ => ∃ (c k : Int), vs = [.int c, .int k] ∧ (k = 1 ∨ k = 2 ∨ k = 3) ∧ ∀ r : Int, 0 ≤ r → r < 10 ^ 62 → Q (.int r) H
noncomputable def sp_deck : Sp := fun vs H Q _ => ∃ c : Int, vs = [.int c] ∧ ∀ (p : Addr) (n : Int), H p = none → Q (.ref p) (upd H p (.lst [.int n]))
noncomputable def sp_take : Sp := fun vs H Q _ => ∃ (p : Addr) (n m : Int), vs = [.ref p, .int m] ∧ H p = some (.lst [.int n]) ∧ 0 < m ∧ m < 1073741824 ∧ ∀ r n' : Int, 0 ≤ r → r < m → Q (.int r) (upd H p (.lst [.int n']))
noncomputable def isKind (x : Str) : Prop := x = "and" ∨ x = "or" ∨ x = "odd" ∨ x = "not" ∨ x = "choose" ∨ x = "zero" ∨ x = "one"
noncomputable def sp_legs : Sp := fun vs H Q _ => ∃ (p : Addr) (n : Int) (x : Str), vs = [.ref p, .str x] ∧ H p = some (.lst [.int n]) ∧ isKind x ∧
  ∀ (r : Nat) (n' : Int) (H' : Hp), legsOk x r → SameB p H H' → H' p = some (.lst [.int n']) → Q (.int r) H'
noncomputable def sp_works (K : PySem.W.Frag) : Sp := fun vs H Q _ => ∃ (p : Addr) (n : Int) (most : Nat), vs = [.ref p, .int most] ∧ H p = some (.lst [.int n]) ∧ most ≤ 20 ∧
  ∀ (w : Works) (r : Addr) (n' : Int) (G H' : Hp), WF most w → w.outs.length ≤ 3 → SameB p H H' → H' p = some (.lst [.int n']) → Same G H' → G p = none → (∀ b o, G b = some o → H b = none) → Rep K G (.ref r) (worksD w) → Q (.ref r) H'
noncomputable def sp_law (K : PySem.W.Frag) : Sp := fun vs H Q _ => ∃ (a : Addr) (ns : List Int), vs = [.ref a] ∧ SqL K H a (ns.map V.int) ∧ ns.length ≤ 63 ∧ ∀ H', Q (.bl true) H'

noncomputable def sp_awb (K : PySem.W.Frag) : Sp := fun vs H Q _ => ∃ (p : Addr) (bnd : Int) (ns : List Int), vs = [.ref p, .int bnd] ∧ (SqL K H p (ns.map V.int) ∨ SqT K H p (ns.map V.int)) ∧ ns.length ≤ 1000 ∧ ∀ H', Same H H' → Q (.bl (ns.all fun n => decide (0 ≤ n ∧ n < bnd))) H'
noncomputable def sp_ik (K : PySem.W.Frag) : Sp := fun vs H Q _ => ∃ x : Str, vs = [.str x] ∧ Q (.bl (PyProof.Rows.KTD.inKeys x tab_LEG_BOUNDS)) H
noncomputable def TX (z : Str) : Prop := z.length ≤ 600 ∧ ∀ c ∈ z.cps.toList, c < 128
noncomputable def numL (l : List Nat) : Option Nat := if l = [] ∨ (l.head? = some 48 ∧ l ≠ [48]) ∨ ¬ (∀ c ∈ l, 48 ≤ c ∧ c < 58) then none else some (readN l)
noncomputable def numsL : List (List Nat) → Option (List Int)
  | [] => some []
  | p :: ps => match numL p, numsL ps with
    | some n, some ns => some ((n : Int) :: ns)
    | _, _ => none
theorem numsL_get : ∀ {ps : List (List Nat)} {ns : List Int}, numsL ps = some ns → ∀ (j : Nat) (p : List Nat), ps[j]? = some p → ∃ n : Nat, numL p = some n ∧ ns[j]? = some (n : Int)
  | [], _, _, j, p, h => by cases j <;> cases h
  | q :: ps, ns, e, j, p, h => by
    unfold numsL at e
    split at e
    · rename_i n ms e1 e2
      cases e
      cases j with
      | zero => cases h; exact ⟨n, e1, rfl⟩
      | succ j => exact numsL_get e2 j p h
    · cases e
theorem numsL_len : ∀ {ps : List (List Nat)} {ns : List Int}, numsL ps = some ns → ns.length = ps.length
  | [], _, e => by cases e; rfl
  | q :: ps, ns, e => by
    unfold numsL at e
    split at e
    · rename_i n ms e1 e2
      cases e
      rw [List.length_cons, List.length_cons, numsL_len e2]
    · cases e
theorem numsL_none : ∀ {ps : List (List Nat)}, numsL ps = none → ∃ p ∈ ps, numL p = none
  | [], e => by cases e
  | q :: ps, e => by
    unfold numsL at e
    split at e
    · cases e
    · rename_i h
      cases e1 : numL q with
      | none => exact ⟨q, .head _, e1⟩
      | some n =>
        cases e2 : numsL ps with
        | none =>
          obtain ⟨p, hp, z⟩ := numsL_none e2
          exact ⟨p, .tail _ hp, z⟩
        | some ns => exact absurd e2 (h n ns e1)
theorem numsL_snoc {p : List Nat} {n : Nat} (e : numL p = some n) : ∀ {ps : List (List Nat)} {ms : List Int}, numsL ps = some ms → numsL (ps ++ [p]) = some (ms ++ [(n : Int)])
  | [], ms, h => by
    cases h
    show numsL [p] = _
    unfold numsL
    rw [e]
    rfl
  | q :: ps, ms, h => by
    unfold numsL at h
    split at h
    · rename_i k ns e1 e2
      cases h
      have ih := numsL_snoc e e2
      show numsL (q :: (ps ++ [p])) = _
      unfold numsL
      rw [e1, ih]
      rfl
    · cases h
theorem numsL_bad {p : List Nat} (e : numL p = none) : ∀ {ps : List (List Nat)}, p ∈ ps → numsL ps = none
  | q :: ps, h => by
    unfold numsL
    rcases List.mem_cons.mp h with rfl | h
    · rw [e]
    · rw [numsL_bad e h]
      cases numL q <;> rfl
theorem readN_lt : ∀ (l : List Nat), (∀ c ∈ l, 48 ≤ c ∧ c < 58) → readN l < 10 ^ l.length := by
  intro l
  have key : ∀ (l : List Nat) (a k : Nat), (∀ c ∈ l, 48 ≤ c ∧ c < 58) → a < 10 ^ k → l.foldl (fun a c => a * 10 + (c - 48)) a < 10 ^ (k + l.length) := by
    intro l
    induction l with
    | nil => intro a k _ h; exact h
    | cons c l ih =>
      intro a k hd h
      have hc := hd c (.head _)
      have := ih (a * 10 + (c - 48)) (k + 1) (fun d h => hd d (.tail _ h)) (by rw [Nat.pow_succ]; omega)
      rw [List.length_cons, show k + (l.length + 1) = k + 1 + l.length by omega]
      exact this
  intro hd
  have := key l 0 0 hd (by decide)
  rw [Nat.zero_add] at this
  exact this
theorem strT {z : Str} {l : List Nat} (h : z.cps.toList = l) : z = ⟨l.toArray⟩ := by
  cases z with
  | mk a =>
    congr 1
    exact Array.toList_inj.mp (by simpa using h)
theorem tlA (l : List Nat) : (⟨l.toArray⟩ : Str).cps.toList = l := by simp
theorem blankA : Str.ofString " " = ⟨#[32]⟩ := by decide +kernel
theorem fig_yes : ∀ c, c < 128 → 48 ≤ c → c < 58 → PySem.Builtin.Str.occurrences (Str.ofString "0123456789") ⟨#[c]⟩ 0 (Str.ofString "0123456789").length 1 = [c - 48] := by decide +kernel
theorem fig_no : ∀ c, c < 128 → ¬ (48 ≤ c ∧ c < 58) → PySem.Builtin.Str.occurrences (Str.ofString "0123456789") ⟨#[c]⟩ 0 (Str.ofString "0123456789").length 1 = [] := by decide +kernel
theorem cutA_one (v : V) (xs : List V) : cutV (v :: xs) (some 1) none = xs := by
  have e1 : HT.sIx (v :: xs).length 0 (some 1) = 1 := by
    simp only [HT.sIx]
    rw [if_neg (by decide), List.length_cons]
    exact Nat.min_eq_left (Nat.le_add_left _ _)
  have e2 : HT.sIx (v :: xs).length (v :: xs).length none = (v :: xs).length := rfl
  unfold cutV
  rw [e1, e2, List.drop_one, List.tail_cons]
  exact List.take_of_length_le (by simp)
theorem join_parts (c : Nat) : ∀ (ps : List (List Nat)), (∀ p ∈ ps, p.length ≤ (joinL c ps).length ∧ ∀ d ∈ p, d ∈ joinL c ps) ∧ ps.length ≤ (joinL c ps).length + 1
  | [] => ⟨fun p hp => (nomatch hp), Nat.zero_le _⟩
  | [p] => ⟨fun q hq => by rw [List.mem_singleton.mp hq]; exact ⟨Nat.le_refl _, fun d hd => hd⟩, Nat.le_add_left _ _⟩
  | p :: q :: r => by
    obtain ⟨h1, h2⟩ := join_parts c (q :: r)
    have e : (joinL c (p :: q :: r)) = p ++ c :: joinL c (q :: r) := rfl
    have el : (joinL c (p :: q :: r)).length = p.length + ((joinL c (q :: r)).length + 1) := by rw [e, List.length_append, List.length_cons]
    refine ⟨fun s hs => ?_, by rw [List.length_cons, el]; omega⟩
    rw [el]
    rcases List.mem_cons.mp hs with rfl | hs
    · exact ⟨by omega, fun d hd => by rw [e]; exact List.mem_append_left _ hd⟩
    · have := h1 s hs
      exact ⟨by omega, fun d hd => by rw [e]; exact List.mem_append_right _ (.tail _ (this.2 d hd))⟩
theorem cut_parts (c : Nat) (l : List Nat) : (∀ p ∈ cutL c l, p.length ≤ l.length ∧ ∀ d ∈ p, d ∈ l) ∧ (cutL c l).length ≤ l.length + 1 := by
  have := join_parts c (cutL c l)
  rw [cutL_join] at this
  exact this
theorem TX.part {z : Str} (h : TX z) {c : Nat} {p : List Nat} (hp : p ∈ cutL c z.cps.toList) : TX ⟨p.toArray⟩ := by
  obtain ⟨h1, h2⟩ := (cut_parts c z.cps.toList).1 p hp
  refine ⟨?_, fun d hd => h.2 d (h2 d (by simpa using hd))⟩
  show p.toArray.size ≤ 600
  rw [List.size_toArray]
  have := h.1
  have e : z.cps.toList.length = z.length := Array.length_toList
  omega
theorem joinXA {α : Type} {A : Prop} {C : α → Hp → Prop} {st : α → St} {P : St → Hp → Prop} (h : (∀ v H4, C v H4 → P (st v) H4) → A) (r : ∀ v H4, C v H4 → P (st v) H4) : A := h r
noncomputable def Rz (H : Hp) (E : XK) : Prop := ∀ (H' : Hp) (x : Addr), Same H H' → H' x = none → E (.ref x) (some x) H'
theorem Rz.on {H H' : Hp} {E : XK} (r : Rz H E) (s : Same H H') : Rz H' E := fun H2 x s2 hx => r H2 x (s.trans s2) hx
noncomputable def sp_rdn : Sp := fun vs H Q E => ∃ z : Str, vs = [.str z] ∧ TX z ∧ (∀ n : Nat, numL z.cps.toList = some n → Q (.int n) H) ∧ (numL z.cps.toList = none → Rz H E)
noncomputable def sp_rdr : Sp := fun vs H Q E => ∃ (z : Str) (w : List Nat) (ps : List (List Nat)), vs = [.str z] ∧ TX z ∧ cutL 32 z.cps.toList = w :: ps ∧
  (∀ ns, numsL ps = some ns → ∀ (r q : Addr) (H' : Hp), Same H H' → H r = none → H q = none → H' r = some (.tup [.str ⟨w.toArray⟩, .ref q]) → H' q = some (.tup (ns.map V.int)) → Q (.ref r) H') ∧ (numsL ps = none → Rz H E)
theorem Rz.mono {H H1 : Hp} {E : XK} (h : Rz H E) (s : Same H H1) : Rz H1 E := fun H' x k n => h H' x (s.trans k) n
noncomputable def GoodGt (own : Int) (g : Str × List Int) : Prop := legsOk g.1 g.2.length ∧ ∀ l ∈ g.2, 0 ≤ l ∧ l < own
noncomputable def GoodW (b : Works) : Prop := 1 ≤ b.ins ∧ (∀ (k : Nat) g, b.gates[k]? = some g → GoodGt (b.ins + k) g) ∧ 1 ≤ b.outs.length ∧ ∀ o ∈ b.outs, 0 ≤ o ∧ o < b.ins + b.gates.length
noncomputable def sp_cgX (K : PySem.W.Frag) : Sp := fun vs H Q E => ∃ (x : Str) (la : Addr) (own : Int) (ls : List Int), vs = [.str x, .ref la, .int own] ∧ SqT K H la (ls.map V.int) ∧ ls.length ≤ 1000 ∧ (GoodGt own (x, ls) → ∀ H', Same H H' → Q .non H') ∧ (¬ GoodGt own (x, ls) → Rz H E)
theorem no_kind {x : Str} (h : ¬ isKind x) (n : Nat) : ¬ legsOk x n := fun l => by
  unfold isKind at h
  rcases l with ⟨e | e | e, _⟩ | ⟨e, _⟩ | ⟨e, _⟩ | ⟨e | e, _⟩
  · exact h (.inl e)
  · exact h (.inr (.inl e))
  · exact h (.inr (.inr (.inl e)))
  · exact h (.inr (.inr (.inr (.inl e))))
  · exact h (.inr (.inr (.inr (.inr (.inl e)))))
  · exact h (.inr (.inr (.inr (.inr (.inr (.inl e))))))
  · exact h (.inr (.inr (.inr (.inr (.inr (.inr e))))))
theorem calmF {P : Program} {w : World} {K : PySem.W.Frag} {mg : Str → Option Value} {base : Heap} {C : Value} {k : Nat} {f : Addr} {fd : FuncData} {ps : List Str} {sp : Sp} (F : FnOk P w K mg base (CXC P w C) k f fd ps sp) :
    FnOk P w K mg base CX0 k f fd ps (fun vs H Q _ => sp vs H Q fun _ _ _ => False) :=
  ⟨fun vs H Q _ h => F.len vs H Q _ h, fun A outer s H args us vs Q E hr he hb hv hs => codeAny_mono (F.run A outer s H args us vs Q _ hr he hb hv hs) fun r s' h => by
    cases r with
    | ok v =>
      cases v with
      | ret u => exact h
      | _ => exact h.elim
    | error e =>
      obtain ⟨x, H', _, _, _, _, _, _, z⟩ := h
      exact z⟩
noncomputable def allO {α β : Type} (f : α → Option β) : List α → Option (List β)
  | [] => some []
  | a :: l => match f a, allO f l with
    | some b, some bs => some (b :: bs)
    | _, _ => none
theorem allO_snoc {α β : Type} {f : α → Option β} {a : α} {b : β} (e : f a = some b) : ∀ {l : List α} {bs : List β}, allO f l = some bs → allO f (l ++ [a]) = some (bs ++ [b])
  | [], bs, h => by
    cases h
    show allO f [a] = _
    unfold allO
    rw [e]
    rfl
  | q :: l, bs, h => by
    unfold allO at h
    split at h
    · rename_i c ns e1 e2
      cases h
      have ih := allO_snoc e e2
      show allO f (q :: (l ++ [a])) = _
      unfold allO
      rw [e1, ih]
      rfl
    · cases h
theorem allO_bad {α β : Type} {f : α → Option β} {a : α} (e : f a = none) : ∀ {l : List α}, a ∈ l → allO f l = none
  | q :: l, h => by
    unfold allO
    rcases List.mem_cons.mp h with rfl | h
    · rw [e]
    · rw [allO_bad e h]
      cases f q <;> rfl
theorem allO_len {α β : Type} {f : α → Option β} : ∀ {l : List α} {bs : List β}, allO f l = some bs → bs.length = l.length
  | [], _, e => by cases e; rfl
  | q :: l, bs, e => by
    unfold allO at e
    split at e
    · rename_i n ms e1 e2
      cases e
      rw [List.length_cons, List.length_cons, allO_len e2]
    · cases e
noncomputable abbrev TRow := List Nat × List Int
noncomputable def rowN (l : List Nat) : Option TRow := match cutL 32 l with
  | [] => none
  | w :: ps => (numsL ps).map fun ns => (w, ns)
noncomputable def rowsN (l : List Nat) : Option (List TRow) := allO rowN (cutL 10 l)
noncomputable def inW : List Nat := [105, 110]
noncomputable def outW : List Nat := [111, 117, 116]
theorem in_eq : Str.ofString "in" = ⟨inW.toArray⟩ := by decide +kernel
theorem out_eq : Str.ofString "out" = ⟨outW.toArray⟩ := by decide +kernel
theorem feedA : Str.ofString "\n" = ⟨#[10]⟩ := by decide +kernel
noncomputable def gateN (r : TRow) : Str × List Int := (⟨r.1.toArray⟩, r.2)
theorem allO_mem {α β : Type} {f : α → Option β} : ∀ {l : List α} {bs : List β}, allO f l = some bs → ∀ b ∈ bs, ∃ a ∈ l, f a = some b
  | [], _, e, b, h => by cases e; cases h
  | q :: l, bs, e, b, h => by
    unfold allO at e
    split at e
    · rename_i n ms e1 e2
      cases e
      rcases List.mem_cons.mp h with rfl | h
      · exact ⟨q, .head _, e1⟩
      · obtain ⟨a, ha, z⟩ := allO_mem e2 b h
        exact ⟨a, .tail _ ha, z⟩
    · cases e
theorem rows_small {z : Str} (tx : TX z) {rs : List TRow} (e : allO rowN (cutL 10 z.cps.toList) = some rs) : ∀ r ∈ rs, r.2.length ≤ 601 := fun r hr => by
  obtain ⟨p, hp, z1⟩ := allO_mem e r hr
  have t1 := (tx.part hp).1
  have l1 : p.length ≤ 600 := by
    have : (⟨p.toArray⟩ : Str).length = p.length := by show p.toArray.size = _; simp
    omega
  unfold rowN at z1
  split at z1
  · cases z1
  · rename_i w ps ec
    cases en : numsL ps with
    | none => rw [en] at z1; cases z1
    | some ns =>
      rw [en] at z1
      cases z1
      have h1 := numsL_len en
      have h2 := (cut_parts 32 p).2
      rw [ec, List.length_cons] at h2
      show ns.length ≤ 601
      omega
noncomputable def Told (rs : List TRow) (b : Works) : Prop := ∃ (i : Int) (gs : List TRow) (os : List Int), rs = (inW, [i]) :: (gs ++ [(outW, os)]) ∧ (∀ g ∈ gs, isKind (gateN g).1) ∧ b = ⟨i, gs.map gateN, os⟩
noncomputable def ToldT (z : Str) (b : Works) : Prop := ∃ rs, rowsN z.cps.toList = some rs ∧ Told rs b
theorem strWA {w u : List Nat} : (V.str ⟨w.toArray⟩ = V.str ⟨u.toArray⟩) ↔ w = u := by
  constructor
  · intro h
    have := congrArg (fun x : Str => x.cps.toList) (V.str.inj h)
    simpa using this
  · rintro rfl
    rfl
noncomputable def sp_woG (K : PySem.W.Frag) : Sp := fun vs H Q E => ∃ (b : Works) (ga oa : Addr) (gs os : List V), vs = [.int b.ins, .ref ga, .ref oa] ∧ SqL K H ga gs ∧ SqL K H oa os ∧ Reps K H gs (b.gates.map gateD) ∧ Reps K H os (b.outs.map .int) ∧ b.gates.length ≤ 1000 ∧ b.outs.length ≤ 1000 ∧ (∀ g ∈ b.gates, g.2.length ≤ 1000) ∧
  (GoodW b → ∀ (r : Addr) (H' : Hp), Same H H' → Rep K H' (.ref r) (worksD b) → Q (.ref r) H') ∧ (¬ GoodW b → Rz H E)
noncomputable def sp_rdwX (K : PySem.W.Frag) : Sp := fun vs H Q E => ∃ z : Str, vs = [.str z] ∧ TX z ∧ (∀ b, ToldT z b → GoodW b ∧ ∀ (r : Addr) (H' : Hp), Same H H' → Rep K H' (.ref r) (worksD b) → Q (.ref r) H') ∧ ((¬ ∃ b, ToldT z b) → Rz H E)
noncomputable def sp_rdwN (K : PySem.W.Frag) : Sp := fun vs H Q E => ∃ (z : Str) (b : Works), vs = [.str z] ∧ TX z ∧ ToldT z b ∧ ¬ GoodW b ∧ Rz H E
theorem ndec {p : Prop} [Decidable p] (c : ¬ (!decide p) = true) : p := Decidable.byContradiction fun z => c (by rw [decide_eq_false z]; rfl)
theorem cut_innerA (a b : V) (xs : List V) : cutV (a :: (xs ++ [b])) (some 1) (some (-1)) = xs := by
  have e1 : HT.sIx (a :: (xs ++ [b])).length 0 (some 1) = 1 := by
    simp only [HT.sIx]
    rw [if_neg (by decide), List.length_cons]
    exact Nat.min_eq_left (Nat.le_add_left _ _)
  have e2 : HT.sIx (a :: (xs ++ [b])).length (a :: (xs ++ [b])).length (some (-1)) = xs.length + 1 := by
    simp only [HT.sIx]
    rw [if_pos (by decide), List.length_cons, List.length_append, List.length_singleton]
    omega
  unfold cutV
  rw [e1, e2, List.drop_one, List.tail_cons, Nat.add_sub_cancel, List.take_left]
theorem reps_splitA {K : PySem.W.Frag} {H : Hp} : ∀ {as bs : List Dat} {vs : List V}, Reps K H vs (as ++ bs) → ∃ xs ys, vs = xs ++ ys ∧ Reps K H xs as ∧ Reps K H ys bs
  | [], _, vs, h => ⟨[], vs, rfl, .nil, h⟩
  | _ :: _, _, _, .cons r h => by
    obtain ⟨xs, ys, rfl, h1, h2⟩ := reps_splitA h
    exact ⟨_ :: xs, ys, rfl, .cons r h1, h2⟩
theorem atI_lastD {l : List V} {v : V} (h : l.getLast? = some v) : atI l (-1) = some v := by
  have hne : l ≠ [] := fun z => by rw [z] at h; cases h
  have e1 : l = l.dropLast ++ [v] := by
    have := List.dropLast_concat_getLast hne
    rw [List.getLast?_eq_some_getLast hne] at h
    rw [← Option.some.inj h]
    exact this.symm
  rw [e1]
  exact at_last _ _
structure Rwt where
  word : Str
  ns : List Int
structure Rwt.Ok (f : Rwt) : Prop where
  clean : ∀ c ∈ f.word.cps.toList, c ≠ 32 ∧ c ≠ 10 ∧ c < 128
  short : f.word.length ≤ 10
  some_ : 1 ≤ f.word.length
  num : ∀ n ∈ f.ns, 0 ≤ n ∧ n < 10 ^ 41
  few : f.ns.length ≤ 60
noncomputable def partsW (f : Rwt) : List (List Nat) := f.word.cps.toList :: f.ns.map fun n => digs n.toNat
noncomputable def rowL (f : Rwt) : List Nat := joinL 32 (partsW f)
noncomputable def txtW (f : Rwt) : Str := ⟨(rowL f).toArray⟩
theorem joinL_mem {c x : Nat} : ∀ {ps : List (List Nat)}, x ∈ joinL c ps → x = c ∨ ∃ p ∈ ps, x ∈ p
  | [], h => nomatch h
  | [p], h => .inr ⟨p, .head _, h⟩
  | p :: q :: r, h => by
    rcases List.mem_append.mp (show x ∈ p ++ c :: joinL c (q :: r) from h) with h | h
    · exact .inr ⟨p, .head _, h⟩
    · rcases List.mem_cons.mp h with h | h
      · exact .inl h
      · rcases joinL_mem h with h | ⟨s, hs, hx⟩
        · exact .inl h
        · exact .inr ⟨s, .tail _ hs, hx⟩
theorem row_clean {f : Rwt} (h : f.Ok) : ∀ c ∈ rowL f, c ≠ 10 ∧ c < 128 := fun c hc => by
  rcases joinL_mem hc with rfl | ⟨p, hp, hx⟩
  · decide
  · rcases List.mem_cons.mp hp with rfl | hp
    · exact (h.clean _ hx).2
    · obtain ⟨n, _, rfl⟩ := List.mem_map.mp hp
      have := digs_in _ _ hx
      omega
theorem digs_short {n : Int} (h : 0 ≤ n ∧ n < 10 ^ 41) : (digs n.toNat).length ≤ 41 := digs_len _ 41 (by
  have h2 := h.2
  have e : (10 : Int) ^ 41 = ((10 ^ 41 : Nat) : Int) := by decide +kernel
  rw [e] at h2
  omega) (by decide)
theorem joinL_len (c : Nat) : ∀ ps : List (List Nat), (joinL c ps).length ≤ (ps.map List.length).sum + ps.length
  | [] => Nat.le_refl _
  | [p] => by
    show p.length ≤ _
    simp
  | p :: q :: r => by
    have ih := joinL_len c (q :: r)
    show (p ++ c :: joinL c (q :: r)).length ≤ _
    rw [List.length_append, List.length_cons]
    rw [List.map_cons, List.sum_cons, List.length_cons]
    omega
theorem str_of {z : Str} {l : List Nat} (h : z.cps.toList = l) : z = ⟨l.toArray⟩ := by
  cases z with
  | mk a =>
    congr 1
    exact Array.toList_inj.mp (by simpa using h)
theorem tl (l : List Nat) : (⟨l.toArray⟩ : Str).cps.toList = l := by simp
noncomputable def numS (n : Int) : Str := Str.ofString (toString n)
theorem numS_cps {n : Int} (h : 0 ≤ n) : (numS n).cps.toList = digs n.toNat := by
  have := str_digs n.toNat
  rw [Int.toNat_of_nonneg h] at this
  exact this
theorem log_ok {n : Int} (h : 0 ≤ n ∧ n < 10 ^ 41) : n.natAbs.log2 < 1920 := by
  by_cases z : n.natAbs = 0
  · rw [z]
    decide
  · refine (Nat.log2_lt z).mpr ?_
    have e : (10 : Int) ^ 41 < ((2 ^ 140 : Nat) : Int) := by decide +kernel
    have h2 : n.natAbs < 2 ^ 140 := by omega
    exact Nat.lt_of_lt_of_le h2 (Nat.pow_le_pow_right (by decide) (by decide))
theorem join_cps (sep : Nat) : ∀ zs : List Str, (Str.join ⟨#[sep]⟩ zs).cps.toList = joinL sep (zs.map fun z => z.cps.toList)
  | [] => rfl
  | [z] => rfl
  | z :: y :: r => by
    have ih := join_cps sep (y :: r)
    show ((z ++ ⟨#[sep]⟩ ++ Str.join ⟨#[sep]⟩ (y :: r)) : Str).cps.toList = z.cps.toList ++ sep :: joinL sep ((y :: r).map fun z => z.cps.toList)
    rw [← ih]
    show ((z.cps ++ #[sep]) ++ (Str.join ⟨#[sep]⟩ (y :: r)).cps).toList = _
    rw [Array.toList_append, Array.toList_append, List.append_assoc]
    rfl
theorem blank : Str.ofString " " = ⟨#[32]⟩ := by decide +kernel
theorem partsS {f : Rwt} (ok : f.Ok) : (f.word :: f.ns.map numS).map (fun z => z.cps.toList) = partsW f := by
  unfold partsW
  rw [List.map_cons, List.map_map]
  congr 1
  exact List.map_congr_left fun n hn => numS_cps (ok.num n hn).1
theorem join_txt {f : Rwt} (ok : f.Ok) : Str.join (Str.ofString " ") (f.word :: f.ns.map numS) = txtW f := by
  unfold txtW
  refine str_of ?_
  rw [blank, join_cps, partsS ok]
  rfl
theorem numS_len {n : Int} (h : 0 ≤ n ∧ n < 10 ^ 41) : (numS n).length ≤ 41 := by
  show (numS n).cps.size ≤ 41
  rw [← Array.length_toList, numS_cps h.1]
  exact digs_short h
theorem sum_le {α : Type} {g : α → Nat} {k : Nat} : ∀ {l : List α}, (∀ a ∈ l, g a ≤ k) → (l.map g).sum ≤ l.length * k
  | [], _ => Nat.zero_le _
  | a :: l, h => by
    have h1 := h a (.head _)
    have h2 := sum_le (l := l) fun b hb => h b (.tail _ hb)
    rw [List.map_cons, List.sum_cons, List.length_cons, Nat.succ_mul]
    omega
theorem row_len {f : Rwt} (ok : f.Ok) : (rowL f).length ≤ 3000 := by
  have l3 := ok.few
  have hw := ok.short
  have hs := sum_le (g := fun n : Int => (digs n.toNat).length) (k := 41) (l := f.ns) fun n hn => digs_short (ok.num n hn)
  have hj := joinL_len 32 (partsW f)
  unfold rowL
  unfold partsW at hj ⊢
  rw [List.map_cons, List.sum_cons, List.length_cons, List.length_map, List.map_map] at hj
  have hw' : f.word.cps.toList.length ≤ 10 := by rw [Array.length_toList]; exact hw
  have hs' : (f.ns.map (List.length ∘ fun n : Int => digs n.toNat)).sum ≤ f.ns.length * 41 := hs
  omega
theorem in_ok {i : Int} (h : 1 ≤ i ∧ i ≤ 6) : (⟨"in", [i]⟩ : Rwt).Ok := ⟨by
    intro c hc
    rw [show (Str.ofString "in").cps.toList = [105, 110] by decide +kernel] at hc
    rcases List.mem_cons.mp hc with rfl | hc
    · decide
    · rw [List.mem_singleton.mp hc]
      decide, (by show (Str.ofString "in").length ≤ 10; decide +kernel), (by show 1 ≤ (Str.ofString "in").length; decide +kernel), fun n hn => by
    rw [List.mem_singleton.mp hn]
    have : (6 : Int) < 10 ^ 41 := by decide
    omega, by show 1 ≤ 60; decide⟩
theorem clean_word {x : Str} {l : List Nat} (e : x.cps.toList = l) (h : (l.all fun c => decide (c ≠ 32 ∧ c ≠ 10 ∧ c < 128)) = true) : ∀ c ∈ x.cps.toList, c ≠ 32 ∧ c ≠ 10 ∧ c < 128 := fun c hc => by
  rw [e] at hc
  exact of_decide_eq_true (List.all_eq_true.mp h c hc)
theorem kind_of {x : Str} {n : Nat} (h : legsOk x n) : isKind x := by
  unfold legsOk at h
  unfold isKind
  rcases h with ⟨h | h | h, _⟩ | ⟨h, _⟩ | ⟨h, _⟩ | ⟨h | h, _⟩ <;> simp [h]
theorem kind_clean {x : Str} (h : isKind x) : (∀ c ∈ x.cps.toList, c ≠ 32 ∧ c ≠ 10 ∧ c < 128) ∧ x.length ≤ 10 ∧ 1 ≤ x.length := by
  unfold isKind at h
  rcases h with rfl | rfl | rfl | rfl | rfl | rfl | rfl
  · exact ⟨clean_word (l := [97, 110, 100]) (by decide +kernel) (by decide), by decide +kernel, by decide +kernel⟩
  · exact ⟨clean_word (l := [111, 114]) (by decide +kernel) (by decide), by decide +kernel, by decide +kernel⟩
  · exact ⟨clean_word (l := [111, 100, 100]) (by decide +kernel) (by decide), by decide +kernel, by decide +kernel⟩
  · exact ⟨clean_word (l := [110, 111, 116]) (by decide +kernel) (by decide), by decide +kernel, by decide +kernel⟩
  · exact ⟨clean_word (l := [99, 104, 111, 111, 115, 101]) (by decide +kernel) (by decide), by decide +kernel, by decide +kernel⟩
  · exact ⟨clean_word (l := [122, 101, 114, 111]) (by decide +kernel) (by decide), by decide +kernel, by decide +kernel⟩
  · exact ⟨clean_word (l := [111, 110, 101]) (by decide +kernel) (by decide), by decide +kernel, by decide +kernel⟩
theorem wire_small {m : Nat} {w : Works} (wf : WF m w) (hm : m ≤ 20) {n : Int} (h : 0 ≤ n ∧ n < w.ins + w.gates.length) : 0 ≤ n ∧ n < 10 ^ 41 := by
  have : (30 : Int) < 10 ^ 41 := by decide
  have := wf.i6
  have := wf.few
  omega
theorem gate_ok {w : Works} (wf : WF 20 w) {k : Nat} {g : Str × List Int} (h : w.gates[k]? = some g) : (⟨g.1, g.2⟩ : Rwt).Ok := by
  obtain ⟨lk, ll⟩ := wf.legs k g h
  obtain ⟨a, b, c⟩ := kind_clean (kind_of lk)
  have hk := (List.getElem?_eq_some_iff.mp h).1
  refine ⟨a, b, c, fun n hn => wire_small wf (Nat.le_refl _) ?_, ?_⟩
  · have := ll n hn
    omega
  · have := lk.le
    show g.2.length ≤ 60
    omega
theorem out_ok {w : Works} (wf : WF 20 w) : (⟨"out", w.outs⟩ : Rwt).Ok := ⟨clean_word (l := [111, 117, 116]) (by show (Str.ofString "out").cps.toList = _; decide +kernel) (by decide), (by show (Str.ofString "out").length ≤ 10; decide +kernel), (by show 1 ≤ (Str.ofString "out").length; decide +kernel), fun n hn => wire_small wf (Nat.le_refl _) (wf.outs n hn), by
    have := wf.o3
    show w.outs.length ≤ 60
    omega⟩
noncomputable def gatesR (gs : List (Str × List Int)) : List Rwt := gs.map fun g => ⟨g.1, g.2⟩
noncomputable def rowsW (w : Works) : List Rwt := ⟨"in", [w.ins]⟩ :: (gatesR w.gates ++ [⟨"out", w.outs⟩])
theorem rows_ok {w : Works} (wf : WF 20 w) : ∀ f ∈ rowsW w, f.Ok := fun f hf => by
  rcases List.mem_cons.mp hf with rfl | hf
  · exact in_ok ⟨wf.i1, wf.i6⟩
  · rcases List.mem_append.mp hf with hf | hf
    · obtain ⟨g, hg, rfl⟩ := List.mem_map.mp hf
      obtain ⟨k, hk⟩ := List.getElem?_of_mem hg
      exact gate_ok wf hk
    · rw [List.mem_singleton.mp hf]
      exact out_ok wf
theorem rows_many {w : Works} (wf : WF 20 w) : (rowsW w).length ≤ 22 := by
  have := wf.few
  unfold rowsW gatesR
  rw [List.length_cons, List.length_append, List.length_map, List.length_singleton]
  omega
noncomputable def textW (w : Works) : Str := ⟨(joinL 10 ((rowsW w).map rowL)).toArray⟩
theorem feed : Str.ofString "\n" = ⟨#[10]⟩ := by decide +kernel
theorem join_text (w : Works) : Str.join (Str.ofString "\n") ((rowsW w).map txtW) = textW w := by
  unfold textW
  refine str_of ?_
  rw [feed, join_cps, List.map_map]
  exact congrArg (joinL 10) (List.map_congr_left fun f _ => tl _)
theorem txt_len {f : Rwt} (ok : f.Ok) : (txtW f).length ≤ 3000 := by show (rowL f).toArray.size ≤ 3000; rw [List.size_toArray]; exact row_len ok
theorem text_sum {w : Works} (wf : WF 20 w) : (((rowsW w).map txtW).map (·.length)).sum + ((rowsW w).map txtW).length * (Str.ofString "\n").length ≤ 100000 := by
  have hs := sum_le (g := fun z : Str => z.length) (k := 3000) (l := (rowsW w).map txtW) fun z hz => by
    obtain ⟨f, hf, rfl⟩ := List.mem_map.mp hz
    exact txt_len (rows_ok wf f hf)
  rw [List.length_map] at hs ⊢
  have := rows_many wf
  rw [feed]
  show _ + (rowsW w).length * 1 ≤ _
  omega
theorem rowL_clean {w : Works} (wf : WF 20 w) : ∀ p ∈ (rowsW w).map rowL, 10 ∉ p := fun p hp => by
  obtain ⟨f, hf, rfl⟩ := List.mem_map.mp hp
  exact fun z => (row_clean (rows_ok wf f hf) _ z).1 rfl
noncomputable def newsOf (G H H' : Hp) : Hp := fun b => match H b with
  | none => H' b
  | some _ => G b
theorem newsOf_new {G H H' : Hp} {b : Addr} (h : H b = none) : newsOf G H H' b = H' b := by unfold newsOf; rw [h]
theorem newsOf_same {G H H' : Hp} (f : Same G H) : Same G (newsOf G H H') := fun b o e => by unfold newsOf; rw [f _ _ e]; exact e
theorem newsOf_off {M : List Addr} {G H H' : Hp} (f : Off M G H) (s : Same H H') : Off M (newsOf G H H') H' := by
  refine ⟨fun b o e => ?_, fun m hm => ?_, fun m hm => ?_⟩
  · unfold newsOf at e
    cases hb : H b with
    | none => rw [hb] at e; exact e
    | some u => rw [hb] at e; exact s _ _ (f.same _ _ e)
  · obtain ⟨o, e⟩ := f.there m hm
    unfold newsOf
    rw [e]
    exact f.out m hm
  · obtain ⟨o, e⟩ := f.there m hm
    exact ⟨o, s _ _ e⟩
noncomputable def sp_shw (K : PySem.W.Frag) : Sp := fun vs H Q _ => ∃ (x : V) (w : Works), vs = [x] ∧ Rep K H x (worksD w) ∧ WF 20 w ∧ ∀ H', Same H H' → Q (.str (textW w)) H'
theorem join_snoc (sep z : Str) : ∀ (y : Str) (zs : List Str), Str.join sep ((y :: zs) ++ [z]) = Str.join sep (y :: zs) ++ sep ++ z
  | y, [] => rfl
  | y, x :: zs => by
    have ih := join_snoc sep z x zs
    show y ++ sep ++ Str.join sep ((x :: zs) ++ [z]) = (y ++ sep ++ Str.join sep (x :: zs)) ++ sep ++ z
    rw [ih]
    show (⟨(y.cps ++ sep.cps) ++ (((Str.join sep (x :: zs)).cps ++ sep.cps) ++ z.cps)⟩ : Str) = ⟨(((y.cps ++ sep.cps) ++ (Str.join sep (x :: zs)).cps) ++ sep.cps) ++ z.cps⟩
    congr 1
    simp only [Array.append_assoc]
noncomputable def someT (f : Rwt) (i : Nat) : Str := Str.join (Str.ofString " ") (f.word :: (f.ns.take i).map numS)
theorem someT_len {f : Rwt} (ok : f.Ok) {i : Nat} : (someT f i).length ≤ 3000 := by
  have jl := StrLaws.join_length_le (Str.ofString " ") (f.word :: (f.ns.take i).map numS)
  have hs := sum_le (g := fun z : Str => z.length) (k := 41) (l := (f.ns.take i).map numS) fun z hz => by
    obtain ⟨m, hm, rfl⟩ := List.mem_map.mp hz
    exact numS_len (ok.num m (List.mem_of_mem_take hm))
  rw [List.map_cons, List.sum_cons, List.length_cons, List.length_map, List.length_take] at jl
  rw [List.length_map, List.length_take] at hs
  have b1 : (Str.ofString " ").length = 1 := by rw [blank]; rfl
  rw [b1] at jl
  have := ok.few
  have := ok.short
  unfold someT
  omega
theorem someT_next {f : Rwt} {i : Nat} {n : Int} (h : f.ns[i]? = some n) : someT f (i + 1) = (someT f i ++ Str.ofString " ") ++ numS n := by
  unfold someT
  rw [List.take_add_one, h, List.map_append]
  have := join_snoc (Str.ofString " ") (numS n) f.word ((f.ns.take i).map numS)
  rw [List.cons_append] at this
  exact this
theorem app_len (a b : Str) : (a ++ b).length = a.length + b.length := by
  show (a.cps ++ b.cps).size = _
  rw [Array.size_append]
  rfl
noncomputable def TXk (k : Nat) (z : Str) : Prop := z.length ≤ k ∧ ∀ c ∈ z.cps.toList, c < 128
theorem TXk.tx {k : Nat} {z : Str} (h : TXk k z) (hk : k ≤ 600) : TX z := ⟨Nat.le_trans h.1 hk, h.2⟩
theorem TXk.mono {k m : Nat} {z : Str} (h : TXk k z) (hk : k ≤ m) : TXk m z := ⟨Nat.le_trans h.1 hk, h.2⟩
theorem cps_app (x y : Str) : (x ++ y).cps.toList = x.cps.toList ++ y.cps.toList := by
  show (x.cps ++ y.cps).toList = _
  rw [Array.toList_append]
theorem TXk.app {k m : Nat} {x y : Str} (hx : TXk k x) (hy : TXk m y) : TXk (k + m) (x ++ y) := by
  refine ⟨by rw [len_app]; exact Nat.add_le_add hx.1 hy.1, fun c hc => ?_⟩
  rw [cps_app] at hc
  rcases List.mem_append.mp hc with h | h
  · exact hx.2 c h
  · exact hy.2 c h
noncomputable def wt (zs : List Str) : Nat := (zs.map (·.length)).sum + zs.length
theorem wt_app (a b : List Str) : wt (a ++ b) = wt a + wt b := by
  unfold wt
  rw [List.map_append, List.sum_append, List.length_append]
  omega
theorem wt_cons (a : Str) (b : List Str) : wt (a :: b) = a.length + 1 + wt b := by
  unfold wt
  rw [List.map_cons, List.sum_cons, List.length_cons]
  omega
theorem join_tx {zs : List Str} (hz : ∀ z ∈ zs, ∀ c ∈ z.cps.toList, c < 128) {k : Nat} (hk : wt zs ≤ k) : TXk k (Str.join (Str.ofString " ") zs) := by
  refine ⟨?_, fun c hc => ?_⟩
  · have := StrLaws.join_length_le (Str.ofString " ") zs
    have e1 : (Str.ofString " ").length = 1 := by rw [blankA]; rfl
    rw [e1] at this
    unfold wt at hk
    omega
  · rcases mem_join hc with h | ⟨z, h1, h2⟩
    · rw [blankA] at h
      have : c = 32 := by simpa using h
      omega
    · exact hz z h1 c h2
theorem join_fit {zs : List Str} {k : Nat} (hk : wt zs ≤ k) (h : k ≤ 100000) : (zs.map (·.length)).sum + zs.length * (Str.ofString " ").length ≤ 100000 := by
  have e1 : (Str.ofString " ").length = 1 := by rw [blankA]; rfl
  rw [e1]
  unfold wt at hk
  omega
theorem sameB_put {p D : Addr} {H H1 : Hp} (a : SameB p H H1) (hD : H D = none) (o : HO) : SameB p H (upd H1 D o) := fun b u n h => by
  rw [upd_ne (ne_of_none h hD)]
  exact a b u n h
theorem sameB_fr {p D : Addr} {H H1 : Hp} (a : SameB p H H1) (np : D ≠ p) (h : H1 D = none) : H D = none := by
  cases e : H D with
  | none => rfl
  | some o => rw [a D o np e] at h; cases h
theorem atI_lt {α : Type} {l : List α} {r : Int} (h0 : 0 ≤ r) (h1 : r < l.length) : ∃ c, atI l r = some c ∧ c ∈ l := by
  have hj : r.toNat < l.length := by omega
  refine ⟨l[r.toNat], ?_, List.getElem_mem hj⟩
  have := atI_nat (xs := l) (j := r.toNat) (List.getElem?_eq_getElem hj)
  rw [Int.toNat_of_nonneg h0] at this
  exact this
theorem ix_in {n : Nat} {i : Int} (h0 : 0 ≤ i) (h1 : i < n) : ixN n i = some i.toNat := by
  unfold ixN
  rw [if_pos h0, if_pos h1]
theorem wt_cut (l : List Nat) : wt ((cutL 32 l).map fun p => (⟨p.toArray⟩ : Str)) = l.length + 1 := by
  have key : ∀ ps : List (List Nat), ps ≠ [] → wt (ps.map fun p => (⟨p.toArray⟩ : Str)) = (joinL 32 ps).length + 1 := by
    intro ps
    induction ps with
    | nil => exact fun h => absurd rfl h
    | cons p ps ih =>
      intro _
      rw [List.map_cons, wt_cons]
      have e1 : (⟨p.toArray⟩ : Str).length = p.length := by show p.toArray.size = _; simp
      rw [e1]
      cases ps with
      | nil => rfl
      | cons q r =>
        rw [ih fun z => nomatch z]
        show _ = (p ++ 32 :: joinL 32 (q :: r)).length + 1
        rw [List.length_append, List.length_cons]
        omega
  have := key (cutL 32 l) (cutL_ne _ _)
  rw [cutL_join] at this
  exact this
theorem wt_ins (zs : List Str) (m : Str) (k : Nat) : wt (zs.take k ++ m :: zs.drop k) = wt zs + m.length + 1 := by
  rw [wt_app, wt_cons]
  have := wt_app (zs.take k) (zs.drop k)
  rw [List.take_append_drop] at this
  omega
theorem wt_drop (zs : List Str) (k : Nat) : wt (zs.drop (k + 1)) ≤ wt (zs.drop k) := by
  rw [← List.drop_drop]
  cases zs.drop k with
  | nil => exact Nat.le_refl _
  | cons a l =>
    rw [wt_cons]
    show wt l ≤ _
    omega
theorem wt_del (zs : List Str) (k : Nat) : wt (zs.eraseIdx k) ≤ wt zs := by
  rw [List.eraseIdx_eq_take_drop_succ, wt_app]
  have := wt_app (zs.take k) (zs.drop k)
  rw [List.take_append_drop] at this
  have := wt_drop zs k
  omega
theorem wt_set (zs : List Str) (m : Str) (k : Nat) : wt (zs.set k m) ≤ wt zs + m.length + 1 := by
  rw [List.set_eq_take_append_cons_drop]
  split
  · rw [wt_app, wt_cons]
    have := wt_app (zs.take k) (zs.drop k)
    rw [List.take_append_drop] at this
    have := wt_drop zs k
    omega
  · omega
theorem cutI (ns : List Int) (lo hi : Option Int) : ∃ ms : List Int, cutV (ns.map V.int) lo hi = ms.map V.int ∧ ms.length ≤ ns.length := by
  refine ⟨(ns.drop (HT.sIx (ns.map V.int).length 0 lo)).take (HT.sIx (ns.map V.int).length (ns.map V.int).length hi - HT.sIx (ns.map V.int).length 0 lo), ?_, ?_⟩
  · unfold cutV
    rw [List.map_take, List.map_drop]
  · rw [List.length_take, List.length_drop]
    omega
noncomputable def sp_lnum : Sp := fun vs H Q _ => ∃ z : Str, vs = [.str z] ∧ TX z ∧ (numL z.cps.toList = none → ∀ H', Same H H' → Q .non H') ∧ (∀ n : Nat, numL z.cps.toList = some n → ∀ H', Same H H' → Q (.int n) H')
noncomputable def rN (g : List (List Nat)) : TRow := (g.headD [], (numsL g.tail).getD [])
theorem rowN_rN {p : List Nat} {r : TRow} (h : rowN p = some r) : r = rN (cutL 32 p) ∧ numsL (cutL 32 p).tail = some r.2 := by
  unfold rowN at h
  split at h
  · cases h
  · rename_i w ps ec
    cases en : numsL ps with
    | none => rw [en] at h; cases h
    | some ns =>
      rw [en] at h
      cases h
      rw [ec]
      unfold rN
      rw [List.tail_cons, en]
      exact ⟨rfl, rfl⟩
theorem rowN_none {p : List Nat} (h : numsL (cutL 32 p).tail = none) : rowN p = none := by
  unfold rowN
  split
  · rfl
  · rename_i w ps ec
    rw [ec, List.tail_cons] at h
    rw [h]
    rfl
theorem rowN_some {p : List Nat} {ns : List Int} (h : numsL (cutL 32 p).tail = some ns) : rowN p = some (rN (cutL 32 p)) := by
  unfold rowN
  split
  · rename_i ec
    exact absurd ec (cutL_ne _ _)
  · rename_i w ps ec
    rw [ec, List.tail_cons] at h
    unfold rN
    rw [ec, List.tail_cons, h]
    rfl
theorem allO_map {α β : Type} {f : α → Option β} {g : α → β} : ∀ {l : List α} {bs : List β}, (∀ a ∈ l, ∀ b, f a = some b → b = g a) → allO f l = some bs → bs = l.map g
  | [], _, _, e => by cases e; rfl
  | q :: l, bs, h, e => by
    unfold allO at e
    split at e
    · rename_i n ms e1 e2
      cases e
      rw [List.map_cons, ← h q (.head _) n e1, ← allO_map (fun a ha => h a (.tail _ ha)) e2]
    · cases e
theorem allO_some {α β : Type} {f : α → Option β} {g : α → β} : ∀ {l : List α}, (∀ a ∈ l, f a = some (g a)) → allO f l = some (l.map g)
  | [], _ => rfl
  | q :: l, h => by
    unfold allO
    rw [h q (.head _), allO_some fun a ha => h a (.tail _ ha)]
    rfl
noncomputable def cut2 (l : List Nat) : List (List (List Nat)) := (cutL 10 l).map (cutL 32)
theorem cut2_ne {l : List Nat} {g : List (List Nat)} (h : g ∈ cut2 l) : g ≠ [] := by
  obtain ⟨p, _, rfl⟩ := List.mem_map.mp h
  exact cutL_ne _ _
theorem told_cut {z : Str} {b : Works} (h : ToldT z b) : Told ((cut2 z.cps.toList).map rN) b ∧ ∀ g ∈ cut2 z.cps.toList, numsL g.tail ≠ none := by
  obtain ⟨rs, e, tb⟩ := h
  unfold rowsN at e
  have e1 := allO_map (g := fun p => rN (cutL 32 p)) (fun a _ b hb => (rowN_rN hb).1) e
  refine ⟨?_, fun g hg z1 => ?_⟩
  · unfold cut2
    rw [List.map_map]
    rw [e1] at tb
    exact tb
  · obtain ⟨p, hp, rfl⟩ := List.mem_map.mp hg
    rw [allO_bad (rowN_none z1) hp] at e
    cases e
theorem cut_told {z : Str} {b : Works} (hn : ∀ g ∈ cut2 z.cps.toList, numsL g.tail ≠ none) (h : Told ((cut2 z.cps.toList).map rN) b) : ToldT z b := by
  refine ⟨(cut2 z.cps.toList).map rN, ?_, h⟩
  unfold rowsN
  have e : (cut2 z.cps.toList).map rN = (cutL 10 z.cps.toList).map fun p => rN (cutL 32 p) := by
    unfold cut2
    rw [List.map_map]
    rfl
  rw [e]
  refine allO_some fun p hp => ?_
  cases en : numsL (cutL 32 p).tail with
  | none => exact absurd en (hn _ (List.mem_map_of_mem hp))
  | some ns => exact rowN_some en
noncomputable def LL (H : Hp) (us : List V) (ls : List (List V)) : Prop := us.length = ls.length ∧ ∀ (j : Nat) (l : List V), ls[j]? = some l → ∃ r, us[j]? = some (.ref r) ∧ H r = some (.lst l)
theorem LL.nil {H : Hp} : LL H [] [] := ⟨rfl, fun j l h => by cases j <;> cases h⟩
theorem LL.mono {H H' : Hp} {us : List V} {ls : List (List V)} (h : LL H us ls) (s : Same H H') : LL H' us ls := ⟨h.1, fun j l e => by
  obtain ⟨r, e1, e2⟩ := h.2 j l e
  exact ⟨r, e1, s _ _ e2⟩⟩
theorem LL.snoc {H : Hp} {us : List V} {ls : List (List V)} {r : Addr} {l : List V} (h : LL H us ls) (e : H r = some (.lst l)) : LL H (us ++ [.ref r]) (ls ++ [l]) := by
  refine ⟨by rw [List.length_append, List.length_append, h.1]; rfl, fun j m hm => ?_⟩
  by_cases hj : j < ls.length
  · rw [List.getElem?_append_left hj] at hm
    obtain ⟨r', e1, e2⟩ := h.2 j m hm
    exact ⟨r', by rw [List.getElem?_append_left (by rw [h.1]; exact hj)]; exact e1, e2⟩
  · rw [List.getElem?_append_right (by omega)] at hm
    have hl := (List.getElem?_eq_some_iff.mp hm).1
    rw [List.length_singleton] at hl
    have ej : j = ls.length := by omega
    subst ej
    rw [Nat.sub_self] at hm
    cases hm
    exact ⟨r, by rw [← h.1, List.getElem?_append_right (Nat.le_refl _), Nat.sub_self]; rfl, e⟩
noncomputable def wordsV (ws : List (List Nat)) : List V := ws.map fun w => V.str ⟨w.toArray⟩
noncomputable def numV (p : List Nat) : V := match numL p with
  | none => .non
  | some n => .int n
theorem at_new {H : Hp} {a : Addr} {o : HO} (_ : H a = none) : (upd H a o) a = some o := upd_same
noncomputable def kdW (a1 a2 a3 a4 a5 a6 a7 : V) : List (Key × V) := mergeK [] [(.inr "and", a1), (.inr "or", a2), (.inr "odd", a3), (.inr "not", a4), (.inr "choose", a5), (.inr "zero", a6), (.inr "one", a7)]
theorem kdW_eq {a1 a2 a3 a4 a5 a6 a7 : V} : kdW a1 a2 a3 a4 a5 a6 a7 = [(.inr "and", a1), (.inr "or", a2), (.inr "odd", a3), (.inr "not", a4), (.inr "choose", a5), (.inr "zero", a6), (.inr "one", a7)] := by kernel_rfl
theorem kd_none {a1 a2 a3 a4 a5 a6 a7 : V} {x : Str} (h : ¬ isKind x) : valV (kdW a1 a2 a3 a4 a5 a6 a7) (.inr x) = none := by
  have ne : ∀ y, isKind y → ¬ ((Sum.inr y : Key) = .inr x) := fun y hy e => h (Sum.inr.inj e ▸ hy)
  rw [kdW_eq]
  unfold valV
  rw [List.find?_eq_none.mpr]
  · rfl
  intro kv hm
  simp only [decide_eq_true_eq]
  rcases List.mem_cons.mp hm with rfl | hm
  · exact ne _ (.inl rfl)
  rcases List.mem_cons.mp hm with rfl | hm
  · exact ne _ (.inr (.inl rfl))
  rcases List.mem_cons.mp hm with rfl | hm
  · exact ne _ (.inr (.inr (.inl rfl)))
  rcases List.mem_cons.mp hm with rfl | hm
  · exact ne _ (.inr (.inr (.inr (.inl rfl))))
  rcases List.mem_cons.mp hm with rfl | hm
  · exact ne _ (.inr (.inr (.inr (.inr (.inl rfl)))))
  rcases List.mem_cons.mp hm with rfl | hm
  · exact ne _ (.inr (.inr (.inr (.inr (.inr (.inl rfl))))))
  rw [List.mem_singleton.mp hm]
  exact ne _ (.inr (.inr (.inr (.inr (.inr (.inr rfl))))))
theorem numV_flat (p : List Nat) : flatV (numV p) = true := by
  unfold numV
  cases numL p <;> rfl
theorem in_non {ps : List (List Nat)} : inV .non (ps.map numV) = true ↔ numsL ps = none := by
  unfold inV
  rw [List.any_map, List.any_eq_true]
  constructor
  · rintro ⟨p, hp, e⟩
    refine numsL_bad ?_ hp
    cases en : numL p with
    | none => rfl
    | some n =>
      have e2 : eqV (numV p) .non = true := e
      unfold numV at e2
      rw [en] at e2
      cases e2
  · intro e
    obtain ⟨p, hp, z⟩ := numsL_none e
    refine ⟨p, hp, ?_⟩
    show eqV (numV p) .non = true
    unfold numV
    rw [z]
    rfl
theorem nums_V : ∀ {ps : List (List Nat)} {ns : List Int}, numsL ps = some ns → ps.map numV = ns.map V.int
  | [], _, e => by cases e; rfl
  | q :: ps, ns, e => by
    unfold numsL at e
    split at e
    · rename_i n ms e1 e2
      cases e
      rw [List.map_cons, List.map_cons, nums_V e2]
      unfold numV
      rw [e1]
    · cases e
theorem nums_pos {ps : List (List Nat)} {ns : List Int} (e : numsL ps = some ns) : ∀ n ∈ ns, 0 ≤ n := fun n hn => by
  obtain ⟨j, hj⟩ := List.getElem?_of_mem hn
  have lj : j < ps.length := by rw [← numsL_len e]; exact (List.getElem?_eq_some_iff.mp hj).1
  obtain ⟨m, _, e2⟩ := numsL_get e j _ (List.getElem?_eq_getElem lj)
  rw [hj] at e2
  cases e2
  exact Int.natCast_nonneg _
noncomputable def sp_out (K : PySem.W.Frag) : Sp := fun vs H Q _ => ∃ z : Str, vs = [.str z] ∧ TX z ∧ ((¬ ∃ b, ToldT z b) → ∀ H', Same H H' → Q (.str "text") H') ∧ (∀ b, ToldT z b → ¬ GoodW b → ∀ H', Same H H' → Q (.str "works") H') ∧
  (∀ b, ToldT z b → GoodW b → ∀ (r : Addr) (H' : Hp), Same H H' → Rep K H' (.ref r) (worksD b) → Q (.ref r) H')
theorem cutS_lo {zs : List Str} {a : Int} (h : 0 ≤ a) : cutV (zs.map V.str) none (some a) = (zs.take a.toNat).map V.str := by
  have e1 : HT.sIx (zs.map V.str).length (zs.map V.str).length (some a) = min a.toNat zs.length := by
    simp only [HT.sIx]
    rw [if_neg (by omega), List.length_map]
  unfold cutV
  rw [e1, show HT.sIx (zs.map V.str).length 0 none = 0 from rfl, List.drop_zero, Nat.sub_zero, ← List.map_take]
  congr 1
  rw [List.take_eq_take_iff]
  omega
theorem cutS_hi {zs : List Str} {a : Int} (h : 0 ≤ a) : cutV (zs.map V.str) (some a) none = (zs.drop a.toNat).map V.str := by
  have e1 : HT.sIx (zs.map V.str).length 0 (some a) = min a.toNat zs.length := by
    simp only [HT.sIx]
    rw [if_neg (by omega), List.length_map]
  unfold cutV
  rw [e1, show HT.sIx (zs.map V.str).length (zs.map V.str).length none = (zs.map V.str).length from rfl, ← List.map_drop]
  rw [List.take_of_length_le (by rw [List.length_map, List.length_drop, List.length_map]; omega)]
  congr 1
  by_cases hz : a.toNat ≤ zs.length
  · rw [Nat.min_eq_left hz]
  · rw [Nat.min_eq_right (by omega), List.drop_of_length_le (Nat.le_refl _), List.drop_of_length_le (by omega)]
theorem wt_two (zs : List Str) (a : Nat) : wt (zs.take a) + wt (zs.drop a) = wt zs := by
  have := wt_app (zs.take a) (zs.drop a)
  rw [List.take_append_drop] at this
  omega
noncomputable def sp_word : Sp := fun vs H Q _ => ∃ (p : Addr) (n : Int), vs = [.ref p] ∧ H p = some (.lst [.int n]) ∧ ∀ (z : Str) (m : Int) (H' : Hp), TXk 50 z → SameB p H H' → H' p = some (.lst [.int m]) → Q (.str z) H'
noncomputable def AscL (zs : List Str) : Prop := ∀ z ∈ zs, ∀ c ∈ z.cps.toList, c < 128
noncomputable def sp_rput : Sp := fun vs H Q _ => ∃ (p q : Addr) (n : Int) (zs : List Str) (r w : Nat), vs = [.ref p, .ref q] ∧ H p = some (.lst [.int n]) ∧ H q = some (.lst (zs.map V.str)) ∧ zs ≠ [] ∧ p ≠ q ∧ AscL zs ∧ (∀ z ∈ zs, z.length ≤ r) ∧ wt zs ≤ w ∧ w ≤ 1000 ∧ r ≤ 600 ∧
  ∀ (d : Addr) (ys : List Str) (m : Int) (H' : Hp), H' d = some (.lst (ys.map V.str)) → wt ys ≤ w + r + 55 → AscL ys → SameB p H H' → H' p = some (.lst [.int m]) → Q (.ref d) H'
theorem wt_cutA (c : Nat) (l : List Nat) : wt ((cutL c l).map fun p => (⟨p.toArray⟩ : Str)) = l.length + 1 := by
  have key : ∀ ps : List (List Nat), ps ≠ [] → wt (ps.map fun p => (⟨p.toArray⟩ : Str)) = (joinL c ps).length + 1 := by
    intro ps
    induction ps with
    | nil => exact fun h => absurd rfl h
    | cons p ps ih =>
      intro _
      rw [List.map_cons, wt_cons]
      have e1 : (⟨p.toArray⟩ : Str).length = p.length := by show p.toArray.size = _; simp
      rw [e1]
      cases ps with
      | nil => rfl
      | cons q r =>
        rw [ih fun z => nomatch z]
        show _ = (p ++ c :: joinL c (q :: r)).length + 1
        rw [List.length_append, List.length_cons]
        omega
  have := key (cutL c l) (cutL_ne _ _)
  rw [cutL_join] at this
  exact this
theorem join_txN {zs : List Str} (hz : AscL zs) {k : Nat} (hk : wt zs ≤ k) : TXk k (Str.join (Str.ofString "\n") zs) := by
  refine ⟨?_, fun c hc => ?_⟩
  · have := StrLaws.join_length_le (Str.ofString "\n") zs
    have e1 : (Str.ofString "\n").length = 1 := by rw [feedA]; rfl
    rw [e1] at this
    unfold wt at hk
    omega
  · rcases mem_join hc with h | ⟨z, h1, h2⟩
    · rw [feedA] at h
      have : c = 10 := by simpa using h
      omega
    · exact hz z h1 c h2
theorem join_fitN {zs : List Str} {k : Nat} (hk : wt zs ≤ k) (h : k ≤ 100000) : (zs.map (·.length)).sum + zs.length * (Str.ofString "\n").length ≤ 100000 := by
  have e1 : (Str.ofString "\n").length = 1 := by rw [feedA]; rfl
  rw [e1]
  unfold wt at hk
  omega
theorem cutL_app {c : Nat} (l : List Nat) : ∀ {p : List Nat}, c ∉ p → cutL c (p ++ c :: l) = p :: cutL c l
  | [], _ => by
    show cutL c (c :: l) = _
    rw [cutL, if_pos rfl]
  | a :: p, h => by
    have ih := cutL_app l (p := p) fun z => h (.tail _ z)
    show cutL c (a :: (p ++ c :: l)) = _
    rw [cutL, if_neg fun z => h (by rw [z]; exact .head _), ih]
theorem cutL_clean {c : Nat} : ∀ {p : List Nat}, c ∉ p → cutL c p = [p]
  | [], _ => rfl
  | a :: p, h => by
    have ih := cutL_clean (p := p) fun z => h (.tail _ z)
    rw [cutL, if_neg fun z => h (by rw [z]; exact .head _), ih]
theorem cutL_joinL {c : Nat} : ∀ {ps : List (List Nat)}, ps ≠ [] → (∀ p ∈ ps, c ∉ p) → cutL c (joinL c ps) = ps
  | [], h, _ => absurd rfl h
  | [p], _, h => cutL_clean (h p (.head _))
  | p :: q :: r, _, h => by
    show cutL c (p ++ c :: joinL c (q :: r)) = _
    rw [cutL_app _ (h p (.head _)), cutL_joinL (List.cons_ne_nil _ _) fun x hx => h x (.tail _ hx)]
theorem join2_le : ∀ (qs : List (List Nat)) (p : List Nat), (∀ q ∈ qs, q.length ≤ 2) → (joinL 32 (p :: qs)).length ≤ p.length + qs.length * 3
  | [], p, _ => Nat.le_refl _
  | q :: r, p, h => by
    have ih := join2_le r q fun x hx => h x (.tail _ hx)
    have h1 := h q (.head _)
    show (p ++ 32 :: joinL 32 (q :: r)).length ≤ _
    rw [List.length_append, List.length_cons, List.length_cons]
    omega
theorem joinN_le {k : Nat} : ∀ {ps : List (List Nat)}, (∀ p ∈ ps, p.length ≤ k) → (joinL 10 ps).length ≤ ps.length * (k + 1)
  | [], _ => Nat.zero_le _
  | [p], h => by
    have := h p (.head _)
    show p.length ≤ 1 * (k + 1)
    omega
  | p :: q :: r, h => by
    have ih := joinN_le (ps := q :: r) fun x hx => h x (.tail _ hx)
    have h1 := h p (.head _)
    show (p ++ 10 :: joinL 10 (q :: r)).length ≤ _
    rw [List.length_append, List.length_cons, List.length_cons (a := p), Nat.succ_mul]
    omega
theorem text_small {w : Works} (wf : WF 8 w) (h3 : w.outs.length ≤ 3) : TXk 160 (textW w) ∧ ∀ x ∈ cutL 10 (textW w).cps.toList, x.length ≤ 15 := by
  have wf2 : WF 20 w := ⟨wf.i1, wf.i6, by have := wf.few; omega, wf.legs, wf.o1, by have := wf.o3; omega, wf.outs⟩
  have few := wf.few
  have i6 := wf.i6
  have dg : ∀ n : Int, n < 100 → (digs n.toNat).length ≤ 2 := fun n hn => digs_len _ 2 (by omega) (by decide)
  have rl : ∀ (x : Str) (ns : List Int), (∀ n ∈ ns, n < 100) → (rowL ⟨x, ns⟩).length ≤ x.length + ns.length * 3 := fun x ns hn => by
    have := join2_le (ns.map fun n => digs n.toNat) x.cps.toList fun q hq => by
      obtain ⟨n, hm, rfl⟩ := List.mem_map.mp hq
      exact dg n (hn n hm)
    rw [List.length_map] at this
    have e : x.cps.toList.length = x.length := Array.length_toList
    rw [e] at this
    exact this
  have rows : ∀ p ∈ (rowsW w).map rowL, p.length ≤ 15 := fun p hp => by
    obtain ⟨f, hf, rfl⟩ := List.mem_map.mp hp
    rcases List.mem_cons.mp hf with rfl | hf
    · have := rl "in" [w.ins] fun n hn => by rw [List.mem_singleton.mp hn]; omega
      have e : (Str.ofString "in").length = 2 := by decide +kernel
      rw [e] at this
      exact Nat.le_trans this (by show 2 + 1 * 3 ≤ 15; decide)
    rcases List.mem_append.mp hf with hf | hf
    · obtain ⟨g, hg, rfl⟩ := List.mem_map.mp hf
      obtain ⟨k, hk⟩ := List.getElem?_of_mem hg
      obtain ⟨lk, lb⟩ := wf.legs k g hk
      have hkl := (List.getElem?_eq_some_iff.mp hk).1
      have := rl g.1 g.2 fun n hn => by have := lb n hn; omega
      have e1 : (Str.ofString "and").length = 3 := by decide +kernel
      have e2 : (Str.ofString "or").length = 2 := by decide +kernel
      have e3 : (Str.ofString "odd").length = 3 := by decide +kernel
      have e4 : (Str.ofString "not").length = 3 := by decide +kernel
      have e5 : (Str.ofString "choose").length = 6 := by decide +kernel
      have e6 : (Str.ofString "zero").length = 4 := by decide +kernel
      have e7 : (Str.ofString "one").length = 3 := by decide +kernel
      refine Nat.le_trans this ?_
      rcases lk with ⟨e | e | e, l⟩ | ⟨e, l⟩ | ⟨e, l⟩ | ⟨e | e, l⟩ <;> rw [e] <;> omega
    · rw [List.mem_singleton.mp hf]
      have := rl "out" w.outs fun n hn => by have := wf.outs n hn; omega
      have e : (Str.ofString "out").length = 3 := by decide +kernel
      rw [e] at this
      omega
  have ne : (rowsW w).map rowL ≠ [] := fun z => by cases z
  have et : (textW w).cps.toList = joinL 10 ((rowsW w).map rowL) := by
    show (joinL 10 ((rowsW w).map rowL)).toArray.toList = _
    simp
  refine ⟨⟨?_, fun c hc => ?_⟩, fun x hx => ?_⟩
  · have e : (textW w).length = (textW w).cps.toList.length := Array.length_toList.symm
    rw [e, et]
    have := joinN_le rows
    have l : ((rowsW w).map rowL).length ≤ 10 := by
      rw [List.length_map]
      show (gatesR w.gates ++ [(⟨"out", w.outs⟩ : Rwt)]).length + 1 ≤ 10
      unfold gatesR
      rw [List.length_append, List.length_map, List.length_singleton]
      omega
    omega
  · rw [et] at hc
    have key : ∀ (ps : List (List Nat)), (∀ p ∈ ps, ∀ c ∈ p, c < 128) → ∀ c ∈ joinL 10 ps, c < 128 := by
      intro ps
      induction ps with
      | nil => exact fun _ c h => (nomatch h)
      | cons p ps ih =>
        intro hp c hc
        cases ps with
        | nil => exact hp p (.head _) c hc
        | cons q r =>
          have hc' : c ∈ p ++ 10 :: joinL 10 (q :: r) := hc
          rcases List.mem_append.mp hc' with h | h
          · exact hp p (.head _) c h
          · rcases List.mem_cons.mp h with rfl | h
            · decide
            · exact ih (fun x hx => hp x (.tail _ hx)) c h
    refine key _ (fun p hp c hc => ?_) c hc
    obtain ⟨f, hf, rfl⟩ := List.mem_map.mp hp
    exact (row_clean (rows_ok wf2 f hf) c hc).2
  · rw [et, cutL_joinL ne (rowL_clean wf2)] at hx
    exact rows x hx
noncomputable def sp_spoW : Sp := fun vs H Q _ => ∃ (p : Addr) (n : Int) (z : Str) (k r : Nat), vs = [.ref p, .str z] ∧ H p = some (.lst [.int n]) ∧ TXk k z ∧ (∀ x ∈ cutL 10 z.cps.toList, x.length ≤ r) ∧ k ≤ 600 ∧ r ≤ 600 ∧
  ∀ (y : Str) (m : Int) (H' : Hp), TXk (k + r + 60) y → SameB p H H' → H' p = some (.lst [.int m]) → Q (.str y) H'
theorem told_uniq {z : Str} {b c : Works} (h : ToldT z b) (h2 : ToldT z c) : b = c := by
  obtain ⟨rs, e, i, gs, os, e1, _, rfl⟩ := h
  obtain ⟨rs2, e2, i2, gs2, os2, e3, _, rfl⟩ := h2
  rw [e] at e2
  have e4 := (Option.some.inj e2).symm.trans (e1)
  rw [e3] at e4
  obtain ⟨e5, e6⟩ := List.cons.inj e4
  have e7 : i2 = i := (List.cons.inj (Prod.mk.inj e5).2).1
  have e8 := List.append_inj' e6 rfl
  have e9 : os2 = os := (Prod.mk.inj (List.cons.inj e8.2).1).2
  rw [e7, e8.1, e9]
noncomputable def OutD (z : Str) (d : Dat) : Prop := ((¬ ∃ b, ToldT z b) ∧ d = .str "text") ∨ (∃ b, ToldT z b ∧ ¬ GoodW b ∧ d = .str "works") ∨ ∃ b, ToldT z b ∧ GoodW b ∧ d = worksD b
theorem good_ok {b : Works} (h : GoodW b) : PySem.W.kqdOk 8 (worksD b) = true := by
  show (true && ((b.gates.map gateD).all (PySem.W.kqdOk 6) && ((b.outs.map Dat.int).all (PySem.W.kqdOk 6) && true))) = true
  have e : (b.gates.map gateD).all (PySem.W.kqdOk 6) = true := List.all_eq_true.mpr fun d hd => by
    obtain ⟨g, hg, rfl⟩ := List.mem_map.mp hd
    obtain ⟨k, hk⟩ := List.getElem?_of_mem hg
    show (PyData.strOk g.1 && ((g.2.map Dat.int).all (PySem.W.kqdOk 4) && true)) = true
    rw [ok_kind (h.2.1 k g hk).1, ok_ints]
    rfl
  rw [e, ok_ints]
  rfl
theorem out_ex (z : Str) : ∃ d, OutD z d ∧ PySem.W.kqdOk 8 d = true := by
  by_cases h : ∃ b, ToldT z b
  · obtain ⟨b, tb⟩ := h
    by_cases g : GoodW b
    · exact ⟨_, .inr (.inr ⟨b, tb, g, rfl⟩), good_ok g⟩
    · exact ⟨_, .inr (.inl ⟨b, tb, g, rfl⟩), by decide +kernel⟩
  · exact ⟨_, .inl ⟨h, rfl⟩, by decide +kernel⟩
theorem out_use {K : PySem.W.Frag} {z : Str} {d : Dat} {H : Hp} {Q : VK} {E : XK} (tx : TX z) (hd : OutD z d) (k : ∀ (v : V) (H' : Hp), Same H H' → Rep K H' v d → Q v H') : sp_out K [.str z] H Q E := by
  refine ⟨z, rfl, tx, fun nt H' s => ?_, fun b tb nb H' s => ?_, fun b tb g r H' s rr => ?_⟩
  · rcases hd with ⟨_, rfl⟩ | ⟨b, tb, _⟩ | ⟨b, tb, _⟩
    · exact k _ _ s (.str _)
    · exact absurd ⟨b, tb⟩ nt
    · exact absurd ⟨b, tb⟩ nt
  · rcases hd with ⟨n, _⟩ | ⟨c, tc, _, rfl⟩ | ⟨c, tc, g, _⟩
    · exact absurd ⟨b, tb⟩ n
    · exact k _ _ s (.str _)
    · exact absurd (told_uniq tc tb ▸ g) nb
  · rcases hd with ⟨n, _⟩ | ⟨c, tc, nb, _⟩ | ⟨c, tc, _, rfl⟩
    · exact absurd ⟨b, tb⟩ n
    · exact absurd (told_uniq tb tc ▸ g) nb
    · rw [told_uniq tc tb] at k
      exact k _ _ s rr
noncomputable def menuW : List Str := ["", "in 1", "out 0", "in 1\nout", "in 0\nout 0", "in 1\nout 0", "in 1\nout 1", "in 1\nzero\nout 1", "in 1 1\nout 0", "in 2\nand 0 1\nout 2", "in 2\nand 0\nout 0", "in 2\nand 0 2\nout 0", "\n", "in 1\nand 0 0 0 0 0\nout 0", "in 1\nout 0\nout 0", "in 1\nin 1\nout 0", "in\nout 0", "in 1\n\nout 0", "in " ++ repS "9" (60 : Int).toNat ++ "\nout 7", "in 1\nout 0 0", "in 1\nchoose 0 0\nout 0"]
theorem menuW_tx : ∀ z ∈ menuW, TX z := by unfold TX; decide +kernel
section
variable {P : Program} {w : World} {K : PySem.W.Frag} {mg : Str → Option Value} {base : Heap} {t : Adr}
theorem sc_law_stir : FnScope ["cell", "k", "number"] ["cell", "k"] (defScope s_law_stir) := ⟨rfl, rfl, rfl, by decide +kernel, rfl, by decide +kernel, by decide +kernel⟩
theorem stir_1 (c k : Int) (hk : k = 1 ∨ k = 2 ∨ k = 3) : 0 ≤ c % 10 ^ 40 * 48271 + 3 ^ 60 * (k + 1) * (k + 1) + k ∧ c % 10 ^ 40 * 48271 + 3 ^ 60 * (k + 1) * (k + 1) + k < 10 ^ 46 := by
  rcases hk with rfl | rfl | rfl <;> omega
theorem stir_2 (n : Int) (h0 : 0 ≤ n) (h1 : n < 10 ^ 46) : 0 ≤ n * n + 69621 * n ∧ n * n + 69621 * n < 10 ^ 93 := by
  have a : 0 ≤ n * n := Int.mul_nonneg h0 h0
  have b : n * n ≤ 10 ^ 46 * 10 ^ 46 := Int.mul_le_mul (Int.le_of_lt h1) (Int.le_of_lt h1) h0 (by decide)
  omega
theorem bits46 {n : Int} (h : 0 ≤ n ∧ n < 10 ^ 46) : Builtin.Int.intBits n ≤ 2 ^ 20 := bits_of (k := 160) (by decide) (by omega) (by omega)
theorem bits93 {n : Int} (h : 0 ≤ n ∧ n < 10 ^ 93) : Builtin.Int.intBits n ≤ 2 ^ 20 := bits_of (k := 320) (by decide) (by omega) (by omega)
theorem bits62 {n : Int} (h : 0 ≤ n ∧ n < 10 ^ 62) : Builtin.Int.intBits n ≤ 2 ^ 20 := bits_of (k := 220) (by decide) (by omega) (by omega)
theorem bits130 {n : Int} (h : 0 ≤ n ∧ n < 10 ^ 130) : Builtin.Int.intBits n ≤ 2 ^ 20 := bits_of (k := 450) (by decide) (by omega) (by omega)
theorem eighth (x : Int) : 0 ≤ x % (10 ^ 61 + 7) / 8 ∧ x % (10 ^ 61 + 7) / 8 < 10 ^ 62 := by omega
theorem ok_law_stir (T : Txt K mg t) : FnOk P w K mg base CX0 1 t.f_law_stir t.fd_law_stir ["cell", "k"] sp_stir := by
  refine T.d_law_stir.F.okB sc_law_stir (fun vs H Q E h => ?_) (fun cdv A outer s H vs Q E hr h => ?_)
  · obtain ⟨c, k, rfl, _⟩ := h
    rfl
  obtain ⟨c, k, rfl, hk, q⟩ := h
  refine ⟨_, (bpss_cons (bps_set (k := 2) sc_law_stir.nd rfl (Or.inl rfl) (bpe_op op_add (bpe_op op_add (bpe_op op_mul (bpe_op op_mod (bpv 0) (bpe_op op_pow bpe_int bpe_int)) bpe_int) (bpe_op op_mul (bpe_op op_mul (bpe_op op_pow bpe_int bpe_int) (bpe_op op_add (bpv 1) bpe_int)) (bpe_op op_add (bpv 1) bpe_int))) (bpv 1)))
    (bpss_cons (bps_set (k := 2) sc_law_stir.nd rfl (Or.inl rfl) (bpe_op op_add (bpe_op op_mulB (bpv 2) (bpv 2)) (bpe_op op_mul bpe_int (bpv 2))))
    (bpss_one (bps_ret (bpe_op op_fdiv (bpe_op op_mod (bpe_op op_mulB (bpv 2) (bpv 2)) (bpe_op op_add (bpe_op op_pow bpe_int bpe_int) bpe_int)) bpe_int))))), ?_⟩
  have b1 := stir_1 c k hk
  have b2 := stir_2 _ b1.1 b1.2
  have hk2 : 0 ≤ k ∧ k ≤ 3 := by omega
  have pw : ∀ i j : Int, i.natAbs < 2 ^ 64 → 0 ≤ j → j ≤ 1000000 → CPow i j := fun i j a b c => ⟨b, c, a⟩
  refine ⟨_, rfl, _, _, rfl, rfl, pw _ _ (by decide) (by decide) (by decide), _, _, rfl, rfl, (by show (0 : Int) < 10 ^ 40; decide), _, _, rfl, rfl, .inr ⟨by decide, by decide⟩,
    _, _, rfl, rfl, pw _ _ (by decide) (by decide) (by decide), _, rfl, _, _, rfl, rfl, _, _, rfl, rfl, .inr ⟨by omega, by omega⟩, _, rfl, _, _, rfl, rfl, _, _, rfl, rfl, .inr ⟨by omega, by omega⟩,
    _, _, rfl, rfl, _, rfl, _, _, rfl, rfl, ?_⟩
  refine ⟨_, rfl, _, rfl, _, _, rfl, rfl, ⟨bits46 b1, bits46 b1⟩, _, rfl, _, _, rfl, rfl, .inl ⟨by decide, by decide⟩, _, _, rfl, rfl, ?_⟩
  refine ⟨_, rfl, _, rfl, _, _, rfl, rfl, ⟨bits93 b2, bits93 b2⟩,
    _, _, rfl, rfl, pw _ _ (by decide) (by decide) (by decide), _, _, rfl, rfl, _, _, rfl, rfl, (by show (0 : Int) < 10 ^ 61 + 7; decide), _, _, rfl, rfl, ⟨by decide, by decide⟩, ?_⟩
  exact q _ (eighth _).1 (eighth _).2
theorem sc_law_deck : FnScope ["cell"] ["cell"] (defScope s_law_deck) := ⟨rfl, rfl, rfl, by decide +kernel, rfl, by decide +kernel, by decide +kernel⟩
theorem ok_law_deck (T : Txt K mg t) : FnOk P w K mg base CX0 2 t.f_law_deck t.fd_law_deck ["cell"] sp_deck := by
  refine T.d_law_deck.F.okB sc_law_deck (fun vs H Q E h => ?_) (fun cdv A outer s H vs Q E hr h => ?_)
  · obtain ⟨c, rfl, _⟩ := h
    rfl
  obtain ⟨c, rfl, q⟩ := h
  refine ⟨_, (bpss_cons (bps_if (bpt_cmpR op_ge (bpv 0) (bpe_op op_pow bpe_int bpe_int) (nomark _)) (bpss_one (bps_ret (bpe_lst (bpa_cons (bpe_op op_sub (bpv 0) (bpe_op op_pow bpe_int bpe_int)) (bpa_nil))))) bpss_nil)
    (bpss_one (bps_ret (bpe_lst (bpa_cons (bpe_op op_add (bpe_op op_mulB (bpe_op op_add (bpe_op op_mulB (bpe_call (ok_law_stir T) (hr.mono (by decide)) rfl T.d_law_stir.m T.d_law_stir.F.kp T.d_law_stir.b .nil pass0 (bpa_cons (bpv 0) ( bpa_cons bpe_int (bpa_nil)))) (bpe_op op_pow bpe_int bpe_int)) (bpe_call (ok_law_stir T) (hr.mono (by decide)) rfl T.d_law_stir.m T.d_law_stir.F.kp T.d_law_stir.b .nil pass0 (bpa_cons (bpv 0) ( bpa_cons bpe_int (bpa_nil))))) (bpe_op op_pow bpe_int bpe_int)) (bpe_call (ok_law_stir T) (hr.mono (by decide)) rfl T.d_law_stir.m T.d_law_stir.F.kp T.d_law_stir.b .nil pass0 (bpa_cons (bpv 0) ( bpa_cons bpe_int (bpa_nil))))) (bpa_nil)))))), ?_⟩
  have pw : ∀ i j : Int, i.natAbs < 2 ^ 64 → 0 ≤ j → j ≤ 1000000 → CPow i j := fun i j a b c => ⟨b, c, a⟩
  refine ⟨_, rfl, _, _, rfl, rfl, pw _ _ (by decide) (by decide) (by decide), _, _, rfl, rfl, _, rfl, ite2 (fun _ => ?_) (fun _ => ?_)⟩
  · exact ⟨_, rfl, _, _, rfl, rfl, pw _ _ (by decide) (by decide) (by decide), _, _, rfl, rfl, (by show 1 ≤ sizeLine; decide), fun p hp => q p _ hp⟩
  · have b60 : Builtin.Int.intBits ((10 : Int) ^ (60 : Int).toNat) ≤ 2 ^ 20 := bits62 (n := 10 ^ 60) (by decide)
    refine ⟨_, rfl, c, 1, rfl, .inl rfl, fun r1 a1 b1 => ?_⟩
    refine ⟨_, _, rfl, rfl, pw _ _ (by decide) (by decide) (by decide), _, _, rfl, rfl, ⟨bits62 ⟨a1, b1⟩, b60⟩, _, rfl, c, 2, rfl, .inr (.inl rfl), fun r2 a2 b2 => ?_⟩
    have m1 : 0 ≤ r1 * 10 ^ 60 + r2 ∧ r1 * 10 ^ 60 + r2 < 10 ^ 130 := by omega
    refine ⟨_, _, rfl, rfl, _, _, rfl, rfl, pw _ _ (by decide) (by decide) (by decide), _, _, rfl, rfl, ⟨bits130 m1, b60⟩, _, rfl, c, 3, rfl, .inr (.inr rfl), fun r3 a3 b3 => ?_⟩
    exact ⟨_, _, rfl, rfl, (by show 1 ≤ sizeLine; decide), fun p hp => q p _ hp⟩
theorem sc_law_take : FnScope ["deck", "many", "taken"] ["deck", "many"] (defScope s_law_take) := ⟨rfl, rfl, rfl, by decide +kernel, rfl, by decide +kernel, by decide +kernel⟩
theorem ok_law_take (T : Txt K mg t) : FnOk P w K mg base CX0 1 t.f_law_take t.fd_law_take ["deck", "many"] sp_take := by
  refine T.d_law_take.F.okB sc_law_take (fun vs H Q E h => ?_) (fun cdv A outer s H vs Q E hr h => ?_)
  · obtain ⟨p, n, m, rfl, _⟩ := h
    rfl
  obtain ⟨p, n, m, rfl, hp, m0, m1, q⟩ := h
  refine ⟨_, (bpss_cons (bps_set (k := 2) sc_law_take.nd rfl (Or.inl rfl) (bpe_op op_mod (bpe_ix ix_list (bpv 0) bpe_int (fun _ _ => rfl)) (bpv 1)))
    (bpss_cons (bps_asg (bpe_op op_fdiv (bpe_ix ix_list (bpv 0) bpe_int (fun _ _ => rfl)) (bpv 1)) (bpg_sub (bpv 0) bpe_int set_list))
    (bpss_one (bps_ret (bpv 2))))), ?_⟩
  refine ⟨_, rfl, p, _, _, _, rfl, rfl, .of hp, rfl, _, rfl, _, _, rfl, rfl, m0, ?_⟩
  refine ⟨_, rfl, p, _, _, _, rfl, rfl, .of hp, rfl, _, rfl, _, _, rfl, rfl, ⟨m0, m1⟩, _, rfl, p, _, _, _, rfl, rfl, hp, rfl, ?_⟩
  exact ⟨_, rfl, q _ _ (Int.emod_nonneg _ (Int.ne_of_gt m0)) (Int.emod_lt_of_pos _ m0)⟩
theorem sc_law_legs : FnScope ["deck", "kind"] ["deck", "kind"] (defScope s_law_legs) := ⟨rfl, rfl, rfl, by decide +kernel, rfl, by decide +kernel, by decide +kernel⟩
theorem ok_law_legs (T : Txt K mg t) : FnOk P w K mg base CX0 2 t.f_law_legs t.fd_law_legs ["deck", "kind"] sp_legs := by
  refine T.d_law_legs.F.okB sc_law_legs (fun vs H Q E h => ?_) (fun cdv A outer s H vs Q E hr h => ?_)
  · obtain ⟨p, n, x, rfl, _⟩ := h
    rfl
  obtain ⟨p, n, x, rfl, hp, hk, q⟩ := h
  have hu1 := hu_of hr
  refine ⟨_, (bpss_cons (bps_if (bpt_cmpR op_in_seq (bpv 1) (bpe_tup (bpa_cons bpe_str ( bpa_cons bpe_str ( bpa_cons bpe_str (bpa_nil))))) rfl) (bpss_one (bps_ret (bpe_op op_add bpe_int (bpe_call (ok_law_take T) (hr.mono (by decide)) rfl T.d_law_take.m T.d_law_take.F.kp T.d_law_take.b .nil pass0 (bpa_cons (bpv 0) ( bpa_cons bpe_int (bpa_nil))))))) bpss_nil)
    (bpss_one (bps_ret (bpe_dget hu1 (bpe_disp (bpps_cons bpe_str bpe_int (bpps_cons bpe_str bpe_int (bpps_cons bpe_str bpe_int (bpps_cons bpe_str bpe_int bpps_nil)))) rfl rfl (by simp) (by decide)) (bpv 1) (fun _ _ => rfl))))), ?_⟩
  refine ⟨_, rfl, (by show 3 ≤ sizeLine; decide), fun T1 h1 => ⟨T1, _, rfl, .inr (.of upd_same), rfl, rfl, _, rfl, ?_⟩⟩
  have p1 : p ≠ T1 := ne_of_none hp h1
  have hp1 : ∀ o, (upd H T1 o) p = some (.lst [.int n]) := fun o => by rw [upd_ne p1]; exact hp
  have sb : ∀ o, SameB p H (upd H T1 o) := fun o => (same_upd h1 o).b p
  have d1 : ∀ (k : Key) (v : V) (m : Nat), legsOk x m → v = .int m → V.str x = kV k → valV (mergeK [] [(Sum.inr "not", .int 1), (Sum.inr "choose", .int 3), (Sum.inr "zero", .int 0), (Sum.inr "one", .int 0)]) k = some v →
      ∀ d, (upd H T1 (.tup [.str "and", .str "or", .str "odd"])) d = none → DGet (upd (upd (upd H T1 (.tup [.str "and", .str "or", .str "odd"])) d (.dK [])) d (.dK (mergeK [] [(Sum.inr "not", .int 1), (Sum.inr "choose", .int 3), (Sum.inr "zero", .int 0), (Sum.inr "one", .int 0)]))) d (.str x) (some v) ∧
        Q v (upd (upd (upd H T1 (.tup [.str "and", .str "or", .str "odd"])) d (.dK [])) d (.dK (mergeK [] [(Sum.inr "not", .int 1), (Sum.inr "choose", .int 3), (Sum.inr "zero", .int 0), (Sum.inr "one", .int 0)]))) := fun k v m hm ev ek hv d hd => by
    have hd0 : H d = none := (same_upd h1 _).free hd
    have pd : p ≠ d := ne_of_none hp hd0
    refine ⟨by rw [ek, ← hv]; exact DGet.k upd_same, ?_⟩
    rw [ev]
    exact q m n _ hm ((((same_upd h1 _).upd hd _).write hd0 _).b p) (by rw [upd_ne pd, upd_ne pd]; exact hp1 _)
  have yes : ∀ r n' : Int, (x = "and" ∨ x = "or" ∨ x = "odd") → 0 ≤ r → r < 3 → Q (.int (2 + r)) (upd (upd H T1 (.tup [.str "and", .str "or", .str "odd"])) p (.lst [.int n'])) := fun r n' hx a b => by
    have e : (((2 + r).toNat : Nat) : Int) = 2 + r := by omega
    have z := q (2 + r).toNat n' (upd (upd H T1 (.tup [.str "and", .str "or", .str "odd"])) p (.lst [.int n'])) (.inl ⟨hx, by omega, by omega⟩) ((sb _).write _) upd_same
    rw [e] at z
    exact z
  rcases hk with rfl | rfl | rfl | rfl | rfl | rfl | rfl
  all_goals dsimp only
  · rw [if_pos (by decide +kernel)]
    refine ⟨_, rfl, p, n, 3, rfl, hp1 _, by decide, by decide, fun r n' a b => ⟨_, _, rfl, rfl, ?_⟩⟩
    exact yes r n' (.inl rfl) a b
  · rw [if_pos (by decide +kernel)]
    refine ⟨_, rfl, p, n, 3, rfl, hp1 _, by decide, by decide, fun r n' a b => ⟨_, _, rfl, rfl, ?_⟩⟩
    exact yes r n' (.inr (.inl rfl)) a b
  · rw [if_pos (by decide +kernel)]
    refine ⟨_, rfl, p, n, 3, rfl, hp1 _, by decide, by decide, fun r n' a b => ⟨_, _, rfl, rfl, ?_⟩⟩
    exact yes r n' (.inr (.inr rfl)) a b
  · rw [if_neg (by decide +kernel)]
    intro d hd
    refine ⟨upd_same, [(Sum.inr "not", .int 1), (Sum.inr "choose", .int 3), (Sum.inr "zero", .int 0), (Sum.inr "one", .int 0)], rfl, by decide, _, rfl, d, .int 1, rfl, ?_⟩
    exact d1 (Sum.inr "not") (.int 1) 1 (.inr (.inl ⟨rfl, rfl⟩)) rfl rfl (by decide +kernel) d hd
  · rw [if_neg (by decide +kernel)]
    intro d hd
    refine ⟨upd_same, [(Sum.inr "not", .int 1), (Sum.inr "choose", .int 3), (Sum.inr "zero", .int 0), (Sum.inr "one", .int 0)], rfl, by decide, _, rfl, d, .int 3, rfl, ?_⟩
    exact d1 (Sum.inr "choose") (.int 3) 3 (.inr (.inr (.inl ⟨rfl, rfl⟩))) rfl rfl (by decide +kernel) d hd
  · rw [if_neg (by decide +kernel)]
    intro d hd
    refine ⟨upd_same, [(Sum.inr "not", .int 1), (Sum.inr "choose", .int 3), (Sum.inr "zero", .int 0), (Sum.inr "one", .int 0)], rfl, by decide, _, rfl, d, .int 0, rfl, ?_⟩
    exact d1 (Sum.inr "zero") (.int 0) 0 (.inr (.inr (.inr ⟨.inl rfl, rfl⟩))) rfl rfl (by decide +kernel) d hd
  · rw [if_neg (by decide +kernel)]
    intro d hd
    refine ⟨upd_same, [(Sum.inr "not", .int 1), (Sum.inr "choose", .int 3), (Sum.inr "zero", .int 0), (Sum.inr "one", .int 0)], rfl, by decide, _, rfl, d, .int 0, rfl, ?_⟩
    exact d1 (Sum.inr "one") (.int 0) 0 (.inr (.inr (.inr ⟨.inr rfl, rfl⟩))) rfl rfl (by decide +kernel) d hd
theorem sc_law_works : FnScope ["deck", "most", "inputs", "gates", "k", "outputs", "kind", "legs", "place"] ["deck", "most"] (defScope s_law_works) := ⟨rfl, rfl, rfl, by decide +kernel, rfl, by decide +kernel, by decide +kernel⟩
structure WI (K : PySem.W.Frag) (H0 : Hp) (p g : Addr) (M : List Addr) (gs : List (Str × List Int)) (H : Hp) : Prop where
  deck : ∃ n, H p = some (.lst [.int n])
  same : SameB p H0 H
  ex : ∃ G xs, Same G H ∧ G p = none ∧ G g = none ∧ (∀ m ∈ M, G m = none) ∧ (∀ b o, G b = some o → H0 b = none) ∧ Reps K G xs (gs.map gateD) ∧ H g = some (.lst xs)
  pg : p ≠ g
  g0 : H0 g = none
  ms : ∀ m ∈ M, m ≠ p ∧ m ≠ g ∧ H0 m = none
theorem WI.take {H0 H : Hp} {p g : Addr} {M : List Addr} {gs : List (Str × List Int)} (W : WI K H0 p g M gs H) (n : Int) : WI K H0 p g M gs (upd H p (.lst [.int n])) := by
  obtain ⟨G, xs, a, b, c, d, e, f, h⟩ := W.ex
  exact ⟨⟨n, upd_same⟩, W.same.write _, ⟨G, xs, a.write b _, b, c, d, e, f, by rw [upd_ne (Ne.symm W.pg)]; exact h⟩, W.pg, W.g0, W.ms⟩
theorem WI.sb {H0 H H' : Hp} {p g : Addr} {M : List Addr} {gs : List (Str × List Int)} (W : WI K H0 p g M gs H) (s : SameB p H H') {n : Int} (e : H' p = some (.lst [.int n])) : WI K H0 p g M gs H' := by
  obtain ⟨G, xs, a, b, c, d, e', f, h⟩ := W.ex
  exact ⟨⟨n, e⟩, W.same.trans s, ⟨G, xs, s.same a b, b, c, d, e', f, s _ _ (Ne.symm W.pg) h⟩, W.pg, W.g0, W.ms⟩
theorem WI.new {H0 H : Hp} {p g T : Addr} {M : List Addr} {gs : List (Str × List Int)} (W : WI K H0 p g M gs H) (h : H T = none) (o : HO) : WI K H0 p g M gs (upd H T o) := by
  obtain ⟨n, e⟩ := W.deck
  exact W.sb ((same_upd h o).b p) (n := n) (by rw [upd_ne (ne_of_none e h)]; exact e)
theorem WI.open {H0 H : Hp} {p g l : Addr} {M : List Addr} {gs : List (Str × List Int)} (W : WI K H0 p g M gs H) (h : H l = none) : WI K H0 p g (l :: M) gs (upd H l (.lst [])) := by
  have W' := W.new h (.lst [])
  obtain ⟨n, e⟩ := W.deck
  obtain ⟨G, xs, a, b, c, d, e', f, h'⟩ := W.ex
  have lp : l ≠ p := Ne.symm (ne_of_none e h)
  refine ⟨W'.deck, W'.same, ⟨G, xs, a.upd h _, b, c, fun m hm => ?_, e', f, by rw [upd_ne (ne_of_none h' h)]; exact h'⟩, W.pg, W.g0, fun m hm => ?_⟩
  · rcases List.mem_cons.mp hm with rfl | hm
    · exact a.free h
    · exact d m hm
  · rcases List.mem_cons.mp hm with rfl | hm
    · refine ⟨lp, Ne.symm (ne_of_none h' h), ?_⟩
      cases z : H0 m with
      | none => rfl
      | some u => rw [W.same m u lp z] at h; cases h
    · exact W.ms m hm
theorem WI.put {H0 H : Hp} {p g l : Addr} {M : List Addr} {gs : List (Str × List Int)} (W : WI K H0 p g M gs H) (h : l ∈ M) (o : HO) : WI K H0 p g M gs (upd H l o) := by
  obtain ⟨n, e⟩ := W.deck
  obtain ⟨G, xs, a, b, c, d, e', f, h'⟩ := W.ex
  obtain ⟨m1, m2, m3⟩ := W.ms l h
  refine ⟨⟨n, by rw [upd_ne (Ne.symm m1)]; exact e⟩, fun x u nx q => ?_, ⟨G, xs, a.write (d l h) o, b, c, d, e', f, by rw [upd_ne (Ne.symm m2)]; exact h'⟩, W.pg, W.g0, W.ms⟩
  rw [upd_ne (ne_of_none q m3)]
  exact W.same x u nx q
theorem WI.drop {H0 H : Hp} {p g l : Addr} {M : List Addr} {gs : List (Str × List Int)} (W : WI K H0 p g (l :: M) gs H) : WI K H0 p g M gs H := by
  obtain ⟨G, xs, a, b, c, d, e', f, h'⟩ := W.ex
  exact ⟨W.deck, W.same, ⟨G, xs, a, b, c, fun m hm => d m (.tail _ hm), e', f, h'⟩, W.pg, W.g0, fun m hm => W.ms m (.tail _ hm)⟩
theorem WI.push {H0 H : Hp} {p g T1 T2 : Addr} {gs : List (Str × List Int)} {xs : List V} {x : Str} {ls : List Int} (W : WI K H0 p g [] gs H) (hx : H g = some (.lst xs)) (h1 : H T1 = none)
    (h2 : (upd H T1 (.tup (ls.map V.int))) T2 = none) :
    WI K H0 p g [] (gs ++ [(x, ls)]) (upd (upd (upd H T1 (.tup (ls.map V.int))) T2 (.tup [.str x, .ref T1])) g (.lst (xs ++ [.ref T2]))) := by
  have W1 := (W.new h1 (.tup (ls.map V.int))).new h2 (.tup [.str x, .ref T1])
  obtain ⟨n, e⟩ := W1.deck
  obtain ⟨m, em⟩ := W.deck
  obtain ⟨G, ys, a, b, c, d, e', f, h'⟩ := W.ex
  rw [hx] at h'
  cases h'
  have s1 : Same G (upd G T1 (.tup (ls.map V.int))) := same_upd (a.free h1) _
  have k1 : Same (upd G T1 (.tup (ls.map V.int))) (upd H T1 (.tup (ls.map V.int))) := fun z u q => by
    by_cases ez : z = T1
    · subst ez; rw [upd_same] at q ⊢; exact q
    · rw [upd_ne ez] at q ⊢; exact a z u q
  have n2 : (upd G T1 (.tup (ls.map V.int))) T2 = none := k1.free h2
  have s2 : Same (upd G T1 (.tup (ls.map V.int))) (upd (upd G T1 (.tup (ls.map V.int))) T2 (.tup [.str x, .ref T1])) := same_upd n2 _
  have k2 : Same (upd (upd G T1 (.tup (ls.map V.int))) T2 (.tup [.str x, .ref T1])) (upd (upd H T1 (.tup (ls.map V.int))) T2 (.tup [.str x, .ref T1])) := fun z u q => by
    by_cases ez : z = T2
    · subst ez; rw [upd_same] at q ⊢; exact q
    · rw [upd_ne ez] at q ⊢; exact k1 z u q
  have gT1 : g ≠ T1 := ne_of_none hx h1
  have gT2 : g ≠ T2 := ne_of_none (show (upd H T1 (.tup (ls.map V.int))) g = some (.lst xs) by rw [upd_ne gT1]; exact hx) h2
  have pT1 : p ≠ T1 := ne_of_none em h1
  have pT2 : p ≠ T2 := ne_of_none (show (upd H T1 (.tup (ls.map V.int))) p = some (.lst [.int m]) by rw [upd_ne pT1]; exact em) h2
  have gG : (upd (upd G T1 (.tup (ls.map V.int))) T2 (.tup [.str x, .ref T1])) g = none := by rw [upd_ne gT2, upd_ne gT1]; exact c
  have f1 : H0 T1 = none := by
    cases z : H0 T1 with
    | none => rfl
    | some u => rw [W.same T1 u (Ne.symm pT1) z] at h1; cases h1
  have f2 : H0 T2 = none := by
    cases z : H0 T2 with
    | none => rfl
    | some u => rw [(W.new h1 _).same T2 u (Ne.symm pT2) z] at h2; cases h2
  refine ⟨⟨n, by rw [upd_ne W.pg]; exact e⟩, fun z u nz q => ?_, ⟨_, xs ++ [.ref T2], k2.write gG _, by rw [upd_ne pT2, upd_ne pT1]; exact b, gG, (fun m hm => nomatch hm), fun z u q => ?_, ?_, upd_same⟩, W.pg, W.g0, W.ms⟩
  · rw [upd_ne (ne_of_none q W.g0)]
    exact W1.same z u nz q
  · by_cases ez : z = T2
    · rw [ez]; exact f2
    · rw [upd_ne ez] at q
      by_cases ez1 : z = T1
      · rw [ez1]; exact f1
      · rw [upd_ne ez1] at q
        exact e' z u q
  · rw [List.map_append]
    exact ((f.mono s1).mono s2).snoc (.tup (.of upd_same) (.cons (.str x) (.cons ((Rep.tup (.of upd_same) (Reps.ints ls)).mono s2) .nil)))
theorem kinds_at {c : Int} (h0 : 0 ≤ c) (h1 : c < 9) : ∃ x, atI [V.str "and", V.str "or", V.str "odd", V.str "not", V.str "choose", V.str "zero", V.str "one", V.str "and", V.str "odd"] c = some (.str x) ∧ isKind x := by
  have : c = 0 ∨ c = 1 ∨ c = 2 ∨ c = 3 ∨ c = 4 ∨ c = 5 ∨ c = 6 ∨ c = 7 ∨ c = 8 := by omega
  rcases this with rfl | rfl | rfl | rfl | rfl | rfl | rfl | rfl | rfl
  · exact ⟨_, rfl, .inl rfl⟩
  · exact ⟨_, rfl, .inr (.inl rfl)⟩
  · exact ⟨_, rfl, .inr (.inr (.inl rfl))⟩
  · exact ⟨_, rfl, .inr (.inr (.inr (.inl rfl)))⟩
  · exact ⟨_, rfl, .inr (.inr (.inr (.inr (.inl rfl))))⟩
  · exact ⟨_, rfl, .inr (.inr (.inr (.inr (.inr (.inl rfl)))))⟩
  · exact ⟨_, rfl, .inr (.inr (.inr (.inr (.inr (.inr rfl)))))⟩
  · exact ⟨_, rfl, .inl rfl⟩
  · exact ⟨_, rfl, .inr (.inr (.inl rfl))⟩
theorem ok_law_works (T : Txt K mg t) : FnOk P w K mg base CX0 3 t.f_law_works t.fd_law_works ["deck", "most"] (sp_works K) := by
  refine T.d_law_works.F.okB sc_law_works (fun vs H Q E h => ?_) (fun cdv A outer s H vs Q E hr h => ?_)
  · obtain ⟨p, n, most, rfl, _⟩ := h
    rfl
  obtain ⟨p, n, most, rfl, hp, hm, q⟩ := h
  refine ⟨_, (bpss_cons (bps_set (k := 2) sc_law_works.nd rfl (Or.inr rfl) (bpe_op op_add bpe_int (bpe_call (ok_law_take T) (hr.mono (by decide)) rfl T.d_law_take.m T.d_law_take.F.kp T.d_law_take.b .nil pass0 (bpa_cons (bpv 0) ( bpa_cons bpe_int (bpa_nil))))))
    (bpss_cons (bps_set (k := 3) sc_law_works.nd rfl (Or.inr rfl) (bpe_lst bpa_nil))
    (bpss_cons (bps_for PassesOwn.never rfl (bpi_range1 rfl T.z_range (bpa_cons (bpe_call (ok_law_take T) (hr.mono (by decide)) rfl T.d_law_take.m T.d_law_take.F.kp T.d_law_take.b .nil pass0 (bpa_cons (bpv 0) ( bpa_cons (bpe_op op_add (bpv 1) bpe_int) (bpa_nil)))) (bpa_nil))) (bpg_name (k := 4) sc_law_works.nd rfl (Or.inl rfl)) (bpss_cons (bps_set (k := 6) sc_law_works.nd rfl (Or.inl rfl) (bpe_ix ix_list (bpe_lst (bpa_cons bpe_str ( bpa_cons bpe_str ( bpa_cons bpe_str ( bpa_cons bpe_str ( bpa_cons bpe_str ( bpa_cons bpe_str ( bpa_cons bpe_str ( bpa_cons bpe_str ( bpa_cons bpe_str (bpa_nil))))))))))) (bpe_call (ok_law_take T) (hr.mono (by decide)) rfl T.d_law_take.m T.d_law_take.F.kp T.d_law_take.b .nil pass0 (bpa_cons (bpv 0) ( bpa_cons bpe_int (bpa_nil)))) (fun _ _ => rfl)))
    (bpss_cons (bps_set (k := 7) sc_law_works.nd rfl (Or.inl rfl) (bpe_lst bpa_nil))
    (bpss_cons (bps_for PassesOwn.never rfl (bpi_range1 rfl T.z_range (bpa_cons (bpe_call (ok_law_legs T) (hr.mono (by decide)) rfl T.d_law_legs.m T.d_law_legs.F.kp T.d_law_legs.b .nil pass0 (bpa_cons (bpv 0) ( bpa_cons (bpv 6) (bpa_nil)))) (bpa_nil))) (bpg_name (k := 8) sc_law_works.nd rfl (Or.inl rfl)) (bpss_one (bps_expr (bpe_bm PySem.F.plainAttrs_list PySem.F.slot_list_append PySem.F.type_list_append mt_append (bpv 7) (bpa_cons (bpe_call (ok_law_take T) (hr.mono (by decide)) rfl T.d_law_take.m T.d_law_take.F.kp T.d_law_take.b .nil pass0 (bpa_cons (bpv 0) ( bpa_cons (bpe_op op_add (bpv 2) (bpv 4)) (bpa_nil)))) (bpa_nil))))))
    (bpss_one (bps_expr (bpe_bm PySem.F.plainAttrs_list PySem.F.slot_list_append PySem.F.type_list_append mt_append (bpv 3) (bpa_cons (bpe_tup (bpa_cons (bpv 6) ( bpa_cons (bpe_callTy call_tuple_of rfl T.z_tuple PyProof.Rows.boot_tuple (bpa_cons (bpv 7) (bpa_nil))) (bpa_nil)))) (bpa_nil)))))))))
    (bpss_cons (bps_setC (k := 5) rfl (N := ["k", "deck", "inputs", "gates"]) (n := 1) (cap := [0, 2, 3]) (blk_of rfl rfl) sc_law_works.nd rfl rfl (bpi_range1 rfl T.z_range (bpa_cons (bpe_op op_add bpe_int (bpe_call (ok_law_take T) (hr.mono (by decide)) rfl T.d_law_take.m T.d_law_take.F.kp T.d_law_take.b .nil pass0 (bpa_cons (bpv 0) ( bpa_cons bpe_int (bpa_nil))))) (bpa_nil))) (keep_name (by decide)) (fun _ _ _ _ => (bpg_name (k := 0) (show (["k", "deck", "inputs", "gates"] : List Str).Nodup by decide +kernel) rfl (Or.inl rfl))) (fun _ _ _ _ => bpts_nil) (fun _ _ _ _ => (bpe_call (ok_law_take T) (hr.mono (by decide)) rfl T.d_law_take.m T.d_law_take.F.kp T.d_law_take.b .nil pass0 (bpa_cons (bpv 1) ( bpa_cons (bpe_op op_add (bpv 2) (bpe_callB (call_len_seqK (K := K)) rfl T.z_len PySem.boot_len (bpa_cons (bpv 3) (bpa_nil)))) (bpa_nil))))) rfl)
    (bpss_one (bps_ret (bpe_tup (bpa_cons (bpv 2) ( bpa_cons (bpv 3) ( bpa_cons (bpv 5) (bpa_nil))))))))))), ?_⟩
  refine ⟨_, rfl, p, n, 6, rfl, hp, by decide, by decide, fun r n1 a1 b1 => ⟨_, _, rfl, rfl, ?_⟩⟩
  refine ⟨(by show 0 ≤ sizeLine; decide), fun g hg => ?_⟩
  have pg : p ≠ g := ne_of_none upd_same hg
  have hg0 : H g = none := by rw [upd_ne (Ne.symm pg)] at hg; exact hg
  have W0 : WI K H p g [] [] (upd (upd H p (.lst [.int n1])) g (.lst [])) := by
    refine ⟨⟨n1, by rw [upd_ne pg, upd_same]⟩, fun z u nz q => ?_, ⟨fun _ => none, [], (fun _ _ z => nomatch z), rfl, rfl, (fun _ _ => rfl), (fun _ _ z => nomatch z), .nil, upd_same⟩, pg, hg0, fun _ z => nomatch z⟩
    rw [upd_ne (ne_of_none q hg0), upd_ne nz]
    exact q
  generalize (upd (upd H p (.lst [.int n1])) g (.lst [])) = H1 at W0
  obtain ⟨n2, e2⟩ := W0.deck
  refine ⟨_, rfl, _, rfl, _, _, rfl, rfl, p, n2, _, rfl, e2, by omega, by omega, fun c n3 a3 b3 => ⟨_, rfl, by omega, by omega, ?_⟩⟩
  have W1 := W0.take n3
  refine for_range (fun i σ H2 => ∃ (gs : List (Str × List Int)) (o4 o5 o6 o7 o8 : Option V), σ = [some (.ref p), some (.int most), some (.int (1 + r)), some (.ref g), o4, o5, o6, o7, o8] ∧ gs.length = i ∧
      (∀ (k : Nat) g, gs[k]? = some g → legsOk g.1 g.2.length ∧ ∀ l ∈ g.2, 0 ≤ l ∧ l < 1 + r + k) ∧ WI K H p g [] gs H2)
    ⟨[], _, _, _, _, _, rfl, rfl, (fun k g e => by simp at e), W1⟩ ?_ ?_
  · rintro i σ H2 hi ⟨gs, o4, o5, o6, o7, o8, rfl, lgs, ok, W⟩
    rw [Int.zero_add]
    refine ⟨(by show 9 ≤ sizeLine; decide), fun T1 h1 => ?_⟩
    have W2 := W.new h1 (.lst [.str "and", .str "or", .str "odd", .str "not", .str "choose", .str "zero", .str "one", .str "and", .str "odd"])
    obtain ⟨n4, e4⟩ := id W2.deck
    refine ⟨_, rfl, p, n4, 9, rfl, e4, by decide, by decide, fun c n5 a5 b5 => ?_⟩
    obtain ⟨x, hx, kx⟩ := kinds_at a5 b5
    have W3 := W2.take n5
    have pT : T1 ≠ p := by
      rintro rfl
      rw [upd_same] at e4
      cases e4
    refine ⟨T1, _, _, .str x, rfl, rfl, .of (by rw [upd_ne pT, upd_same]), hx, ?_⟩
    refine ⟨(by show 0 ≤ sizeLine; decide), fun l hl => ?_⟩
    have W4 := W3.open hl
    generalize (upd (upd H2 T1 (.lst [.str "and", .str "or", .str "odd", .str "not", .str "choose", .str "zero", .str "one", .str "and", .str "odd"])) p (.lst [.int n5])) = H3 at hl W3 W4
    obtain ⟨n6, e6⟩ := id W4.deck
    refine ⟨_, rfl, _, rfl, p, n6, x, rfl, e6, kx, fun m n7 H4 lk sb e7 => ⟨_, rfl, by omega, (by have := lk.le; omega), ?_⟩⟩
    have W5 := W4.sb sb e7
    have lp : l ≠ p := (W4.ms l (.head _)).1
    have hl4 : H4 l = some (.lst []) := sb l _ lp upd_same
    have lk4 := lk.le
    refine for_range (fun j σ H5 => ∃ (ls : List Int) (o8 : Option V), σ = [some (.ref p), some (.int most), some (.int (1 + r)), some (.ref g), some (.int i), o5, some (.str x), some (.ref l), o8] ∧ ls.length = j ∧
        (∀ z ∈ ls, 0 ≤ z ∧ z < 1 + r + i) ∧ H5 l = some (.lst (ls.map V.int)) ∧ WI K H p g [l] gs H5)
      ⟨[], _, rfl, rfl, (fun _ z => nomatch z), hl4, W5⟩ ?_ ?_
    · rintro j σ H5 hj ⟨ls, o8, rfl, lls, bl, hl5, W6⟩
      obtain ⟨n8, e8⟩ := id W6.deck
      refine ⟨_, rfl, .inl ⟨rfl, _, .of hl5⟩, _, rfl, _, rfl, _, rfl, _, _, rfl, rfl, p, n8, _, rfl, e8, by omega, by omega, fun c n9 a9 b9 => ?_⟩
      have W7 := W6.take n9
      refine ⟨l, ls.map V.int, .int c, rfl, rfl, by rw [upd_ne lp]; exact hl5, big (by rw [List.length_map]; omega), ls ++ [c], _, rfl, by simp [lls], fun z hz => ?_, ?_, W7.put (.head _) _⟩
      · rcases List.mem_append.mp hz with hz | hz
        · exact bl z hz
        · rw [List.mem_singleton.mp hz]
          exact ⟨a9, b9⟩
      · rw [upd_same, List.map_append]
        rfl
    · rintro σ H5 ⟨ls, o8, rfl, lls, bl, hl5, W6⟩
      have W7 := W6.drop
      obtain ⟨G, xs, _, _, _, _, _, rs, hgx⟩ := id W7.ex
      have lxs := rs.length
      rw [List.length_map] at lxs
      refine ⟨_, rfl, .inl ⟨rfl, _, .of hgx⟩, _, rfl, _, rfl, l, _, rfl, .inl ⟨.of hl5, fun T2 h2 => ⟨(by show 2 ≤ sizeLine; decide), fun T3 h3 => ?_⟩⟩⟩
      have g2 : g ≠ T2 := ne_of_none hgx h2
      have hg2 : (upd H5 T2 (.tup (ls.map V.int))) g = some (.lst xs) := by rw [upd_ne g2]; exact hgx
      have g3 : g ≠ T3 := ne_of_none hg2 h3
      refine ⟨g, xs, _, rfl, rfl, by rw [upd_ne g3]; exact hg2, big (by omega), gs ++ [(x, ls)], _, _, _, _, _, rfl, by simp [lgs], fun k gg e => ?_, W7.push hgx h2 h3⟩
      by_cases hk : k < gs.length
      · rw [List.getElem?_append_left hk] at e
        exact ok k gg e
      · have ek : k = gs.length := by
          have := (List.getElem?_eq_some_iff.mp e).1
          simp at this
          omega
        subst ek
        simp at e
        subst e
        have em : ((m : Nat) : Int).toNat = m := Int.toNat_natCast m
        refine ⟨?_, fun z hz => ?_⟩
        · show legsOk x ls.length
          rw [lls, em]
          exact lk
        · rw [lgs]
          exact bl z hz
  rintro σ H2 ⟨gs, o4, o5, o6, o7, o8, rfl, lgs, ok, W⟩
  obtain ⟨n4, e4⟩ := id W.deck
  refine ⟨_, rfl, p, n4, 3, rfl, e4, by decide, by decide, fun c' n5 a5 b5 => ⟨_, _, rfl, rfl, _, rfl, by omega, by omega, fun D hD => ?_⟩⟩
  have W2 := W.take n5
  have W3 := W2.open hD
  obtain ⟨dp, dg, d0⟩ := W3.ms D (.head _)
  refine comp_range (fun i H3 => ∃ os : List Int, os.length = i ∧ (∀ z ∈ os, 0 ≤ z ∧ z < 1 + r + gs.length) ∧ H3 D = some (.lst (os.map V.int)) ∧ WI K H p g [D] gs H3) ⟨[], rfl, (fun _ z => nomatch z), upd_same, W3⟩ ?_ ?_
  · rintro i H3 hi ⟨os, los, bo, ho, W4⟩
    obtain ⟨n6, e6⟩ := id W4.deck
    obtain ⟨G, xs, _, _, _, _, _, rs, hgx⟩ := id W4.ex
    have lxs := rs.length
    rw [List.length_map] at lxs
    refine ⟨_, rfl, _, rfl, _, rfl, g, _, rfl, .inl (.of hgx), _, _, rfl, rfl, p, n6, _, rfl, e6, by omega, by omega, fun c n7 a7 b7 => ?_⟩
    refine ⟨os.map V.int, by rw [upd_ne dp]; exact ho, big (by rw [List.length_map]; omega), os ++ [c], by simp [los], fun z hz => ?_, ?_, (W4.take n7).put (.head _) _⟩
    · rcases List.mem_append.mp hz with hz | hz
      · exact bo z hz
      · rw [List.mem_singleton.mp hz]
        exact ⟨a7, by omega⟩
    · rw [upd_same, List.map_append]
      rfl
  rintro H3 ⟨os, los, bo, ho, W4⟩
  obtain ⟨n6, e6⟩ := id W4.deck
  obtain ⟨G, xs, sG, gp, gg, gM, gn, rs, hgx⟩ := id W4.ex
  have gD : G D = none := gM D (.head _)
  refine ⟨_, rfl, _, rfl, _, rfl, (by show 3 ≤ sizeLine; decide), fun R hR => ?_⟩
  have Rp : R ≠ p := Ne.symm (ne_of_none e6 hR)
  have Rg : R ≠ g := Ne.symm (ne_of_none hgx hR)
  have RD : R ≠ D := Ne.symm (ne_of_none ho hR)
  have s1 : Same G (upd G g (.lst xs)) := same_upd gg _
  have s2 : Same (upd G g (.lst xs)) (upd (upd G g (.lst xs)) D (.lst (os.map V.int))) := same_upd (by rw [upd_ne dg]; exact gD) _
  have s3 : Same (upd (upd G g (.lst xs)) D (.lst (os.map V.int))) (upd (upd (upd G g (.lst xs)) D (.lst (os.map V.int))) R (.tup [.int (1 + r), .ref g, .ref D])) := same_upd (by rw [upd_ne RD, upd_ne Rg]; exact sG.free hR) _
  refine q ⟨1 + r, gs, os⟩ R n6 (upd (upd (upd G g (.lst xs)) D (.lst (os.map V.int))) R (.tup [.int (1 + r), .ref g, .ref D])) _ ⟨by show 1 ≤ 1 + r; omega, by show 1 + r ≤ 6; omega, by show gs.length ≤ most; omega, ok, by show 1 ≤ os.length; omega, by show os.length ≤ most + 20; omega, bo⟩ (by show os.length ≤ 3; omega)
    (W4.same.trans ((same_upd hR _).b p)) (by rw [upd_ne (Ne.symm Rp)]; exact e6) (fun z u zq => ?_) (by rw [upd_ne (Ne.symm Rp), upd_ne (Ne.symm dp), upd_ne W4.pg]; exact gp) (fun z u zq => ?_) ?_
  · by_cases z1 : z = R
    · subst z1; rw [upd_same] at zq ⊢; exact zq
    · rw [upd_ne z1] at zq ⊢
      by_cases z2 : z = D
      · subst z2; rw [upd_same] at zq; rw [ho]; exact zq
      · rw [upd_ne z2] at zq
        by_cases z3 : z = g
        · subst z3; rw [upd_same] at zq; rw [hgx]; exact zq
        · rw [upd_ne z3] at zq
          exact sG z u zq
  · by_cases z1 : z = R
    · rw [z1]
      cases zz : H R with
      | none => rfl
      | some u' => rw [W4.same R u' Rp zz] at hR; cases hR
    · rw [upd_ne z1] at zq
      by_cases z2 : z = D
      · rw [z2]; exact d0
      · rw [upd_ne z2] at zq
        by_cases z3 : z = g
        · rw [z3]; exact hg0
        · rw [upd_ne z3] at zq
          exact gn z u zq
  · refine .tup (.of upd_same) (.cons (.int _) (.cons ?_ (.cons ?_ .nil)))
    · refine .lst (.of ?_) (((rs.mono s1).mono s2).mono s3)
      rw [upd_ne (Ne.symm Rg), upd_ne (Ne.symm dg), upd_same]
    · refine .lst (.of ?_) (Reps.ints os)
      rw [upd_ne (Ne.symm RD), upd_same]
theorem sc_are_wires_below : FnScope ["numbers", "bound"] ["numbers", "bound"] (defScope s_are_wires_below) := ⟨rfl, rfl, rfl, by decide +kernel, rfl, by decide +kernel, by decide +kernel⟩
theorem ok_are_wires_below (T : Txt K mg t) : FnOk P w K mg base CX0 1 t.f_are_wires_below t.fd_are_wires_below ["numbers", "bound"] (sp_awb K) := by
  refine T.d_are_wires_below.F.okB sc_are_wires_below (fun vs H Q E h => ?_) (fun cdv A outer s H vs Q E hr h => ?_)
  · obtain ⟨p, bnd, ns, rfl, _⟩ := h
    rfl
  obtain ⟨p, bnd, ns, rfl, hS, lz, q⟩ := h
  have step : ∀ (j : Nat) (n : Int) (D : Addr) (H2 : Hp), ns[j]? = some n → H D = none → Same H H2 → H2 D = some (.lst (((ns.take j).map fun n => decide (0 ≤ n ∧ n < bnd)).map V.bl)) →
      Same H (upd H2 D (.lst (((ns.take j).map fun n => decide (0 ≤ n ∧ n < bnd)).map V.bl ++ [.bl (decide (0 ≤ n ∧ n < bnd))]))) ∧ (upd H2 D (.lst (((ns.take j).map fun n => decide (0 ≤ n ∧ n < bnd)).map V.bl ++ [.bl (decide (0 ≤ n ∧ n < bnd))]))) D = some (.lst (((ns.take (j + 1)).map fun n => decide (0 ≤ n ∧ n < bnd)).map V.bl)) := by
    intro j n D H2 hz hD s2 eD
    refine ⟨s2.write hD _, ?_⟩
    rw [upd_same, List.take_add_one, hz, List.map_append, List.map_append]
    rfl
  have fin : ∀ (D : Addr) (H2 : Hp), Same H H2 → H2 D = some (.lst (((ns.take (ns.map V.int).length).map fun n => decide (0 ≤ n ∧ n < bnd)).map V.bl)) → ∃ (p : Addr) (bs : List Bool), [V.ref D] = [.ref p] ∧ SqL K H2 p (bs.map V.bl) ∧ Q (.bl (bs.all id)) H2 := by
    intro D H2 s2 eD
    have et : ns.take (ns.map V.int).length = ns := by rw [List.length_map, List.take_length]
    rw [et] at eD
    refine ⟨D, _, rfl, .of eD, ?_⟩
    have e : (ns.map fun n => decide (0 ≤ n ∧ n < bnd)).all id = ns.all fun n => decide (0 ≤ n ∧ n < bnd) := by rw [List.all_map]; rfl
    rw [e]
    exact q H2 s2
  rcases hS with hS | hS
  · refine ⟨_, (bpss_one (bps_ret (bpe_callB (call_allL rfl) rfl T.z_all PyProof.Rows.boot_all (bpa_cons (bpe_comp rfl (N := ["number", "bound"]) (n := 1) (cap := [1]) (blk_of rfl rfl) (bpi_list (bpv 0)) (keep_name (by decide)) (fun _ _ _ _ => (bpg_name (k := 0) (show (["number", "bound"] : List Str).Nodup by decide +kernel) rfl (Or.inl rfl))) (fun _ _ _ _ => bpts_nil) (fun _ _ _ _ => (bpe_chain op_le op_lt bpe_int (bpv 0) (bpv 1)))) (bpa_nil))))), ?_⟩
    refine ⟨_, rfl, p, rfl, ⟨_, hS⟩, fun D hD => comp_list (K := K) (a := p) (xs := ns.map V.int) (fun j H2 => Same H H2 ∧ H2 D = some (.lst (((ns.take j).map fun n => decide (0 ≤ n ∧ n < bnd)).map V.bl))) ⟨same_upd hD _, upd_same⟩ (fun j H2 _ z => z.1.seq hS) ?_ (fun H2 ⟨s2, eD⟩ => fin D H2 s2 eD)⟩
    rintro j y H2 hy ⟨s2, eD⟩
    rw [List.getElem?_map] at hy
    cases hz : ns[j]? with
    | none => rw [hz] at hy; cases hy
    | some n =>
      rw [hz] at hy
      cases hy
      have lj : j < ns.length := (List.getElem?_eq_some_iff.mp hz).1
      have st := step j n D H2 hz hD s2 eD
      have lb : (((ns.take j).map fun n => decide (0 ≤ n ∧ n < bnd)).map V.bl).length < sizeLine := big (by rw [List.length_map, List.length_map, List.length_take]; omega)
      refine ⟨_, rfl, _, _, rfl, rfl, _, rfl, ite2 (fun c => ?_) (fun c => ?_)⟩
      · have c' : 0 ≤ n := of_decide_eq_true c
        refine ⟨_, rfl, _, _, rfl, rfl, _, eD, lb, ?_⟩
        have e : decide (0 ≤ n ∧ n < bnd) = decide (n < bnd) := by
          by_cases z : n < bnd
          · rw [decide_eq_true z, decide_eq_true ⟨c', z⟩]
          · rw [decide_eq_false z, decide_eq_false fun y => z y.2]
        rw [e] at st
        exact st
      · have c' : ¬ 0 ≤ n := fun z => c (decide_eq_true z)
        refine ⟨_, eD, lb, ?_⟩
        have e : decide (0 ≤ n ∧ n < bnd) = false := decide_eq_false fun y => c' y.1
        rw [e] at st
        exact st
  · refine ⟨_, (bpss_one (bps_ret (bpe_callB (call_allL rfl) rfl T.z_all PyProof.Rows.boot_all (bpa_cons (bpe_comp rfl (N := ["number", "bound"]) (n := 1) (cap := [1]) (blk_of rfl rfl) (bpi_tup (bpv 0)) (keep_name (by decide)) (fun _ _ _ _ => (bpg_name (k := 0) (show (["number", "bound"] : List Str).Nodup by decide +kernel) rfl (Or.inl rfl))) (fun _ _ _ _ => bpts_nil) (fun _ _ _ _ => (bpe_chain op_le op_lt bpe_int (bpv 0) (bpv 1)))) (bpa_nil))))), ?_⟩
    refine ⟨_, rfl, p, rfl, ⟨_, hS⟩, fun D hD => comp_tup (K := K) (a := p) (xs := ns.map V.int) (fun j H2 => Same H H2 ∧ H2 D = some (.lst (((ns.take j).map fun n => decide (0 ≤ n ∧ n < bnd)).map V.bl))) ⟨same_upd hD _, upd_same⟩ (fun j H2 _ z => z.1.seqT hS) ?_ (fun H2 ⟨s2, eD⟩ => fin D H2 s2 eD)⟩
    rintro j y H2 hy ⟨s2, eD⟩
    rw [List.getElem?_map] at hy
    cases hz : ns[j]? with
    | none => rw [hz] at hy; cases hy
    | some n =>
      rw [hz] at hy
      cases hy
      have lj : j < ns.length := (List.getElem?_eq_some_iff.mp hz).1
      have st := step j n D H2 hz hD s2 eD
      have lb : (((ns.take j).map fun n => decide (0 ≤ n ∧ n < bnd)).map V.bl).length < sizeLine := big (by rw [List.length_map, List.length_map, List.length_take]; omega)
      refine ⟨_, rfl, _, _, rfl, rfl, _, rfl, ite2 (fun c => ?_) (fun c => ?_)⟩
      · have c' : 0 ≤ n := of_decide_eq_true c
        refine ⟨_, rfl, _, _, rfl, rfl, _, eD, lb, ?_⟩
        have e : decide (0 ≤ n ∧ n < bnd) = decide (n < bnd) := by
          by_cases z : n < bnd
          · rw [decide_eq_true z, decide_eq_true ⟨c', z⟩]
          · rw [decide_eq_false z, decide_eq_false fun y => z y.2]
        rw [e] at st
        exact st
      · have c' : ¬ 0 ≤ n := fun z => c (decide_eq_true z)
        refine ⟨_, eD, lb, ?_⟩
        have e : decide (0 ≤ n ∧ n < bnd) = false := decide_eq_false fun y => c' y.1
        rw [e] at st
        exact st
theorem sc_is_kind : FnScope ["word"] ["word"] (defScope s_is_kind) := ⟨rfl, rfl, rfl, by decide +kernel, rfl, by decide +kernel, by decide +kernel⟩
theorem ok_is_kind (T : Txt K mg t) : FnOk P w K mg base CX0 1 t.f_is_kind t.fd_is_kind ["word"] (sp_ik K) := by
  refine T.d_is_kind.F.okB sc_is_kind (fun vs H Q E h => ?_) (fun cdv A outer s H vs Q E hr h => ?_)
  · obtain ⟨x, rfl, _⟩ := h
    rfl
  obtain ⟨x, rfl, q⟩ := h
  refine ⟨_, (bpss_one (bps_ret (bpe_cmpR op_inTab (bpv 0) (bpe_glob (v := .ref t.c_LEG_BOUNDS) rfl T.g_LEG_BOUNDS rfl) rfl))), ?_⟩
  exact ⟨_, rfl, x, t.c_LEG_BOUNDS, tab_LEG_BOUNDS, rfl, rfl, T.k_LEG_BOUNDS, q⟩
theorem sc_check_gate : FnScope ["kind", "legs", "own_wire", "bounds"] ["kind", "legs", "own_wire"] (defScope s_check_gate) := ⟨rfl, rfl, rfl, by decide +kernel, rfl, by decide +kernel, by decide +kernel⟩
theorem bounds_of {x : Str} {n : Nat} (h : legsOk x n) : ∃ lo hi : Int, PyProof.Rows.KTD.datumAt x tab_LEG_BOUNDS = some (.tup ([lo, hi].map PyData.int)) ∧ PyProof.Rows.KTD.inKeys x tab_LEG_BOUNDS = true ∧ lo ≤ (n : Int) ∧ (n : Int) ≤ hi := by
  rcases h with ⟨h | h | h, l1, l2⟩ | ⟨h, l1⟩ | ⟨h, l1⟩ | ⟨h | h, l1⟩ <;> subst h
  · exact ⟨2, 4, by kernel_rfl, by kernel_rfl, by omega, by omega⟩
  · exact ⟨2, 4, by kernel_rfl, by kernel_rfl, by omega, by omega⟩
  · exact ⟨2, 4, by kernel_rfl, by kernel_rfl, by omega, by omega⟩
  · exact ⟨1, 1, by kernel_rfl, by kernel_rfl, by omega, by omega⟩
  · exact ⟨3, 3, by kernel_rfl, by kernel_rfl, by omega, by omega⟩
  · exact ⟨0, 0, by kernel_rfl, by kernel_rfl, by omega, by omega⟩
  · exact ⟨0, 0, by kernel_rfl, by kernel_rfl, by omega, by omega⟩
theorem no_keys {x : Str} (h : ¬ isKind x) : PyProof.Rows.KTD.inKeys x tab_LEG_BOUNDS = false := by
  unfold isKind at h
  show (decide (x = "and") || (decide (x = "or") || (decide (x = "odd") || (decide (x = "not") || (decide (x = "choose") || (decide (x = "zero") || (decide (x = "one") || false))))))) = false
  rw [decide_eq_false fun e => h (.inl e), decide_eq_false fun e => h (.inr (.inl e)), decide_eq_false fun e => h (.inr (.inr (.inl e))), decide_eq_false fun e => h (.inr (.inr (.inr (.inl e)))), decide_eq_false fun e => h (.inr (.inr (.inr (.inr (.inl e))))), decide_eq_false fun e => h (.inr (.inr (.inr (.inr (.inr (.inl e)))))), decide_eq_false fun e => h (.inr (.inr (.inr (.inr (.inr (.inr e))))))]
  rfl
theorem yes_keys {x : Str} (h : isKind x) : ∃ lo hi : Int, PyProof.Rows.KTD.datumAt x tab_LEG_BOUNDS = some (.tup ([lo, hi].map PyData.int)) ∧ PyProof.Rows.KTD.inKeys x tab_LEG_BOUNDS = true ∧ ∀ n : Nat, (lo ≤ (n : Int) ∧ (n : Int) ≤ hi) ↔ legsOk x n := by
  have one : ∀ {x : Str} {lo hi : Int} {n : Nat}, legsOk x n → ∀ {l h : Int}, PyProof.Rows.KTD.datumAt x tab_LEG_BOUNDS = some (.tup ([l, h].map PyData.int)) → PyProof.Rows.KTD.datumAt x tab_LEG_BOUNDS = some (.tup ([lo, hi].map PyData.int)) → l = lo ∧ h = hi := fun _ _ _ e1 e2 => by
    rw [e1] at e2
    have := Option.some.inj e2
    injection this with this
    injection this with a b
    injection b with b _
    exact ⟨PyData.int.inj a, PyData.int.inj b⟩
  have fwd : ∀ {x : Str} {lo hi : Int}, PyProof.Rows.KTD.datumAt x tab_LEG_BOUNDS = some (.tup ([lo, hi].map PyData.int)) → ∀ n : Nat, legsOk x n → lo ≤ (n : Int) ∧ (n : Int) ≤ hi := fun e n l => by
    obtain ⟨lo', hi', e1, _, b1, b2⟩ := bounds_of l
    obtain ⟨rfl, rfl⟩ := one l e1 e
    exact ⟨b1, b2⟩
  rcases h with rfl | rfl | rfl | rfl | rfl | rfl | rfl
  · exact ⟨2, 4, by kernel_rfl, by kernel_rfl, fun n => ⟨fun z => .inl ⟨.inl rfl, by omega, by omega⟩, fwd (by kernel_rfl) n⟩⟩
  · exact ⟨2, 4, by kernel_rfl, by kernel_rfl, fun n => ⟨fun z => .inl ⟨.inr (.inl rfl), by omega, by omega⟩, fwd (by kernel_rfl) n⟩⟩
  · exact ⟨2, 4, by kernel_rfl, by kernel_rfl, fun n => ⟨fun z => .inl ⟨.inr (.inr rfl), by omega, by omega⟩, fwd (by kernel_rfl) n⟩⟩
  · exact ⟨1, 1, by kernel_rfl, by kernel_rfl, fun n => ⟨fun z => .inr (.inl ⟨rfl, by omega⟩), fwd (by kernel_rfl) n⟩⟩
  · exact ⟨3, 3, by kernel_rfl, by kernel_rfl, fun n => ⟨fun z => .inr (.inr (.inl ⟨rfl, by omega⟩)), fwd (by kernel_rfl) n⟩⟩
  · exact ⟨0, 0, by kernel_rfl, by kernel_rfl, fun n => ⟨fun z => .inr (.inr (.inr ⟨.inl rfl, by omega⟩)), fwd (by kernel_rfl) n⟩⟩
  · exact ⟨0, 0, by kernel_rfl, by kernel_rfl, fun n => ⟨fun z => .inr (.inr (.inr ⟨.inr rfl, by omega⟩)), fwd (by kernel_rfl) n⟩⟩
theorem okX_check_gate (T : Txt K mg t) : FnOk P w K mg base (CXC P w (.ref t.x_NoWorks)) 2 t.f_check_gate t.fd_check_gate ["kind", "legs", "own_wire"] (sp_cgX K) := by
  refine T.d_check_gate.F.okC sc_check_gate (fun vs H Q E h => ?_) (fun cdv A outer s H vs Q E hr h => ?_)
  · obtain ⟨x, la, own, ls, rfl, _⟩ := h
    rfl
  obtain ⟨x, la, own, ls, rfl, hL, lz, qg, qb⟩ := h
  have up : ∀ {H2 : Hp}, Same H H2 → ¬ GoodGt own (x, ls) → 1 ≤ sizeLine ∧ ∀ y, H2 y = none → E (.ref y) (some y) H2 := fun s nb => ⟨(by decide), fun y hy => qb nb _ y s hy⟩
  refine ⟨_, (bpss_cons (bps_if (bpt_not (bpt_val (bpe_call (ok_is_kind T) (hr.mono (by decide)) rfl T.d_is_kind.m T.d_is_kind.F.kp T.d_is_kind.b .nil pass0 (bpa_cons (bpv 0) (bpa_nil))))) (bpss_one (bps_raise PySem.F.excBase_ValueError T.k_NoWorks.ex rfl rfl T.g_NoWorks raiseC (bpa_cons bpe_str bpa_nil))) bpss_nil)
    (bpss_cons (bps_set (k := 3) sc_check_gate.nd rfl (Or.inl rfl) (bpe_ix ix_tab (bpe_glob (v := .ref t.c_LEG_BOUNDS) rfl T.g_LEG_BOUNDS rfl) (bpv 0) (fun _ _ => rfl)))
    (bpss_cons (bps_if (bPW_pt (bpw_or (bpt_cmpR op_lt (bpe_callB call_len_seq rfl T.z_len PySem.boot_len (bpa_cons (bpv 1) (bpa_nil))) (bpe_ix ix_tup (bpv 3) bpe_int (fun _ _ => rfl)) (nomark _)) (bpw_or1 (bpt_cmpR op_gt (bpe_callB call_len_seq rfl T.z_len PySem.boot_len (bpa_cons (bpv 1) (bpa_nil))) (bpe_ix ix_tup (bpv 3) bpe_int (fun _ _ => rfl)) (nomark _))))) (bpss_one (bps_raise PySem.F.excBase_ValueError T.k_NoWorks.ex rfl rfl T.g_NoWorks raiseC (bpa_cons bpe_str bpa_nil))) bpss_nil)
    (bpss_one (bps_if (bpt_not (bpt_val (bpe_call (ok_are_wires_below T) (hr.mono (by decide)) rfl T.d_are_wires_below.m T.d_are_wires_below.F.kp T.d_are_wires_below.b .nil pass0 (bpa_cons (bpv 1) ( bpa_cons (bpv 2) (bpa_nil)))))) (bpss_one (bps_raise PySem.F.excBase_ValueError T.k_NoWorks.ex rfl rfl T.g_NoWorks raiseC (bpa_cons bpe_str bpa_nil))) bpss_nil))))), ?_⟩
  refine ⟨_, rfl, x, rfl, _, rfl, ?_⟩
  refine (Classical.em (isKind x)).elim (fun kx => ?_) (fun kx => ?_)
  rotate_left
  · rw [no_keys kx]
    exact iteT (up (Same.refl _) fun z => no_kind kx _ z.1)
  obtain ⟨lo, hi, e1, e2, bnd⟩ := yes_keys kx
  rw [e2]
  refine iteF ⟨_, rfl, t.c_LEG_BOUNDS, x, tab_LEG_BOUNDS, [lo, hi], rfl, rfl, T.k_LEG_BOUNDS, e1, (by show 2 ≤ 1000; decide), fun bp hb => ?_⟩
  have ll : ((ls.map V.int).length : Int) = ls.length := by rw [List.length_map]
  refine ⟨_, rfl, la, _, rfl, .inr hL, _, rfl, bp, _, _, _, rfl, rfl, hb, rfl, _, _, rfl, rfl, _, rfl, ite2 (fun c => iteT (up (Same.refl _) fun z => ?_)) (fun c1 => ?_)⟩
  · have := (bnd ls.length).mpr z.1
    have := of_decide_eq_true c
    omega
  refine ⟨_, rfl, la, _, rfl, .inr hL, _, rfl, bp, _, _, _, rfl, rfl, hb, rfl, _, _, rfl, rfl, _, rfl, ite2 (fun c => up (Same.refl _) fun z => ?_) (fun c2 => ?_)⟩
  · have := (bnd ls.length).mpr z.1
    have := of_decide_eq_true c
    omega
  have lk : legsOk x ls.length := (bnd ls.length).mp ⟨by
    have c' : ¬ ((ls.map V.int).length : Int) < lo := fun z => c1 (decide_eq_true z)
    omega, by
    have c' : ¬ hi < ((ls.map V.int).length : Int) := fun z => c2 (decide_eq_true z)
    omega⟩
  refine ⟨_, rfl, _, rfl, la, own, ls, rfl, .inr hL, lz, fun H2 s2 => ?_⟩
  cases e3 : ls.all fun n => decide (0 ≤ n ∧ n < own) with
  | true =>
    exact ⟨_, rfl, iteF (qg ⟨lk, fun l hl => of_decide_eq_true (List.all_eq_true.mp e3 l hl)⟩ H2 s2)⟩
  | false =>
    refine ⟨_, rfl, iteT (up s2 fun z => ?_)⟩
    have : (ls.all fun n => decide (0 ≤ n ∧ n < own)) = true := List.all_eq_true.mpr fun l hl => decide_eq_true (z.2 l hl)
    rw [this] at e3
    cases e3
theorem sc_read_number : FnScope ["text", "number", "sign"] ["text"] (defScope s_read_number) := ⟨rfl, rfl, rfl, by decide +kernel, rfl, by decide +kernel, by decide +kernel⟩
theorem okX_read_number (T : Txt K mg t) : FnOk P w K mg base (CXC P w (.ref t.x_NoText)) 1 t.f_read_number t.fd_read_number ["text"] sp_rdn := by
  refine T.d_read_number.F.okC sc_read_number (fun vs H Q E h => ?_) (fun cdv A outer s H vs Q E hr h => ?_)
  · obtain ⟨z, rfl, _⟩ := h
    rfl
  obtain ⟨z, rfl, tx, q, rz⟩ := h
  have hu64 := hr.units
  have sl : sizeLine = 16777216 := by decide
  have ez : z.cps.toList.length = z.length := Array.length_toList
  have lz := tx.1
  refine ⟨_, (bpss_cons (bps_if (bPW_pt (bpw_or (bpt_cmpR op_eq (bpv 0) bpe_str (nomark _)) (bpw_or1 (bPW_pt (bpw_and (bpt_cmpR op_eq (bpe_ix ix_str (bpv 0) bpe_int (fun _ _ => rfl)) bpe_str (nomark _)) (bpw_and1 (bpt_cmpR op_ne (bpv 0) bpe_str (nomark _)))))))) (bpss_one (bps_raise PySem.F.excBase_ValueError T.k_NoText.ex rfl rfl T.g_NoText raiseC (bpa_cons bpe_str bpa_nil))) bpss_nil)
    (bpss_cons (bps_set (k := 1) sc_read_number.nd rfl (Or.inl rfl) bpe_int)
    (bpss_cons (bps_for passesOwnC rfl (bpi_str (bpv 0)) (bpg_name (k := 2) sc_read_number.nd rfl (Or.inl rfl)) (bpss_cons (bps_if (bpt_cmpR op_notin_str (bpv 2) (bpe_glob (v := .str "0123456789") rfl T.g_FIGURES ⟨_, rfl⟩) rfl) (bpss_one (bps_raise PySem.F.excBase_ValueError T.k_NoText.ex rfl rfl T.g_NoText raiseC (bpa_cons bpe_str bpa_nil))) bpss_nil)
    (bpss_one (bps_set (k := 1) sc_read_number.nd rfl (Or.inl rfl) (bpe_op op_add (bpe_op op_mulB (bpv 1) bpe_int) (bpe_bm PySem.F.plainAttrs_str PySem.F.slot_str_index PySem.F.type_str_index mt_index (bpe_glob (v := .str "0123456789") rfl T.g_FIGURES ⟨_, rfl⟩) (bpa_cons (bpv 2) (bpa_nil))))))))
    (bpss_one (bps_ret (bpv 1)))))), ?_⟩
  have bad : numL z.cps.toList = none → 1 ≤ sizeLine ∧ ∀ x, H x = none → E (.ref x) (some x) H := fun e => ⟨(by decide), fun x hx => rz e _ x (Same.refl _) hx⟩
  refine ⟨_, rfl, rfl, _, rfl, ite2 (fun hc => ?_) (fun hc => ?_)⟩
  · refine bad ?_
    have e := V.str.inj (of_decide_eq_true hc)
    have e2 : z.cps.toList = [] := by rw [e]; decide +kernel
    unfold numL
    rw [if_pos (.inl e2)]
  cases e : z.cps.toList with
  | nil =>
    refine absurd (decide_eq_true ?_) hc
    rw [strT e]
    decide +kernel
  | cons c r =>
    have cl : c < 128 := tx.2 c (by rw [e]; exact .head _)
    refine ⟨_, rfl, _, 0, c, rfl, rfl, by omega, (by rw [e]; exact atI_nat (j := 0) rfl), rfl, _, rfl, ?_⟩
    refine' joinXA (α := Unit) (C := fun _ Hx => H = Hx ∧ ¬ ((z.cps.toList.head? = some 48 ∧ z.cps.toList ≠ [48]))) (st := fun _ => [some (.str z), none, none]) (fun rest => _) _
    rotate_left
    · refine ite2 (fun h1 => ?_) (fun h1 => iteF (rest () _ ⟨rfl, fun y => ?_⟩))
      · have c48 : c = 48 := by
          have := congrArg (fun x : Str => x.cps.toList) (V.str.inj (of_decide_eq_true h1))
          rw [show (Str.ofString "0").cps.toList = [48] by decide +kernel] at this
          exact (List.cons.inj this).1
        refine ⟨_, rfl, rfl, _, rfl, ite2 (fun h2 => ?_) (fun h2 => ?_)⟩
        · have nn : z.cps.toList ≠ [48] := fun y => by
            rw [decide_eq_true (show V.str z = V.str (Str.ofString "0") by rw [strT y]; decide +kernel)] at h2
            cases h2
          refine bad ?_
          unfold numL
          rw [if_pos (.inr (.inl ⟨by rw [e, c48]; rfl, nn⟩))]
        · refine rest () _ ⟨rfl, fun y => ?_⟩
          have h3 : V.str z = V.str (Str.ofString "0") := by
            cases Decidable.em (V.str z = V.str (Str.ofString "0")) with
            | inl h => exact h
            | inr h => rw [decide_eq_false h] at h2; exact absurd rfl h2
          exact y.2 (by rw [V.str.inj h3]; decide +kernel)
      · rw [e] at y
        have c48 : c = 48 := by simpa using y.1
        exact h1 (decide_eq_true (by rw [c48]; decide +kernel))
    rintro _ _ ⟨rfl, n48⟩
    have asc : z.cps.all (· < 128) = true := by
      rw [← Array.all_toList, List.all_eq_true]
      intro c hc
      exact decide_eq_true (tx.2 c hc)
    refine ⟨_, rfl, _, rfl, asc, for_str (fun i σ H3 => ∃ o2 : Option V, σ = [some (.str z), some (.int (readN (z.cps.toList.take i) : Nat)), o2] ∧ H3 = H ∧ ∀ c ∈ z.cps.toList.take i, 48 ≤ c ∧ c < 58) ⟨_, rfl, rfl, fun c h => (nomatch h)⟩ ?_ ?_⟩
    · rintro i c σ H3 hi ⟨o2, rfl, rfl, dg⟩
      have cm := List.mem_of_getElem? hi
      have cl := tx.2 c cm
      by_cases hc : 48 ≤ c ∧ c < 58
      · have occ := fig_yes c cl hc.1 hc.2
        have nb := readN_lt _ dg
        have lt : ((readN (z.cps.toList.take i) : Nat) : Int) < 2 ^ 2000 := by
          have h1 : (z.cps.toList.take i).length ≤ 600 := by rw [List.length_take]; omega
          have h2 : (10 : Nat) ^ (z.cps.toList.take i).length ≤ 10 ^ 600 := Nat.pow_le_pow_right (by decide) h1
          have h3 : (10 : Nat) ^ 600 < 2 ^ 2000 := by decide +kernel
          have : readN (z.cps.toList.take i) < 2 ^ 2000 := Nat.lt_of_lt_of_le nb (Nat.le_trans h2 (Nat.le_of_lt h3))
          exact_mod_cast this
        refine ⟨_, rfl, _, _, rfl, rfl, _, rfl, ?_⟩
        rw [occ]
        refine iteF ?_
        refine ⟨_, rfl, _, _, rfl, rfl, ⟨bits_of (k := 2000) (by decide) (by omega) lt, bits_of (k := 5) (by decide) (by decide) (by decide)⟩, ?_⟩
        refine ⟨rfl, _, rfl, _, _, _, _, rfl, rfl, occ, _, _, rfl, rfl, some (.str ⟨#[c]⟩), ?_, rfl, ?_⟩
        · have e3 : readN (z.cps.toList.take (i + 1)) = readN (z.cps.toList.take i) * 10 + (c - 48) := by
            rw [List.take_add_one, hi]
            exact readN_snoc _ _
          rw [e3]
          show [_, some (V.int (((readN (z.cps.toList.take i) : Nat) : Int) * 10 + ((c - 48 : Nat) : Int))), _] = _
          rw [Int.natCast_add, Int.natCast_mul]
          rfl
        · intro d hd
          rw [List.take_add_one, hi] at hd
          rcases List.mem_append.mp hd with hd | hd
          · exact dg d hd
          · rw [List.mem_singleton.mp hd]; exact hc
      · have occ := fig_no c cl hc
        refine ⟨_, rfl, _, _, rfl, rfl, _, rfl, ?_⟩
        rw [occ]
        refine iteT (bad ?_)
        unfold numL
        rw [if_pos (.inr (.inr fun h => hc (h c cm)))]
    · rintro σ H3 ⟨o2, rfl, rfl, dg⟩
      rw [List.take_length] at dg ⊢
      refine ⟨_, rfl, q _ ?_⟩
      unfold numL
      rw [if_neg]
      rintro (h | h | h)
      · rw [e] at h; cases h
      · exact n48 h
      · exact h dg
theorem sc_read_row : FnScope ["row", "parts"] ["row"] (defScope s_read_row) := ⟨rfl, rfl, rfl, by decide +kernel, rfl, by decide +kernel, by decide +kernel⟩
theorem okX_read_row (T : Txt K mg t) : FnOk P w K mg base (CXC P w (.ref t.x_NoText)) 2 t.f_read_row t.fd_read_row ["row"] sp_rdr := by
  refine T.d_read_row.F.okC sc_read_row (fun vs H Q E h => ?_) (fun cdv A outer s H vs Q E hr h => ?_)
  · obtain ⟨z, w, ps, rfl, _⟩ := h
    rfl
  obtain ⟨z, w, ps, rfl, tx, ec, q, rz⟩ := h
  have hu64 := hr.units
  have sl : sizeLine = 16777216 := by decide
  have lz := tx.1
  have ez : z.cps.toList.length = z.length := Array.length_toList
  have lp : ps.length ≤ 601 := by
    have := (cut_parts 32 z.cps.toList).2
    rw [ec, List.length_cons] at this
    omega
  refine ⟨_, (bpss_cons (bps_set (k := 1) sc_read_row.nd rfl (Or.inl rfl) (bpe_bm PySem.F.plainAttrs_str PySem.F.slot_str_split PySem.F.type_str_split mt_splitA (bpv 0) (bpa_cons bpe_str (bpa_nil))))
    (bpss_one (bps_ret (bpe_tup (bpa_cons (bpe_ix ix_list (bpv 1) bpe_int (fun _ _ => rfl)) ( bpa_cons (bpe_callTy call_tuple_of rfl T.z_tuple PyProof.Rows.boot_tuple (bpa_cons (bpe_compX rfl (N := ["part"]) (n := 1) (cap := []) (blk_of rfl rfl) (bpi_list (bpe_slice sl_list (bpv 1) (bpo_some bpe_int) bpo_none)) (keep_name (by decide)) (fun _ _ _ _ => (bpg_name (k := 0) (show (["part"] : List Str).Nodup by decide +kernel) rfl (Or.inl rfl))) (fun _ _ _ _ => bpts_nil) (fun _ _ _ _ o => (bpe_call (okX_read_number T) (hr.mono (by decide)) rfl T.d_read_number.m T.d_read_number.F.kp T.d_read_number.b .nil (passCompC o) (bpa_cons (bpv 0) (bpa_nil))))) (bpa_nil))) (bpa_nil))))))), ?_⟩
  refine ⟨_, rfl, rfl, z, 32, Str.ofString " ", rfl, rfl, blankA, (by decide +kernel), by omega, fun D hD => ?_⟩
  rw [ec, List.map_cons]
  have kD := same_upd hD (.lst (.str ⟨w.toArray⟩ :: ps.map fun p => V.str ⟨p.toArray⟩))
  refine ⟨_, rfl, D, _, _, _, rfl, rfl, .of upd_same, atI_nat (j := 0) rfl, _, rfl, _, rfl, D, _, rfl, .of upd_same, fun S hS => ?_⟩
  rw [cutA_one]
  have kS := same_upd hS (.lst (ps.map fun p => V.str ⟨p.toArray⟩))
  generalize eH2 : upd (upd H D (.lst (.str ⟨w.toArray⟩ :: ps.map fun p => V.str ⟨p.toArray⟩))) S (.lst (ps.map fun p => V.str ⟨p.toArray⟩)) = H2 at kS
  have eS : H2 S = some (.lst (ps.map fun p => V.str ⟨p.toArray⟩)) := by rw [← eH2]; exact upd_same
  have kT := kD.trans kS
  refine ⟨S, rfl, ⟨_, .of eS⟩, fun C hC => comp_list (K := K) (a := S) (xs := ps.map fun p => V.str ⟨p.toArray⟩)
    (fun j H4 => Same H2 H4 ∧ ∃ ms : List Int, H4 C = some (.lst (ms.map V.int)) ∧ ms.length = j ∧ numsL (ps.take j) = some ms)
    ⟨same_upd hC _, [], upd_same, rfl, rfl⟩ (fun j H4 _ z => .of (z.1 _ _ eS)) ?_ ?_⟩
  · rintro j y H4 hy ⟨s4, ms, eC, lm, em⟩
    rw [List.getElem?_map] at hy
    cases hz : ps[j]? with
    | none => rw [hz] at hy; cases hy
    | some p =>
      rw [hz] at hy
      cases hy
      have pm := List.mem_of_getElem? hz
      have lj : j < ps.length := (List.getElem?_eq_some_iff.mp hz).1
      refine ⟨_, rfl, ⟨p.toArray⟩, rfl, tx.part (c := 32) (by rw [ec]; exact .tail _ pm), fun n en => ?_, fun en => ?_⟩
      · rw [tlA] at en
        refine ⟨_, eC, big (by rw [List.length_map, lm]; omega), s4.write hC _, ms ++ [(n : Int)], ?_, by rw [List.length_append, lm]; rfl, ?_⟩
        · rw [upd_same, List.map_append]
          rfl
        · rw [List.take_add_one, hz]
          exact numsL_snoc en em
      · rw [tlA] at en
        exact (rz (numsL_bad en pm)).on (kT.trans s4)
  rintro H4 ⟨s4, ms, eC, lm, em⟩
  rw [List.length_map] at lm em
  rw [List.take_length] at em
  refine ⟨C, _, rfl, .inl ⟨.of eC, fun q1 h1 => ⟨(by show 2 ≤ sizeLine; decide), fun r hr' => ?_⟩⟩⟩
  have k1 := same_upd h1 (.tup (ms.map V.int))
  have k2 := same_upd hr' (.tup [.str ⟨w.toArray⟩, .ref q1])
  exact q ms em r q1 _ (((kT.trans s4).trans k1).trans k2) (((kT.trans s4).trans k1).free hr') ((kT.trans s4).free h1) upd_same (k2 _ _ upd_same)
theorem ok_read_row (T : Txt K mg t) : FnOk P w K mg base CX0 2 t.f_read_row t.fd_read_row ["row"] (fun vs H Q _ => sp_rdr vs H Q fun _ _ _ => False) := calmF (okX_read_row T)
theorem sc_works_of : FnScope ["inputs", "gates", "outputs", "gate", "body"] ["inputs", "gates", "outputs"] (defScope s_works_of) := ⟨rfl, rfl, rfl, by decide +kernel, rfl, by decide +kernel, by decide +kernel⟩
theorem okX_works_of (T : Txt K mg t) : FnOk P w K mg base (CXC P w (.ref t.x_NoWorks)) 3 t.f_works_of t.fd_works_of ["inputs", "gates", "outputs"] (sp_woG K) := by
  refine T.d_works_of.F.okC sc_works_of (fun vs H Q E h => ?_) (fun cdv A outer s H vs Q E hr h => ?_)
  · obtain ⟨w, ga, oa, gs, os, rfl, _⟩ := h
    rfl
  obtain ⟨b, ga, oa, gs, os, rfl, hg, ho, rg, ro, few, o100, l1000, q, rz⟩ := h
  have lg : gs.length = b.gates.length := by rw [rg.length, List.length_map]
  have lo : os.length = b.outs.length := by rw [ro.length, List.length_map]
  have eo := reps_ints ro
  have up : ∀ {H2 : Hp}, ¬ GoodW b → Same H H2 → 1 ≤ sizeLine ∧ ∀ y, H2 y = none → E (.ref y) (some y) H2 := fun nb s => ⟨(by decide), fun y hy => rz nb _ y s hy⟩
  refine ⟨_, (bpss_cons (bps_if (bpt_cmpR op_lt (bpv 0) bpe_int (nomark _)) (bpss_one (bps_raise PySem.F.excBase_ValueError T.k_NoWorks.ex rfl rfl T.g_NoWorks raiseC (bpa_cons bpe_str bpa_nil))) bpss_nil)
    (bpss_cons (bps_for passesOwnC rfl (bpi_enum rfl T.z_enumerate (bpa_cons (bpv 1) (bpa_nil))) (bpg_tup rfl (bpgs_cons (bpg_name (k := 3) sc_works_of.nd rfl (Or.inl rfl)) (bpgs_cons (bpg_name (k := 4) sc_works_of.nd rfl (Or.inl rfl)) bpgs_nil))) (bpss_one (bps_expr (bpe_call (okX_check_gate T) (hr.mono (by decide)) rfl T.d_check_gate.m T.d_check_gate.F.kp T.d_check_gate.b .nil passC (bpa_cons (bpe_ix ix_tup (bpv 4) bpe_int (fun _ _ => rfl)) ( bpa_cons (bpe_ix ix_tup (bpv 4) bpe_int (fun _ _ => rfl)) ( bpa_cons (bpe_op op_add (bpv 0) (bpv 3)) (bpa_nil))))))))
    (bpss_cons (bps_if (bpt_cmpR op_eq (bpe_callB call_len_seq rfl T.z_len PySem.boot_len (bpa_cons (bpv 2) (bpa_nil))) bpe_int (nomark _)) (bpss_one (bps_raise PySem.F.excBase_ValueError T.k_NoWorks.ex rfl rfl T.g_NoWorks raiseC (bpa_cons bpe_str bpa_nil))) bpss_nil)
    (bpss_cons (bps_if (bpt_not (bpt_val (bpe_call (ok_are_wires_below T) (hr.mono (by decide)) rfl T.d_are_wires_below.m T.d_are_wires_below.F.kp T.d_are_wires_below.b .nil pass0 (bpa_cons (bpv 2) ( bpa_cons (bpe_op op_add (bpv 0) (bpe_callB call_len_seq rfl T.z_len PySem.boot_len (bpa_cons (bpv 1) (bpa_nil)))) (bpa_nil)))))) (bpss_one (bps_raise PySem.F.excBase_ValueError T.k_NoWorks.ex rfl rfl T.g_NoWorks raiseC (bpa_cons bpe_str bpa_nil))) bpss_nil)
    (bpss_one (bps_ret (bpe_tup (bpa_cons (bpv 0) ( bpa_cons (bpe_callTy call_list_of rfl T.z_list PyProof.Rows.boot_list (bpa_cons (bpv 1) (bpa_nil))) ( bpa_cons (bpe_callTy call_list_of rfl T.z_list PyProof.Rows.boot_list (bpa_cons (bpv 2) (bpa_nil))) (bpa_nil))))))))))), ?_⟩
  refine ⟨_, rfl, _, _, rfl, rfl, _, rfl, ite2 (fun c => up (fun z => absurd (of_decide_eq_true c) (by have := z.1; omega)) (Same.refl _)) (fun c0 => ?_)⟩
  have i1 : 1 ≤ b.ins := by
    have c' : ¬ b.ins < 1 := fun z => c0 (decide_eq_true z)
    omega
  refine ⟨_, rfl, ga, rfl, ⟨_, hg⟩, for_enum (K := K) (a := ga) (xs := gs) (fun i σ H2 => ∃ (o3 o4 : Option V), σ = [some (.int b.ins), some (.ref ga), some (.ref oa), o3, o4] ∧ Same H H2 ∧ ∀ (k : Nat) g, k < i → b.gates[k]? = some g → GoodGt (b.ins + k) g) ⟨_, _, rfl, Same.refl _, fun k g z => absurd z (by omega)⟩ (fun i σ H2 _ ⟨_, _, _, s2, _⟩ => s2.seq hg) ?_ ?_⟩
  · rintro i x σ H2 T1 hx ⟨o3, o4, rfl, s2, gd⟩ h1
    have hi : i < gs.length := (List.getElem?_eq_some_iff.mp hx).1
    obtain ⟨g, hgk⟩ : ∃ g, b.gates[i]? = some g := ⟨_, List.getElem?_eq_getElem (by omega)⟩
    obtain ⟨d, hd, rv⟩ := rg.get hx
    rw [List.getElem?_map, hgk] at hd
    cases hd
    obtain ⟨a1, la, rfl, hA, hL⟩ := gate_at rv
    have s3 := s2.upd h1 (.tup [.int i, .ref a1])
    have l10 := l1000 g (List.mem_of_getElem? hgk)
    refine ⟨T1, _, rfl, .of upd_same, rfl, _, _, rfl, _, _, rfl, rfl, ?_⟩
    refine ⟨_, rfl, a1, _, _, _, rfl, rfl, s3.seqT hA, rfl, _, rfl, a1, _, _, _, rfl, rfl, s3.seqT hA, rfl, _, rfl, _, rfl, _, _, rfl, rfl, g.1, la, b.ins + (i : Int), g.2, rfl, s3.seqT hL, by omega, fun good H3 s4 => ⟨_, _, rfl, s3.trans s4, fun k g2 hk e => ?_⟩, fun nb => (rz fun z => nb (z.2.1 i g hgk)).on s3⟩
    by_cases z : k = i
    · subst z
      rw [hgk] at e
      cases e
      exact good
    · exact gd k g2 (by omega) e
  rintro σ H2 ⟨o3, o4, rfl, s2, gd⟩
  refine ⟨_, rfl, oa, _, rfl, .inl (s2.seq ho), rfl, _, rfl, ite2 (fun c => up (fun z => ?_) s2) (fun c1 => ?_)⟩
  · have := V.int.inj (of_decide_eq_true c)
    have := z.2.2.1
    omega
  have o1 : 1 ≤ b.outs.length := by
    have c' : ¬ V.int ((os.length : Nat) : Int) = V.int 0 := fun z => c1 (decide_eq_true z)
    have : os.length ≠ 0 := fun z => c' (by rw [z]; rfl)
    omega
  refine ⟨_, rfl, _, rfl, _, rfl, ga, _, rfl, .inl (s2.seq hg), _, _, rfl, rfl, oa, _, b.outs, rfl, .inl (by rw [← eo]; exact s2.seq ho), by omega, fun H3 s3 => ?_⟩
  cases e3 : b.outs.all fun n => decide (0 ≤ n ∧ n < b.ins + ((gs.length : Nat) : Int)) with
  | false =>
    refine ⟨_, rfl, iteT (up (fun z => ?_) (s2.trans s3))⟩
    rw [List.all_eq_true.mpr fun o ho => decide_eq_true (by have := z.2.2.2 o ho; rw [lg]; exact this)] at e3
    cases e3
  | true =>
    have good : GoodW b := ⟨i1, fun k g e => gd k g (by have := (List.getElem?_eq_some_iff.mp e).1; omega) e, o1, fun o ho => by
      have := of_decide_eq_true (List.all_eq_true.mp e3 o ho)
      rw [lg] at this
      exact this⟩
    refine ⟨_, rfl, iteF ?_⟩
    have s23 := s2.trans s3
    refine ⟨_, rfl, _, rfl, ga, _, rfl, .inl (s23.seq hg), fun g hgn => ?_⟩
    have k1 := same_upd hgn (.lst gs)
    refine ⟨_, rfl, oa, _, rfl, .inl ((s23.trans k1).seq ho), fun o hon => ?_⟩
    have k2 := same_upd hon (.lst os)
    refine ⟨(by show 3 ≤ sizeLine; decide), fun r hrn => ?_⟩
    have k3 := same_upd hrn (.tup [.int b.ins, .ref g, .ref o])
    have sF := ((s23.trans k1).trans k2).trans k3
    exact q good r _ sF (.tup (.of upd_same) (.cons (.int _) (.cons (.lst (.of ((k2.trans k3) _ _ upd_same)) (rg.mono sF)) (.cons (.lst (.of (k3 _ _ upd_same)) (ro.mono sF)) .nil))))
theorem ok_works_of (T : Txt K mg t) : FnOk P w K mg base CX0 3 t.f_works_of t.fd_works_of ["inputs", "gates", "outputs"] (fun vs H Q _ => sp_woG K vs H Q fun _ _ _ => False) := calmF (okX_works_of T)
theorem sc_read_works : FnScope ["text", "rows", "first", "last", "gates"] ["text"] (defScope s_read_works) := ⟨rfl, rfl, rfl, by decide +kernel, rfl, by decide +kernel, by decide +kernel⟩
theorem okX_read_works (T : Txt K mg t) : FnOk P w K mg base (CXC P w (.ref t.x_NoText)) 4 t.f_read_works t.fd_read_works ["text"] (sp_rdwX K) := by
  refine T.d_read_works.F.okC sc_read_works (fun vs H Q E h => ?_) (fun cdv A outer s H vs Q E hr h => ?_)
  · obtain ⟨z, rfl, _⟩ := h
    rfl
  obtain ⟨z, rfl, tx, q, rz⟩ := h
  have hu64 := hr.units
  have sl : sizeLine = 16777216 := by decide
  have lz := tx.1
  have ez : z.cps.toList.length = z.length := Array.length_toList
  have lp : (cutL 10 z.cps.toList).length ≤ 601 := by
    have := (cut_parts 10 z.cps.toList).2
    omega
  refine ⟨_, (bpss_cons (bps_setCX (k := 1) rfl (N := ["row"]) (n := 1) (cap := []) (blk_of rfl rfl) sc_read_works.nd rfl rfl (bpi_list (bpe_bm PySem.F.plainAttrs_str PySem.F.slot_str_split PySem.F.type_str_split mt_splitA (bpv 0) (bpa_cons bpe_str (bpa_nil)))) (keep_name (by decide)) (fun _ _ _ _ => (bpg_name (k := 0) (show (["row"] : List Str).Nodup by decide +kernel) rfl (Or.inl rfl))) (fun _ _ _ _ => bpts_nil) (fun _ _ _ _ o => (bpe_call (okX_read_row T) (hr.mono (by decide)) rfl T.d_read_row.m T.d_read_row.F.kp T.d_read_row.b .nil (passCompC o) (bpa_cons (bpv 0) (bpa_nil)))) rfl)
    (bpss_cons (bps_set (k := 2) sc_read_works.nd rfl (Or.inl rfl) (bpe_ix ix_list (bpv 1) bpe_int (fun _ _ => rfl)))
    (bpss_cons (bps_set (k := 3) sc_read_works.nd rfl (Or.inl rfl) (bpe_ix ix_list (bpv 1) (bpe_un un_neg bpe_int) (fun _ _ => rfl)))
    (bpss_cons (bps_if (bPW_pt (bpw_or (bpt_cmpR op_ne (bpe_ix ix_tup (bpv 2) bpe_int (fun _ _ => rfl)) bpe_str (nomark _)) (bpw_or1 (bpt_cmpR op_ne (bpe_callB call_len_seq rfl T.z_len PySem.boot_len (bpa_cons (bpe_ix ix_tup (bpv 2) bpe_int (fun _ _ => rfl)) (bpa_nil))) bpe_int (nomark _))))) (bpss_one (bps_raise PySem.F.excBase_ValueError T.k_NoText.ex rfl rfl T.g_NoText raiseC (bpa_cons bpe_str bpa_nil))) bpss_nil)
    (bpss_cons (bps_if (bpt_cmpR op_ne (bpe_ix ix_tup (bpv 3) bpe_int (fun _ _ => rfl)) bpe_str (nomark _)) (bpss_one (bps_raise PySem.F.excBase_ValueError T.k_NoText.ex rfl rfl T.g_NoText raiseC (bpa_cons bpe_str bpa_nil))) bpss_nil)
    (bpss_cons (bps_set (k := 4) sc_read_works.nd rfl (Or.inl rfl) (bpe_slice sl_list (bpv 1) (bpo_some bpe_int) (bpo_some (bpe_un un_neg bpe_int))))
    (bpss_cons (bps_if (bpt_not (bpt_val (bpe_callB (call_allL rfl) rfl T.z_all PyProof.Rows.boot_all (bpa_cons (bpe_comp rfl (N := ["kind", "legs"]) (n := 2) (cap := []) (blk_of rfl rfl) (bpi_list (bpv 4)) (keep_pair (by decide) (by decide)) (fun _ _ _ _ => (bpg_tupK (K := K) (n := 2) rfl (bpgs_cons (bpg_name (k := 0) (show (["kind", "legs"] : List Str).Nodup by decide +kernel) rfl (Or.inl rfl)) (bpgs_cons (bpg_name (k := 1) (show (["kind", "legs"] : List Str).Nodup by decide +kernel) rfl (Or.inl rfl)) bpgs_nil)))) (fun _ _ _ _ => bpts_nil) (fun _ _ _ _ => (bpe_call (ok_is_kind T) (hr.mono (by decide)) rfl T.d_is_kind.m T.d_is_kind.F.kp T.d_is_kind.b .nil pass0 (bpa_cons (bpv 0) (bpa_nil))))) (bpa_nil))))) (bpss_one (bps_raise PySem.F.excBase_ValueError T.k_NoText.ex rfl rfl T.g_NoText raiseC (bpa_cons bpe_str bpa_nil))) bpss_nil)
    (bpss_one (bps_ret (bpe_call (ok_works_of T) (hr.mono (by decide)) rfl T.d_works_of.m T.d_works_of.F.kp T.d_works_of.b .nil pass0 (bpa_cons (bpe_ix ix_tup (bpe_ix ix_tup (bpv 2) bpe_int (fun _ _ => rfl)) bpe_int (fun _ _ => rfl)) ( bpa_cons (bpv 4) ( bpa_cons (bpe_callTy call_list_of rfl T.z_list PyProof.Rows.boot_list (bpa_cons (bpe_ix ix_tup (bpv 3) bpe_int (fun _ _ => rfl)) (bpa_nil))) (bpa_nil)))))))))))))), ?_⟩
  refine ⟨_, rfl, rfl, z, 10, Str.ofString "\n", rfl, rfl, feedA, (by decide +kernel), by omega, fun S hS => ?_⟩
  have kS := same_upd hS (.lst ((cutL 10 z.cps.toList).map fun p => V.str ⟨p.toArray⟩))
  have eS : (upd H S (.lst ((cutL 10 z.cps.toList).map fun p => V.str ⟨p.toArray⟩))) S = some (.lst ((cutL 10 z.cps.toList).map fun p => V.str ⟨p.toArray⟩)) := upd_same
  generalize upd H S (.lst ((cutL 10 z.cps.toList).map fun p => V.str ⟨p.toArray⟩)) = H1 at kS eS
  refine ⟨S, rfl, ⟨_, .of eS⟩, fun D hD => comp_list (K := K) (a := S) (xs := (cutL 10 z.cps.toList).map fun p => V.str ⟨p.toArray⟩)
    (fun j H4 => ∃ (us : List V) (G : Hp) (rs : List TRow), Same H1 G ∧ Off [D] G H4 ∧ H4 D = some (.lst us) ∧ Reps K G us (rs.map fun r => gateD (gateN r)) ∧ allO rowN ((cutL 10 z.cps.toList).take j) = some rs)
    ⟨[], H1, [], Same.refl _, Off.start hD _, upd_same, .nil, rfl⟩ (fun j H4 _ z => by obtain ⟨_, _, _, sG, oG, _⟩ := z; exact .of ((sG.trans oG.same) _ _ eS)) ?_ ?_⟩
  · rintro j y H4 hy ⟨us, G, rs, sG, oG, eD, rus, ers⟩
    rw [List.getElem?_map] at hy
    cases hz : (cutL 10 z.cps.toList)[j]? with
    | none => rw [hz] at hy; cases hy
    | some p =>
      rw [hz] at hy
      cases hy
      have pm := List.mem_of_getElem? hz
      have lj := (List.getElem?_eq_some_iff.mp hz).1
      have lr := allO_len ers
      have lu : us.length = rs.length := by rw [rus.length, List.length_map]
      rw [List.length_take] at lr
      obtain ⟨w, ps, ec⟩ : ∃ w ps, cutL 32 p = w :: ps := by
        cases e : cutL 32 p with
        | nil => exact absurd e (cutL_ne _ _)
        | cons w ps => exact ⟨w, ps, rfl⟩
      refine ⟨_, rfl, ⟨p.toArray⟩, w, ps, rfl, tx.part pm, by rw [tlA]; exact ec, fun ns en r1 q1 H5 s5 nr nq er eq => ?_, fun en => ?_⟩
      · have e1 : rowN p = some (w, ns) := by
          unfold rowN
          rw [ec]
          show (numsL ps).map _ = _
          rw [en]
          rfl
        refine ⟨us, s5 _ _ eD, big (by omega), us ++ [.ref r1], newsOf G H4 H5, rs ++ [(w, ns)], sG.trans (newsOf_same oG.same), (newsOf_off oG s5).write (.head _) _, upd_same, ?_, ?_⟩
        · rw [List.map_append]
          exact (rus.mono (newsOf_same oG.same)).snoc (.tup (.of (by rw [newsOf_new nr]; exact er)) (.cons (.str _) (.cons (.tup (.of (by rw [newsOf_new nq]; exact eq)) (Reps.ints _)) .nil)))
        · rw [List.take_add_one, hz]
          exact allO_snoc e1 ers
      · have e1 : rowN p = none := by
          unfold rowN
          rw [ec]
          show (numsL ps).map _ = _
          rw [en]
          rfl
        exact (rz (by rintro ⟨b, rs, e, _⟩; unfold rowsN at e; rw [allO_bad e1 pm] at e; cases e)).on (kS.trans (sG.trans oG.same))
  rintro H4 ⟨us, G, rs, sG, oG, eD, rus, ers⟩
  rw [List.length_map, List.take_length] at ers
  have lr := allO_len ers
  have s04 := (kS.trans sG).trans oG.same
  have ru := rus.mono oG.same
  have bad : ∀ {H2 : Hp}, Same H4 H2 → (¬ ∃ b, Told rs b) → 1 ≤ sizeLine ∧ ∀ x, H2 x = none → E (.ref x) (some x) H2 := fun s2 h => ⟨(by decide), fun x hx => rz (by rintro ⟨b, rs', e, tb⟩; unfold rowsN at e; rw [ers] at e; cases e; exact h ⟨b, tb⟩) _ x (s04.trans s2) hx⟩
  obtain ⟨v0, ut, r0, rt, rfl, rfl, rv0⟩ : ∃ v0 ut r0 rt, us = v0 :: ut ∧ rs = r0 :: rt ∧ Rep K H4 v0 (gateD (gateN r0)) := by
    cases rs with
    | nil => exact absurd (List.length_eq_zero_iff.mp lr.symm) (cutL_ne _ _)
    | cons r0 rt =>
      cases ru with
      | cons h _ => exact ⟨_, _, _, _, rfl, rfl, h⟩
  obtain ⟨vl, rl, el, elr, rvl⟩ : ∃ vl rl, (v0 :: ut).getLast? = some vl ∧ (r0 :: rt).getLast? = some rl ∧ Rep K H4 vl (gateD (gateN rl)) := by
    have h1 : (v0 :: ut)[(v0 :: ut).length - 1]? = (v0 :: ut).getLast? := by rw [List.getLast?_eq_getElem?]
    have h2 : (r0 :: rt)[(r0 :: rt).length - 1]? = (r0 :: rt).getLast? := by rw [List.getLast?_eq_getElem?]
    have e1 : (v0 :: ut).length = (r0 :: rt).length := by rw [ru.length, List.length_map]
    obtain ⟨rl, erl⟩ : ∃ rl, (r0 :: rt).getLast? = some rl := ⟨_, List.getLast?_eq_some_getLast (List.cons_ne_nil _ _)⟩
    obtain ⟨vl, evl⟩ : ∃ vl, (v0 :: ut).getLast? = some vl := ⟨_, List.getLast?_eq_some_getLast (List.cons_ne_nil _ _)⟩
    obtain ⟨d, hd, rv⟩ := ru.get (h1.trans evl)
    rw [List.getElem?_map, e1, h2, erl] at hd
    cases hd
    exact ⟨vl, rl, evl, erl, rv⟩
  obtain ⟨a0, l0, rfl, h0, hl0⟩ := gate_at rv0
  obtain ⟨al, ll, rfl, hal, hll⟩ := gate_at rvl
  have eD' := eD
  refine ⟨_, rfl, D, _, _, _, rfl, rfl, .of eD, atI_nat (j := 0) rfl, ?_⟩
  refine ⟨_, rfl, _, rfl, D, _, _, _, rfl, rfl, .of eD, atI_lastD el, ?_⟩
  refine ⟨_, rfl, a0, _, _, _, rfl, rfl, h0, rfl, rfl, _, rfl, ite2 (fun c => iteT (bad (Same.refl _) ?_)) (fun c => ?_)⟩
  · rintro ⟨b, i, gs, os, e, _⟩
    have : r0 = (inW, [i]) := (List.cons.inj e).1
    rw [this] at c
    rw [decide_eq_true (show V.str (gateN (inW, [i])).1 = V.str (Str.ofString "in") by rw [in_eq]; rfl)] at c
    cases c
  have ein : r0.1 = inW := strWA.mp (by
    rw [← in_eq]
    exact ndec c)
  refine ⟨_, rfl, a0, _, _, _, rfl, rfl, h0, rfl, l0, _, rfl, .inr hl0, rfl, _, rfl, ite2 (fun c2 => bad (Same.refl _) ?_) (fun c2 => ?_)⟩
  · rintro ⟨b, i, gs, os, e, _⟩
    have : r0 = (inW, [i]) := (List.cons.inj e).1
    rw [this, decide_eq_true (show V.int ((((gateN (inW, [i])).2.map V.int).length : Nat) : Int) = V.int 1 from rfl)] at c2
    cases c2
  have e1n : r0.2.length = 1 := by
    have : V.int ((((gateN r0).2.map V.int).length : Nat) : Int) = V.int 1 := Decidable.byContradiction fun z => c2 (by rw [decide_eq_false z]; rfl)
    have := V.int.inj this
    rw [List.length_map] at this
    show (gateN r0).2.length = 1
    omega
  obtain ⟨i0, ei0⟩ : ∃ i0, r0 = (inW, [i0]) := by
    obtain ⟨x, y⟩ := r0
    cases y with
    | nil => cases e1n
    | cons i0 y =>
      cases y with
      | nil => cases ein; exact ⟨i0, rfl⟩
      | cons _ _ => cases e1n
  subst ei0
  refine ⟨_, rfl, al, _, _, _, rfl, rfl, hal, rfl, rfl, _, rfl, ite2 (fun c3 => bad (Same.refl _) ?_) (fun c3 => ?_)⟩
  · rintro ⟨b, i, gs, os, e, _⟩
    rw [e, ← List.cons_append, List.getLast?_concat] at elr
    cases elr
    rw [decide_eq_true (show V.str (gateN (outW, os)).1 = V.str (Str.ofString "out") by rw [out_eq]; rfl)] at c3
    cases c3
  have eout : rl.1 = outW := strWA.mp (by
    rw [← out_eq]
    exact ndec c3)
  obtain ⟨gs, os, ert⟩ : ∃ gs os, rt = gs ++ [(outW, os)] := by
    cases rt with
    | nil =>
      have : rl = (inW, [i0]) := (Option.some.inj elr).symm
      rw [this] at eout
      exact absurd eout (by decide : ¬ inW = outW)
    | cons r1 rt =>
      rw [List.getLast?_cons_cons] at elr
      refine ⟨(r1 :: rt).dropLast, rl.2, ?_⟩
      have := List.dropLast_concat_getLast (List.cons_ne_nil r1 rt)
      rw [List.getLast?_eq_some_getLast (List.cons_ne_nil _ _)] at elr
      rw [Option.some.inj elr] at this
      rw [← eout]
      exact this.symm
  subst ert
  have erl : rl = (outW, os) := by
    rw [← List.cons_append, List.getLast?_concat] at elr
    exact (Option.some.inj elr).symm
  subst erl
  obtain ⟨vg, rfl, rgs⟩ : ∃ vg, ut = vg ++ [.ref al] ∧ Reps K H4 vg ((gs.map gateN).map gateD) := by
    cases ru with
    | cons _ rt2 =>
      rw [List.map_append] at rt2
      obtain ⟨vg, ys, rfl, h1, h2⟩ := reps_splitA rt2
      cases h2 with
      | cons hv hn =>
        cases hn
        rw [← List.cons_append, List.getLast?_concat] at el
        refine ⟨vg, by rw [Option.some.inj el], ?_⟩
        rw [List.map_map]
        exact h1
  have lvg : vg.length = gs.length := by rw [rgs.length, List.length_map, List.length_map]
  have lgs : gs.length ≤ 600 := by
    rw [List.length_cons, List.length_append, List.length_singleton] at lr
    omega
  refine ⟨_, rfl, _, rfl, _, rfl, _, rfl, D, _, rfl, .of eD, fun Gd hG => ?_⟩
  rw [show (-(1 : Int)) = -1 from rfl, cut_innerA]
  have kG := same_upd hG (.lst vg)
  have eG : (upd H4 Gd (.lst vg)) Gd = some (.lst vg) := upd_same
  have rg5 := rgs.mono kG
  have h05 := kG.seqT h0
  have hl05 := kG.seqT hl0
  have hal5 := kG.seqT hal
  have hll5 := kG.seqT hll
  generalize upd H4 Gd (.lst vg) = H5 at kG eG rg5 h05 hl05 hal5 hll5
  refine ⟨_, rfl, Gd, rfl, ⟨_, .of eG⟩, fun D2 hD2 => comp_list (K := K) (a := Gd) (xs := vg) (fun j H6 => Same H5 H6 ∧ H6 D2 = some (.lst (((gs.take j).map fun g => PyProof.Rows.KTD.inKeys (gateN g).1 tab_LEG_BOUNDS).map V.bl))) ⟨same_upd hD2 _, upd_same⟩ (fun j H6 _ z => .of (z.1 _ _ eG)) ?_ ?_⟩
  · rintro j y H6 hy ⟨s6, eD2⟩
    obtain ⟨dd, hdd, ry⟩ := rg5.get hy
    rw [List.getElem?_map, List.getElem?_map] at hdd
    cases hz : gs[j]? with
    | none => rw [hz] at hdd; cases hdd
    | some g =>
      rw [hz] at hdd
      cases hdd
      obtain ⟨b, la, rfl, hb, hla⟩ := gate_at ry
      have lj : j < gs.length := (List.getElem?_eq_some_iff.mp hz).1
      refine ⟨b, _, rfl, s6.seqT hb, rfl, _, _, rfl, _, _, rfl, rfl, ?_⟩
      refine ⟨_, rfl, (gateN g).1, rfl, ?_⟩
      refine ⟨_, eD2, big (by rw [List.length_map, List.length_map, List.length_take]; omega), s6.write hD2 _, ?_⟩
      rw [upd_same, List.take_add_one, hz, List.map_append, List.map_append]
      rfl
  rintro H6 ⟨s6, eD2⟩
  rw [lvg, List.take_length] at eD2
  refine ⟨D2, _, rfl, .of eD2, _, rfl, ?_⟩
  cases ek : (gs.map fun g => PyProof.Rows.KTD.inKeys (gateN g).1 tab_LEG_BOUNDS).all id with
  | false =>
    refine iteT (bad (kG.trans s6) ?_)
    rintro ⟨b, i, gs2, os2, e, hk, _⟩
    have e1 : os = os2 := by
      have := congrArg List.getLast? (List.cons.inj e).2
      rw [List.getLast?_concat, List.getLast?_concat] at this
      exact (Prod.mk.inj (Option.some.inj this)).2
    subst e1
    have e2 := List.append_cancel_right (List.cons.inj e).2
    subst e2
    rw [List.all_eq_true.mpr fun x hx => by
      obtain ⟨g, hg, rfl⟩ := List.mem_map.mp hx
      obtain ⟨_, _, _, e3, _⟩ := yes_keys (hk g hg)
      exact e3] at ek
    cases ek
  | true =>
    have hk : ∀ g ∈ gs, isKind (gateN g).1 := fun g hg => by
      refine Classical.byContradiction fun z => ?_
      have := List.all_eq_true.mp ek _ (List.mem_map_of_mem (f := fun g => PyProof.Rows.KTD.inKeys (gateN g).1 tab_LEG_BOUNDS) hg)
      rw [no_keys z] at this
      cases this
    have tb : ToldT z ⟨i0, gs.map gateN, os⟩ := ⟨_, ers, i0, gs, os, rfl, hk, rfl⟩
    refine iteF ?_
    obtain ⟨good, q2⟩ := q _ tb
    refine ⟨_, rfl, a0, _, _, _, rfl, rfl, s6.seqT h05, rfl, l0, _, _, _, rfl, rfl, s6.seqT hl05, rfl, _, rfl, _, rfl, al, _, _, _, rfl, rfl, s6.seqT hal5, rfl, ll, _, rfl, .inr (s6.seqT hll5), fun Lo hLo => ?_⟩
    have kLo := same_upd hLo (.lst (os.map V.int))
    refine ⟨⟨i0, gs.map gateN, os⟩, Gd, Lo, vg, os.map V.int, rfl, .of ((s6.trans kLo) _ _ eG), .of upd_same, rg5.mono (s6.trans kLo), Reps.ints _, ?_, ?_, ?_, fun _ r H8 s8 rr => ?_, fun nb => absurd good nb⟩
    · rw [List.length_map]; omega
    · have := rows_small tx ers (outW, os) (.tail _ (List.mem_append_right _ (.head _)))
      show os.length ≤ 1000
      have h : os.length ≤ 601 := this
      omega
    · intro g hg
      obtain ⟨r, hr1, rfl⟩ := List.mem_map.mp hg
      have h : r.2.length ≤ 601 := rows_small tx ers r (.tail _ (List.mem_append_left _ hr1))
      show r.2.length ≤ 1000
      omega
    · exact q2 r H8 ((((s04.trans kG).trans s6).trans kLo).trans s8) rr
theorem okN_read_works (T : Txt K mg t) : FnOk P w K mg base (CXC P w (.ref t.x_NoWorks)) 4 t.f_read_works t.fd_read_works ["text"] (sp_rdwN K) := by
  refine T.d_read_works.F.okC sc_read_works (fun vs H Q E h => ?_) (fun cdv A outer s H vs Q E hr h => ?_)
  · obtain ⟨z, b0, rfl, _⟩ := h
    rfl
  obtain ⟨z, b0, rfl, tx, ⟨rs0, ers0, tb0⟩, nb, rz⟩ := h
  unfold rowsN at ers0
  have hu64 := hr.units
  have sl : sizeLine = 16777216 := by decide
  have lz := tx.1
  have ez : z.cps.toList.length = z.length := Array.length_toList
  have lp : (cutL 10 z.cps.toList).length ≤ 601 := by
    have := (cut_parts 10 z.cps.toList).2
    omega
  refine ⟨_, (bpss_cons (bps_setC (k := 1) rfl (N := ["row"]) (n := 1) (cap := []) (blk_of rfl rfl) sc_read_works.nd rfl rfl (bpi_list (bpe_bm PySem.F.plainAttrs_str PySem.F.slot_str_split PySem.F.type_str_split mt_splitA (bpv 0) (bpa_cons bpe_str (bpa_nil)))) (keep_name (by decide)) (fun _ _ _ _ => (bpg_name (k := 0) (show (["row"] : List Str).Nodup by decide +kernel) rfl (Or.inl rfl))) (fun _ _ _ _ => bpts_nil) (fun _ _ _ _ => (bpe_call (ok_read_row T) (hr.mono (by decide)) rfl T.d_read_row.m T.d_read_row.F.kp T.d_read_row.b .nil pass0 (bpa_cons (bpv 0) (bpa_nil)))) rfl)
    (bpss_cons (bps_set (k := 2) sc_read_works.nd rfl (Or.inl rfl) (bpe_ix ix_list (bpv 1) bpe_int (fun _ _ => rfl)))
    (bpss_cons (bps_set (k := 3) sc_read_works.nd rfl (Or.inl rfl) (bpe_ix ix_list (bpv 1) (bpe_un un_neg bpe_int) (fun _ _ => rfl)))
    (bpss_cons (bps_if (bPW_pt (bpw_or (bpt_cmpR op_ne (bpe_ix ix_tup (bpv 2) bpe_int (fun _ _ => rfl)) bpe_str (nomark _)) (bpw_or1 (bpt_cmpR op_ne (bpe_callB call_len_seq rfl T.z_len PySem.boot_len (bpa_cons (bpe_ix ix_tup (bpv 2) bpe_int (fun _ _ => rfl)) (bpa_nil))) bpe_int (nomark _))))) (bpss_one bps_never) bpss_nil)
    (bpss_cons (bps_if (bpt_cmpR op_ne (bpe_ix ix_tup (bpv 3) bpe_int (fun _ _ => rfl)) bpe_str (nomark _)) (bpss_one bps_never) bpss_nil)
    (bpss_cons (bps_set (k := 4) sc_read_works.nd rfl (Or.inl rfl) (bpe_slice sl_list (bpv 1) (bpo_some bpe_int) (bpo_some (bpe_un un_neg bpe_int))))
    (bpss_cons (bps_if (bpt_not (bpt_val (bpe_callB (call_allL rfl) rfl T.z_all PyProof.Rows.boot_all (bpa_cons (bpe_comp rfl (N := ["kind", "legs"]) (n := 2) (cap := []) (blk_of rfl rfl) (bpi_list (bpv 4)) (keep_pair (by decide) (by decide)) (fun _ _ _ _ => (bpg_tupK (K := K) (n := 2) rfl (bpgs_cons (bpg_name (k := 0) (show (["kind", "legs"] : List Str).Nodup by decide +kernel) rfl (Or.inl rfl)) (bpgs_cons (bpg_name (k := 1) (show (["kind", "legs"] : List Str).Nodup by decide +kernel) rfl (Or.inl rfl)) bpgs_nil)))) (fun _ _ _ _ => bpts_nil) (fun _ _ _ _ => (bpe_call (ok_is_kind T) (hr.mono (by decide)) rfl T.d_is_kind.m T.d_is_kind.F.kp T.d_is_kind.b .nil pass0 (bpa_cons (bpv 0) (bpa_nil))))) (bpa_nil))))) (bpss_one bps_never) bpss_nil)
    (bpss_one (bps_ret (bpe_call (okX_works_of T) (hr.mono (by decide)) rfl T.d_works_of.m T.d_works_of.F.kp T.d_works_of.b .nil passC (bpa_cons (bpe_ix ix_tup (bpe_ix ix_tup (bpv 2) bpe_int (fun _ _ => rfl)) bpe_int (fun _ _ => rfl)) ( bpa_cons (bpv 4) ( bpa_cons (bpe_callTy call_list_of rfl T.z_list PyProof.Rows.boot_list (bpa_cons (bpe_ix ix_tup (bpv 3) bpe_int (fun _ _ => rfl)) (bpa_nil))) (bpa_nil)))))))))))))), ?_⟩
  refine ⟨_, rfl, rfl, z, 10, Str.ofString "\n", rfl, rfl, feedA, (by decide +kernel), by omega, fun S hS => ?_⟩
  have kS := same_upd hS (.lst ((cutL 10 z.cps.toList).map fun p => V.str ⟨p.toArray⟩))
  have eS : (upd H S (.lst ((cutL 10 z.cps.toList).map fun p => V.str ⟨p.toArray⟩))) S = some (.lst ((cutL 10 z.cps.toList).map fun p => V.str ⟨p.toArray⟩)) := upd_same
  generalize upd H S (.lst ((cutL 10 z.cps.toList).map fun p => V.str ⟨p.toArray⟩)) = H1 at kS eS
  refine ⟨S, rfl, ⟨_, .of eS⟩, fun D hD => comp_list (K := K) (a := S) (xs := (cutL 10 z.cps.toList).map fun p => V.str ⟨p.toArray⟩)
    (fun j H4 => ∃ (us : List V) (G : Hp) (rs : List TRow), Same H1 G ∧ Off [D] G H4 ∧ H4 D = some (.lst us) ∧ Reps K G us (rs.map fun r => gateD (gateN r)) ∧ allO rowN ((cutL 10 z.cps.toList).take j) = some rs)
    ⟨[], H1, [], Same.refl _, Off.start hD _, upd_same, .nil, rfl⟩ (fun j H4 _ z => by obtain ⟨_, _, _, sG, oG, _⟩ := z; exact .of ((sG.trans oG.same) _ _ eS)) ?_ ?_⟩
  · rintro j y H4 hy ⟨us, G, rs, sG, oG, eD, rus, ers⟩
    rw [List.getElem?_map] at hy
    cases hz : (cutL 10 z.cps.toList)[j]? with
    | none => rw [hz] at hy; cases hy
    | some p =>
      rw [hz] at hy
      cases hy
      have pm := List.mem_of_getElem? hz
      have lj := (List.getElem?_eq_some_iff.mp hz).1
      have lr := allO_len ers
      have lu : us.length = rs.length := by rw [rus.length, List.length_map]
      rw [List.length_take] at lr
      obtain ⟨w, ps, ec⟩ : ∃ w ps, cutL 32 p = w :: ps := by
        cases e : cutL 32 p with
        | nil => exact absurd e (cutL_ne _ _)
        | cons w ps => exact ⟨w, ps, rfl⟩
      refine ⟨_, rfl, ⟨p.toArray⟩, w, ps, rfl, tx.part pm, by rw [tlA]; exact ec, fun ns en r1 q1 H5 s5 nr nq er eq => ?_, fun en => ?_⟩
      · have e1 : rowN p = some (w, ns) := by
          unfold rowN
          rw [ec]
          show (numsL ps).map _ = _
          rw [en]
          rfl
        refine ⟨us, s5 _ _ eD, big (by omega), us ++ [.ref r1], newsOf G H4 H5, rs ++ [(w, ns)], sG.trans (newsOf_same oG.same), (newsOf_off oG s5).write (.head _) _, upd_same, ?_, ?_⟩
        · rw [List.map_append]
          exact (rus.mono (newsOf_same oG.same)).snoc (.tup (.of (by rw [newsOf_new nr]; exact er)) (.cons (.str _) (.cons (.tup (.of (by rw [newsOf_new nq]; exact eq)) (Reps.ints _)) .nil)))
        · rw [List.take_add_one, hz]
          exact allO_snoc e1 ers
      · have e1 : rowN p = none := by
          unfold rowN
          rw [ec]
          show (numsL ps).map _ = _
          rw [en]
          rfl
        rw [allO_bad e1 pm] at ers0
        cases ers0
  rintro H4 ⟨us, G, rs, sG, oG, eD, rus, ers⟩
  rw [List.length_map, List.take_length] at ers
  have lr := allO_len ers
  have s04 := (kS.trans sG).trans oG.same
  have ru := rus.mono oG.same
  rw [ers] at ers0
  have e00 : rs0 = rs := (Option.some.inj ers0).symm
  rw [e00] at tb0
  clear ers0 e00
  have bad : ∀ {p : Prop} {H2 : Hp}, Same H4 H2 → (¬ ∃ b, Told rs b) → p := fun _ h => absurd ⟨b0, tb0⟩ h
  obtain ⟨v0, ut, r0, rt, rfl, rfl, rv0⟩ : ∃ v0 ut r0 rt, us = v0 :: ut ∧ rs = r0 :: rt ∧ Rep K H4 v0 (gateD (gateN r0)) := by
    cases rs with
    | nil => exact absurd (List.length_eq_zero_iff.mp lr.symm) (cutL_ne _ _)
    | cons r0 rt =>
      cases ru with
      | cons h _ => exact ⟨_, _, _, _, rfl, rfl, h⟩
  obtain ⟨vl, rl, el, elr, rvl⟩ : ∃ vl rl, (v0 :: ut).getLast? = some vl ∧ (r0 :: rt).getLast? = some rl ∧ Rep K H4 vl (gateD (gateN rl)) := by
    have h1 : (v0 :: ut)[(v0 :: ut).length - 1]? = (v0 :: ut).getLast? := by rw [List.getLast?_eq_getElem?]
    have h2 : (r0 :: rt)[(r0 :: rt).length - 1]? = (r0 :: rt).getLast? := by rw [List.getLast?_eq_getElem?]
    have e1 : (v0 :: ut).length = (r0 :: rt).length := by rw [ru.length, List.length_map]
    obtain ⟨rl, erl⟩ : ∃ rl, (r0 :: rt).getLast? = some rl := ⟨_, List.getLast?_eq_some_getLast (List.cons_ne_nil _ _)⟩
    obtain ⟨vl, evl⟩ : ∃ vl, (v0 :: ut).getLast? = some vl := ⟨_, List.getLast?_eq_some_getLast (List.cons_ne_nil _ _)⟩
    obtain ⟨d, hd, rv⟩ := ru.get (h1.trans evl)
    rw [List.getElem?_map, e1, h2, erl] at hd
    cases hd
    exact ⟨vl, rl, evl, erl, rv⟩
  obtain ⟨a0, l0, rfl, h0, hl0⟩ := gate_at rv0
  obtain ⟨al, ll, rfl, hal, hll⟩ := gate_at rvl
  have eD' := eD
  refine ⟨_, rfl, D, _, _, _, rfl, rfl, .of eD, atI_nat (j := 0) rfl, ?_⟩
  refine ⟨_, rfl, _, rfl, D, _, _, _, rfl, rfl, .of eD, atI_lastD el, ?_⟩
  refine ⟨_, rfl, a0, _, _, _, rfl, rfl, h0, rfl, rfl, _, rfl, ite2 (fun c => iteT (bad (Same.refl _) ?_)) (fun c => ?_)⟩
  · rintro ⟨b, i, gs, os, e, _⟩
    have : r0 = (inW, [i]) := (List.cons.inj e).1
    rw [this] at c
    rw [decide_eq_true (show V.str (gateN (inW, [i])).1 = V.str (Str.ofString "in") by rw [in_eq]; rfl)] at c
    cases c
  have ein : r0.1 = inW := strWA.mp (by
    rw [← in_eq]
    exact ndec c)
  refine ⟨_, rfl, a0, _, _, _, rfl, rfl, h0, rfl, l0, _, rfl, .inr hl0, rfl, _, rfl, ite2 (fun c2 => bad (Same.refl _) ?_) (fun c2 => ?_)⟩
  · rintro ⟨b, i, gs, os, e, _⟩
    have : r0 = (inW, [i]) := (List.cons.inj e).1
    rw [this, decide_eq_true (show V.int ((((gateN (inW, [i])).2.map V.int).length : Nat) : Int) = V.int 1 from rfl)] at c2
    cases c2
  have e1n : r0.2.length = 1 := by
    have : V.int ((((gateN r0).2.map V.int).length : Nat) : Int) = V.int 1 := Decidable.byContradiction fun z => c2 (by rw [decide_eq_false z]; rfl)
    have := V.int.inj this
    rw [List.length_map] at this
    show (gateN r0).2.length = 1
    omega
  obtain ⟨i0, ei0⟩ : ∃ i0, r0 = (inW, [i0]) := by
    obtain ⟨x, y⟩ := r0
    cases y with
    | nil => cases e1n
    | cons i0 y =>
      cases y with
      | nil => cases ein; exact ⟨i0, rfl⟩
      | cons _ _ => cases e1n
  subst ei0
  refine ⟨_, rfl, al, _, _, _, rfl, rfl, hal, rfl, rfl, _, rfl, ite2 (fun c3 => bad (Same.refl _) ?_) (fun c3 => ?_)⟩
  · rintro ⟨b, i, gs, os, e, _⟩
    rw [e, ← List.cons_append, List.getLast?_concat] at elr
    cases elr
    rw [decide_eq_true (show V.str (gateN (outW, os)).1 = V.str (Str.ofString "out") by rw [out_eq]; rfl)] at c3
    cases c3
  have eout : rl.1 = outW := strWA.mp (by
    rw [← out_eq]
    exact ndec c3)
  obtain ⟨gs, os, ert⟩ : ∃ gs os, rt = gs ++ [(outW, os)] := by
    cases rt with
    | nil =>
      have : rl = (inW, [i0]) := (Option.some.inj elr).symm
      rw [this] at eout
      exact absurd eout (by decide : ¬ inW = outW)
    | cons r1 rt =>
      rw [List.getLast?_cons_cons] at elr
      refine ⟨(r1 :: rt).dropLast, rl.2, ?_⟩
      have := List.dropLast_concat_getLast (List.cons_ne_nil r1 rt)
      rw [List.getLast?_eq_some_getLast (List.cons_ne_nil _ _)] at elr
      rw [Option.some.inj elr] at this
      rw [← eout]
      exact this.symm
  subst ert
  have erl : rl = (outW, os) := by
    rw [← List.cons_append, List.getLast?_concat] at elr
    exact (Option.some.inj elr).symm
  subst erl
  obtain ⟨vg, rfl, rgs⟩ : ∃ vg, ut = vg ++ [.ref al] ∧ Reps K H4 vg ((gs.map gateN).map gateD) := by
    cases ru with
    | cons _ rt2 =>
      rw [List.map_append] at rt2
      obtain ⟨vg, ys, rfl, h1, h2⟩ := reps_splitA rt2
      cases h2 with
      | cons hv hn =>
        cases hn
        rw [← List.cons_append, List.getLast?_concat] at el
        refine ⟨vg, by rw [Option.some.inj el], ?_⟩
        rw [List.map_map]
        exact h1
  have lvg : vg.length = gs.length := by rw [rgs.length, List.length_map, List.length_map]
  have lgs : gs.length ≤ 600 := by
    rw [List.length_cons, List.length_append, List.length_singleton] at lr
    omega
  refine ⟨_, rfl, _, rfl, _, rfl, _, rfl, D, _, rfl, .of eD, fun Gd hG => ?_⟩
  rw [show (-(1 : Int)) = -1 from rfl, cut_innerA]
  have kG := same_upd hG (.lst vg)
  have eG : (upd H4 Gd (.lst vg)) Gd = some (.lst vg) := upd_same
  have rg5 := rgs.mono kG
  have h05 := kG.seqT h0
  have hl05 := kG.seqT hl0
  have hal5 := kG.seqT hal
  have hll5 := kG.seqT hll
  generalize upd H4 Gd (.lst vg) = H5 at kG eG rg5 h05 hl05 hal5 hll5
  refine ⟨_, rfl, Gd, rfl, ⟨_, .of eG⟩, fun D2 hD2 => comp_list (K := K) (a := Gd) (xs := vg) (fun j H6 => Same H5 H6 ∧ H6 D2 = some (.lst (((gs.take j).map fun g => PyProof.Rows.KTD.inKeys (gateN g).1 tab_LEG_BOUNDS).map V.bl))) ⟨same_upd hD2 _, upd_same⟩ (fun j H6 _ z => .of (z.1 _ _ eG)) ?_ ?_⟩
  · rintro j y H6 hy ⟨s6, eD2⟩
    obtain ⟨dd, hdd, ry⟩ := rg5.get hy
    rw [List.getElem?_map, List.getElem?_map] at hdd
    cases hz : gs[j]? with
    | none => rw [hz] at hdd; cases hdd
    | some g =>
      rw [hz] at hdd
      cases hdd
      obtain ⟨b, la, rfl, hb, hla⟩ := gate_at ry
      have lj : j < gs.length := (List.getElem?_eq_some_iff.mp hz).1
      refine ⟨b, _, rfl, s6.seqT hb, rfl, _, _, rfl, _, _, rfl, rfl, ?_⟩
      refine ⟨_, rfl, (gateN g).1, rfl, ?_⟩
      refine ⟨_, eD2, big (by rw [List.length_map, List.length_map, List.length_take]; omega), s6.write hD2 _, ?_⟩
      rw [upd_same, List.take_add_one, hz, List.map_append, List.map_append]
      rfl
  rintro H6 ⟨s6, eD2⟩
  rw [lvg, List.take_length] at eD2
  refine ⟨D2, _, rfl, .of eD2, _, rfl, ?_⟩
  cases ek : (gs.map fun g => PyProof.Rows.KTD.inKeys (gateN g).1 tab_LEG_BOUNDS).all id with
  | false =>
    refine iteT (bad (kG.trans s6) ?_)
    rintro ⟨b, i, gs2, os2, e, hk, _⟩
    have e1 : os = os2 := by
      have := congrArg List.getLast? (List.cons.inj e).2
      rw [List.getLast?_concat, List.getLast?_concat] at this
      exact (Prod.mk.inj (Option.some.inj this)).2
    subst e1
    have e2 := List.append_cancel_right (List.cons.inj e).2
    subst e2
    rw [List.all_eq_true.mpr fun x hx => by
      obtain ⟨g, hg, rfl⟩ := List.mem_map.mp hx
      obtain ⟨_, _, _, e3, _⟩ := yes_keys (hk g hg)
      exact e3] at ek
    cases ek
  | true =>
    have hk : ∀ g ∈ gs, isKind (gateN g).1 := fun g hg => by
      refine Classical.byContradiction fun z => ?_
      have := List.all_eq_true.mp ek _ (List.mem_map_of_mem (f := fun g => PyProof.Rows.KTD.inKeys (gateN g).1 tab_LEG_BOUNDS) hg)
      rw [no_keys z] at this
      cases this
    obtain ⟨i2, gs2, os2, e, _, rfl⟩ := tb0
    have e0 : i0 = i2 := by
      have := (Prod.mk.inj (List.cons.inj e).1).2
      exact (List.cons.inj this).1
    subst e0
    have e1 : os = os2 := by
      have := congrArg List.getLast? (List.cons.inj e).2
      rw [List.getLast?_concat, List.getLast?_concat] at this
      exact (Prod.mk.inj (Option.some.inj this)).2
    subst e1
    have e2 := List.append_cancel_right (List.cons.inj e).2
    subst e2
    refine iteF ?_
    refine ⟨_, rfl, a0, _, _, _, rfl, rfl, s6.seqT h05, rfl, l0, _, _, _, rfl, rfl, s6.seqT hl05, rfl, _, rfl, _, rfl, al, _, _, _, rfl, rfl, s6.seqT hal5, rfl, ll, _, rfl, .inr (s6.seqT hll5), fun Lo hLo => ?_⟩
    have kLo := same_upd hLo (.lst (os.map V.int))
    refine ⟨⟨i0, gs.map gateN, os⟩, Gd, Lo, vg, os.map V.int, rfl, .of ((s6.trans kLo) _ _ eG), .of upd_same, rg5.mono (s6.trans kLo), Reps.ints _, ?_, ?_, ?_, fun good => absurd good nb, fun _ => rz.on (((s04.trans kG).trans s6).trans kLo)⟩
    · rw [List.length_map]; omega
    · have := rows_small tx ers (outW, os) (.tail _ (List.mem_append_right _ (.head _)))
      show os.length ≤ 1000
      have h : os.length ≤ 601 := this
      omega
    · intro g hg
      obtain ⟨r, hr1, rfl⟩ := List.mem_map.mp hg
      have h : r.2.length ≤ 601 := rows_small tx ers r (.tail _ (List.mem_append_left _ hr1))
      show r.2.length ≤ 1000
      omega
theorem sc_law_number : FnScope ["word"] ["word"] (defScope s_law_number) := ⟨rfl, rfl, rfl, by decide +kernel, rfl, by decide +kernel, by decide +kernel⟩
theorem ok_law_number (T : Txt K mg t) : FnOk P w K mg base CX0 1 t.f_law_number t.fd_law_number ["word"] sp_lnum := by
  refine T.d_law_number.F.okB sc_law_number (fun vs H Q E h => ?_) (fun cdv A outer s H vs Q E hr h => ?_)
  · obtain ⟨z, rfl, _⟩ := h
    rfl
  obtain ⟨z, rfl, tx, qn, qs⟩ := h
  have hu64 := hr.units
  have sl : sizeLine = 16777216 := by decide
  have lz := tx.1
  have ez : z.cps.toList.length = z.length := Array.length_toList
  refine ⟨_, (bpss_cons (bps_if (bPW_pt (bpw_or (bpt_cmpR op_eq (bpv 0) bpe_str (nomark _)) (bpw_or (bpt_cmpR (op_ne0 hu64) (bpe_comp rfl (N := ["sign"]) (n := 1) (cap := []) (blk_of rfl rfl) (bpi_str (bpv 0)) (keep_name (by decide)) (fun _ _ _ _ => (bpg_name (k := 0) (show (["sign"] : List Str).Nodup by decide +kernel) rfl (Or.inl rfl))) (fun _ _ _ _ => (bpts_one (bpt_cmpR op_notin_str (bpv 0) bpe_str rfl))) (fun _ _ _ _ => (bpv 0))) (bpe_lst bpa_nil) (nomark _)) (bpw_or1 (bPW_pt (bpw_and (bpt_cmpR op_eq (bpe_ix ix_str (bpv 0) bpe_int (fun _ _ => rfl)) bpe_str (nomark _)) (bpw_and1 (bpt_cmpR op_gt (bpe_callB call_len_str rfl T.z_len PySem.boot_len (bpa_cons (bpv 0) (bpa_nil))) bpe_int (nomark _))))))))) (bpss_one (bps_ret bpe_non)) bpss_nil)
    (bpss_one (bps_ret (bpe_callTy call_intT rfl T.z_int PyProof.Rows.boot_int (bpa_cons (bpv 0) (bpa_nil)))))), ?_⟩
  have bad : ∀ {H5 : Hp}, Same H H5 → numL z.cps.toList = none → Q .non H5 := fun s5 e => qn e _ s5
  refine ⟨_, rfl, rfl, _, rfl, ite2 (fun c => iteT (bad (Same.refl _) ?_)) (fun c => ?_)⟩
  · have e : z.cps.toList = [] := by rw [V.str.inj (of_decide_eq_true c)]; decide +kernel
    unfold numL
    rw [if_pos (.inl e)]
  have pn : z.cps.toList ≠ [] := fun e => c (decide_eq_true (by rw [strT e]; decide +kernel))
  have asc : z.cps.all (· < 128) = true := by
    rw [← Array.all_toList, List.all_eq_true]
    intro c hc
    exact decide_eq_true (tx.2 c hc)
  refine ⟨_, rfl, _, rfl, asc, fun C hC => comp_str (fun i H5 => Same H H5 ∧ ∃ xs : List V, H5 C = some (.lst xs) ∧ xs.length ≤ i ∧ (xs = [] ↔ ∀ c ∈ z.cps.toList.take i, 48 ≤ c ∧ c < 58))
    ⟨same_upd hC _, [], upd_same, Nat.le_refl _, fun _ c hc => (nomatch hc), fun _ => rfl⟩ ?_ ?_⟩
  · rintro i c H5 hi ⟨s5, xs, eC, lx, ix⟩
    have ci := (List.getElem?_eq_some_iff.mp hi).1
    have cm := List.mem_of_getElem? hi
    have cl := tx.2 c cm
    by_cases hc : 48 ≤ c ∧ c < 58
    · refine ⟨_, rfl, _, _, rfl, rfl, _, rfl, ?_⟩
      rw [fig_yes c cl hc.1 hc.2]
      refine iteF ⟨s5, xs, eC, by omega, ?_⟩
      rw [List.take_add_one, hi]
      constructor
      · intro e d hd
        rcases List.mem_append.mp hd with hd | hd
        · exact ix.mp e d hd
        · rw [List.mem_singleton.mp hd]; exact hc
      · exact fun h => ix.mpr fun d hd => h d (List.mem_append_left _ hd)
    · refine ⟨_, rfl, _, _, rfl, rfl, _, rfl, ?_⟩
      rw [fig_no c cl hc]
      refine iteT ⟨_, rfl, xs, eC, by omega, s5.write hC _, _, upd_same, by rw [List.length_append]; show _ + 1 ≤ _; omega, ?_⟩
      rw [List.take_add_one, hi]
      constructor
      · intro e
        exact absurd e (by simp)
      · exact fun h => absurd (h c (List.mem_append_right _ (.head _))) hc
  · rintro H5 ⟨s5, xs, eC, lx, ix⟩
    rw [List.take_length] at ix
    refine ⟨(by show 0 ≤ sizeLine; decide), fun E1 hE => ?_⟩
    have kE := same_upd hE (.lst [])
    have s6 := s5.trans kE
    refine ⟨C, E1, xs, rfl, rfl, .of (kE _ _ eC), .of upd_same, _, rfl, ite2 (fun c2 => iteT (bad s6 ?_)) (fun c2 => ?_)⟩
    · unfold numL
      rw [if_pos (.inr (.inr fun h => of_decide_eq_true c2 (ix.mpr h)))]
    have dig : ∀ c ∈ z.cps.toList, 48 ≤ c ∧ c < 58 := ix.mp (Decidable.byContradiction fun h => c2 (decide_eq_true h))
    generalize upd H5 E1 (.lst []) = H6 at s6
    have nxt : ¬ (z.cps.toList.head? = some 48 ∧ z.cps.toList ≠ [48]) → numL z.cps.toList = some (readN z.cps.toList) := fun h => by
      unfold numL
      rw [if_neg]
      rintro (y | y | y)
      · exact pn y
      · exact h y
      · exact y dig
    cases ep : z.cps.toList with
    | nil => exact absurd ep pn
    | cons c0 r =>
      refine ⟨_, rfl, _, 0, c0, rfl, rfl, by omega, (by rw [ep]; exact atI_nat (j := 0) rfl), rfl, _, rfl, ite2 (fun h1 => ?_) (fun h1 => iteF ?_)⟩
      · have c48 : c0 = 48 := by
          have := congrArg (fun x : Str => x.cps.toList) (V.str.inj (of_decide_eq_true h1))
          rw [show (Str.ofString "0").cps.toList = [48] by decide +kernel] at this
          exact (List.cons.inj this).1
        refine ⟨_, rfl, _, rfl, by omega, _, _, rfl, rfl, _, rfl, ite2 (fun h2 => bad s6 ?_) (fun h2 => ?_)⟩
        · have nn : z.cps.toList ≠ [48] := fun y => by
            rw [← ez, y] at h2
            exact absurd h2 (by decide)
          unfold numL
          rw [if_pos (.inr (.inl ⟨by rw [ep, c48]; rfl, nn⟩))]
        · have h3 : ¬ (1 < z.cps.toList.length) := fun h => h2 (decide_eq_true (by rw [← ez]; omega))
          rw [ep, List.length_cons] at h3
          have r0 : r = [] := List.length_eq_zero_iff.mp (by omega)
          exact ⟨_, rfl, _, rfl, fun c hc => by have := dig c hc; omega, pn, by omega, qs _ (nxt fun y => y.2 (by rw [ep, r0, c48])) _ s6⟩
      · refine ⟨_, rfl, _, rfl, fun c hc => by have := dig c hc; omega, pn, by omega, qs _ (nxt fun y => ?_) _ s6⟩
        rw [ep] at y
        exact h1 (decide_eq_true (by rw [show c0 = 48 by simpa using y.1]; decide +kernel))
theorem sc_law_read : FnScope ["text", "rows", "kinds", "numbers", "inputs", "gates", "outputs", "row", "legs", "least", "most"] ["text"] (defScope s_law_read) := ⟨rfl, rfl, rfl, by decide +kernel, rfl, by decide +kernel, by decide +kernel⟩
theorem bnd_at {x : Str} {l h : Int} (hx : isKind x) (e : PyProof.Rows.KTD.datumAt x tab_LEG_BOUNDS = some (.tup ([l, h].map PyData.int))) : ∀ n : Nat, (l ≤ (n : Int) ∧ (n : Int) ≤ h) ↔ legsOk x n := by
  obtain ⟨lo, hi, e1, _, b⟩ := yes_keys hx
  rw [e] at e1
  have := Option.some.inj e1
  injection this with this
  injection this with a b2
  injection b2 with b2 _
  rw [PyData.int.inj a, PyData.int.inj b2]
  exact b
theorem kd_kind {a1 a2 a3 a4 a5 a6 a7 : Addr} {H : Hp} {x : Str} (e1 : H a1 = some (.lst [.int 2, .int 4])) (e2 : H a2 = some (.lst [.int 2, .int 4])) (e3 : H a3 = some (.lst [.int 2, .int 4])) (e4 : H a4 = some (.lst [.int 1, .int 1])) (e5 : H a5 = some (.lst [.int 3, .int 3])) (e6 : H a6 = some (.lst [.int 0, .int 0])) (e7 : H a7 = some (.lst [.int 0, .int 0])) (h : isKind x) :
    ∃ (r : Addr) (lo hi : Int), valV (kdW (.ref a1) (.ref a2) (.ref a3) (.ref a4) (.ref a5) (.ref a6) (.ref a7)) (.inr x) = some (.ref r) ∧ H r = some (.lst [.int lo, .int hi]) ∧ ∀ n : Nat, (lo ≤ (n : Int) ∧ (n : Int) ≤ hi) ↔ legsOk x n := by
  have hx := h
  rw [kdW_eq]
  rcases h with rfl | rfl | rfl | rfl | rfl | rfl | rfl
  · exact ⟨a1, 2, 4, by kernel_rfl, e1, bnd_at hx (by kernel_rfl)⟩
  · exact ⟨a2, 2, 4, by kernel_rfl, e2, bnd_at hx (by kernel_rfl)⟩
  · exact ⟨a3, 2, 4, by kernel_rfl, e3, bnd_at hx (by kernel_rfl)⟩
  · exact ⟨a4, 1, 1, by kernel_rfl, e4, bnd_at hx (by kernel_rfl)⟩
  · exact ⟨a5, 3, 3, by kernel_rfl, e5, bnd_at hx (by kernel_rfl)⟩
  · exact ⟨a6, 0, 0, by kernel_rfl, e6, bnd_at hx (by kernel_rfl)⟩
  · exact ⟨a7, 0, 0, by kernel_rfl, e7, bnd_at hx (by kernel_rfl)⟩
theorem ok_law_read (T : Txt K mg t) : FnOk P w K mg base CX0 2 t.f_law_read t.fd_law_read ["text"] (sp_out K) := by
  refine T.d_law_read.F.okB sc_law_read (fun vs H Q E h => ?_) (fun cdv A outer s H vs Q E hr h => ?_)
  · obtain ⟨z, rfl, _⟩ := h
    rfl
  obtain ⟨z, rfl, tx, qt, qw, qg⟩ := h
  have hu64 := hr.units
  have hu1 := hu_of hr
  have sl : sizeLine = 16777216 := by decide
  have lz := tx.1
  have ez : z.cps.toList.length = z.length := Array.length_toList
  have lp : (cutL 10 z.cps.toList).length ≤ 601 := by
    have := (cut_parts 10 z.cps.toList).2
    omega
  refine ⟨_, (bpss_cons (bps_setC (k := 1) rfl (N := ["row"]) (n := 1) (cap := []) (blk_of rfl rfl) sc_law_read.nd rfl rfl (bpi_list (bpe_bm PySem.F.plainAttrs_str PySem.F.slot_str_split PySem.F.type_str_split mt_splitA (bpv 0) (bpa_cons bpe_str (bpa_nil)))) (keep_name (by decide)) (fun _ _ _ _ => (bpg_name (k := 0) (show (["row"] : List Str).Nodup by decide +kernel) rfl (Or.inl rfl))) (fun _ _ _ _ => bpts_nil) (fun _ _ _ _ => (bpe_bmK (K := K) PySem.F.plainAttrs_str PySem.F.slot_str_split PySem.F.type_str_split mt_splitA (bpv 0) (bpa_cons bpe_str (bpa_nil)))) rfl)
    (bpss_cons (bps_set (k := 2) sc_law_read.nd rfl (Or.inr rfl) (bpe_disp (bpps_cons bpe_str (bpe_lst (bpa_cons bpe_int ( bpa_cons bpe_int (bpa_nil)))) (bpps_cons bpe_str (bpe_lst (bpa_cons bpe_int ( bpa_cons bpe_int (bpa_nil)))) (bpps_cons bpe_str (bpe_lst (bpa_cons bpe_int ( bpa_cons bpe_int (bpa_nil)))) (bpps_cons bpe_str (bpe_lst (bpa_cons bpe_int ( bpa_cons bpe_int (bpa_nil)))) (bpps_cons bpe_str (bpe_lst (bpa_cons bpe_int ( bpa_cons bpe_int (bpa_nil)))) (bpps_cons bpe_str (bpe_lst (bpa_cons bpe_int ( bpa_cons bpe_int (bpa_nil)))) (bpps_cons bpe_str (bpe_lst (bpa_cons bpe_int ( bpa_cons bpe_int (bpa_nil)))) bpps_nil))))))) rfl rfl (by simp) (by decide)))
    (bpss_cons (bps_if (bPW_pt (bpw_or (bpt_cmpR op_lt (bpe_callB call_len_seq rfl T.z_len PySem.boot_len (bpa_cons (bpv 1) (bpa_nil))) bpe_int (nomark _)) (bpw_or (bpt_cmpR op_ne (bpe_ix ix_list (bpe_ix ix_list (bpv 1) bpe_int (fun _ _ => rfl)) bpe_int (fun _ _ => rfl)) bpe_str (nomark _)) (bpw_or (bpt_cmpR op_ne (bpe_callB call_len_seq rfl T.z_len PySem.boot_len (bpa_cons (bpe_ix ix_list (bpv 1) bpe_int (fun _ _ => rfl)) (bpa_nil))) bpe_int (nomark _)) (bpw_or1 (bpt_cmpR op_ne (bpe_ix ix_list (bpe_ix ix_list (bpv 1) (bpe_un un_neg bpe_int) (fun _ _ => rfl)) bpe_int (fun _ _ => rfl)) bpe_str (nomark _))))))) (bpss_one (bps_ret bpe_str)) bpss_nil)
    (bpss_cons (bps_if (bpt_cmpR (op_ne0 hu64) (bpe_comp rfl (N := ["row", "kinds"]) (n := 1) (cap := [2]) (blk_of rfl rfl) (bpi_list (bpe_slice sl_list (bpv 1) (bpo_some bpe_int) (bpo_some (bpe_un un_neg bpe_int)))) (keep_name (by decide)) (fun _ _ _ _ => (bpg_name (k := 0) (show (["row", "kinds"] : List Str).Nodup by decide +kernel) rfl (Or.inl rfl))) (fun _ _ _ _ => (bpts_one (bpt_cmp (bpc_dnotin hu1 (bpe_ix (ix_listK (K := K)) (bpv 0) bpe_int (fun _ _ => rfl)) (bpv 1))))) (fun _ _ _ _ => (bpv 0))) (bpe_lst bpa_nil) (nomark _)) (bpss_one (bps_ret bpe_str)) bpss_nil)
    (bpss_cons (bps_setC (k := 3) rfl (N := ["row"]) (n := 1) (cap := []) (blk_of rfl rfl) sc_law_read.nd rfl rfl (bpi_list (bpv 1)) (keep_name (by decide)) (fun _ _ _ _ => (bpg_name (k := 0) (show (["row"] : List Str).Nodup by decide +kernel) rfl (Or.inl rfl))) (fun _ _ _ _ => bpts_nil) (fun _ _ _ _ => (bpe_comp rfl (N := ["word"]) (n := 1) (cap := []) (blk_of rfl rfl) (bpi_listK (K := K) (bpe_slice (sl_listK (K := K)) (bpv 0) (bpo_some bpe_int) bpo_none)) (keep_name (by decide)) (fun _ _ _ _ => (bpg_name (k := 0) (show (["word"] : List Str).Nodup by decide +kernel) rfl (Or.inl rfl))) (fun _ _ _ _ => bpts_nil) (fun _ _ _ _ => (bpe_call (ok_law_number T) (hr.mono (by decide)) rfl T.d_law_number.m T.d_law_number.F.kp T.d_law_number.b .nil pass0 (bpa_cons (bpv 0) (bpa_nil)))))) rfl)
    (bpss_cons (bps_if (bpt_cmpR (op_ne0 hu64) (bpe_comp rfl (N := ["row"]) (n := 1) (cap := []) (blk_of rfl rfl) (bpi_list (bpv 3)) (keep_name (by decide)) (fun _ _ _ _ => (bpg_name (k := 0) (show (["row"] : List Str).Nodup by decide +kernel) rfl (Or.inl rfl))) (fun _ _ _ _ => (bpts_one (bpt_cmpR (op_in_seqK (K := K)) bpe_non (bpv 0) rfl))) (fun _ _ _ _ => (bpv 0))) (bpe_lst bpa_nil) (nomark _)) (bpss_one (bps_ret bpe_str)) bpss_nil)
    (bpss_cons (bps_set (k := 4) sc_law_read.nd rfl (Or.inr rfl) (bpe_ix ix_list (bpe_ix ix_list (bpv 3) bpe_int (fun _ _ => rfl)) bpe_int (fun _ _ => rfl)))
    (bpss_cons (bps_set (k := 5) sc_law_read.nd rfl (Or.inr rfl) (bpe_lst bpa_nil))
    (bpss_cons (bps_for PassesOwn.never rfl (bpi_zip rfl T.z_zip (bpa_cons (bpe_slice sl_list (bpv 1) (bpo_some bpe_int) (bpo_some (bpe_un un_neg bpe_int))) ( bpa_cons (bpe_slice sl_list (bpv 3) (bpo_some bpe_int) (bpo_some (bpe_un un_neg bpe_int))) (bpa_nil)))) (bpg_tup rfl (bpgs_cons (bpg_name (k := 7) sc_law_read.nd rfl (Or.inl rfl)) (bpgs_cons (bpg_name (k := 8) sc_law_read.nd rfl (Or.inl rfl)) bpgs_nil))) (bpss_cons (bps_asg (bpe_dget hu1 (bpv 2) (bpe_ix ix_list (bpv 7) bpe_int (fun _ _ => rfl)) (fun _ _ => rfl)) (bpg_lst rfl (bpgs_cons (bpg_name (k := 9) sc_law_read.nd rfl (Or.inl rfl)) (bpgs_cons (bpg_name (k := 10) sc_law_read.nd rfl (Or.inl rfl)) bpgs_nil))))
    (bpss_cons (bps_if (bPW_pt (bpw_or (bpt_not (bpt_chain op_le op_le (bpv 9) (bpe_callB call_len_seq rfl T.z_len PySem.boot_len (bpa_cons (bpv 8) (bpa_nil))) (bpv 10))) (bpw_or1 (bpt_cmpR (op_ne0 hu64) (bpe_comp rfl (N := ["leg", "inputs", "gates"]) (n := 1) (cap := [4, 5]) (blk_of rfl rfl) (bpi_list (bpv 8)) (keep_name (by decide)) (fun _ _ _ _ => (bpg_name (k := 0) (show (["leg", "inputs", "gates"] : List Str).Nodup by decide +kernel) rfl (Or.inl rfl))) (fun _ _ _ _ => (bpts_one (bpt_cmpR op_ge (bpv 0) (bpe_op op_add (bpv 1) (bpe_callB (call_len_seqK (K := K)) rfl T.z_len PySem.boot_len (bpa_cons (bpv 2) (bpa_nil)))) (nomark _)))) (fun _ _ _ _ => (bpv 0))) (bpe_lst bpa_nil) (nomark _))))) (bpss_one (bps_ret bpe_str)) bpss_nil)
    (bpss_one (bps_expr (bpe_bm PySem.F.plainAttrs_list PySem.F.slot_list_append PySem.F.type_list_append mt_append (bpv 5) (bpa_cons (bpe_tup (bpa_cons (bpe_ix ix_list (bpv 7) bpe_int (fun _ _ => rfl)) ( bpa_cons (bpe_callTy call_tuple_of rfl T.z_tuple PyProof.Rows.boot_tuple (bpa_cons (bpv 8) (bpa_nil))) (bpa_nil)))) (bpa_nil))))))))
    (bpss_cons (bps_set (k := 6) sc_law_read.nd rfl (Or.inl rfl) (bpe_ix ix_list (bpv 3) (bpe_un un_neg bpe_int) (fun _ _ => rfl)))
    (bpss_cons (bps_if (bPW_pt (bpw_or (bpt_cmpR op_lt (bpv 4) bpe_int (nomark _)) (bpw_or (bpt_cmpR (op_eqD hu64) (bpv 6) (bpe_lst bpa_nil) (nomark _)) (bpw_or1 (bpt_cmpR op_ge (bpe_callB (call_maxL rfl) rfl T.z_max PyProof.Rows.boot_max (bpa_cons (bpv 6) (bpa_nil))) (bpe_op op_add (bpv 4) (bpe_callB call_len_seq rfl T.z_len PySem.boot_len (bpa_cons (bpv 5) (bpa_nil)))) (nomark _)))))) (bpss_one (bps_ret bpe_str)) bpss_nil)
    (bpss_one (bps_ret (bpe_tup (bpa_cons (bpv 4) ( bpa_cons (bpv 5) ( bpa_cons (bpv 6) (bpa_nil)))))))))))))))))), ?_⟩
  refine ⟨_, rfl, rfl, z, 10, Str.ofString "\n", rfl, rfl, feedA, (by decide +kernel), by omega, fun S hS => ?_⟩
  have kS := same_upd hS (.lst ((cutL 10 z.cps.toList).map fun p => V.str ⟨p.toArray⟩))
  have eS : (upd H S (.lst ((cutL 10 z.cps.toList).map fun p => V.str ⟨p.toArray⟩))) S = some (.lst ((cutL 10 z.cps.toList).map fun p => V.str ⟨p.toArray⟩)) := upd_same
  generalize upd H S (.lst ((cutL 10 z.cps.toList).map fun p => V.str ⟨p.toArray⟩)) = H1 at kS eS
  refine ⟨S, rfl, ⟨_, .of eS⟩, fun D hD => comp_list (K := K) (a := S) (xs := (cutL 10 z.cps.toList).map fun p => V.str ⟨p.toArray⟩)
    (fun j H4 => ∃ (us : List V) (G : Hp), Same H1 G ∧ Off [D] G H4 ∧ H4 D = some (.lst us) ∧ LL G us (((cutL 10 z.cps.toList).take j).map fun p => wordsV (cutL 32 p)))
    ⟨[], H1, Same.refl _, Off.start hD _, upd_same, LL.nil⟩ (fun j H4 _ z => by obtain ⟨_, _, sG, oG, _⟩ := z; exact .of ((sG.trans oG.same) _ _ eS)) ?_ ?_⟩
  · rintro j y H4 hy ⟨us, G, sG, oG, eD, rus⟩
    rw [List.getElem?_map] at hy
    cases hz : (cutL 10 z.cps.toList)[j]? with
    | none => rw [hz] at hy; cases hy
    | some p =>
      rw [hz] at hy
      cases hy
      have pm := List.mem_of_getElem? hz
      have lj := (List.getElem?_eq_some_iff.mp hz).1
      have lu : us.length = j := by rw [rus.1, List.length_map, List.length_take]; omega
      have tp := tx.part pm
      refine ⟨_, rfl, rfl, ⟨p.toArray⟩, 32, Str.ofString " ", rfl, rfl, blankA, (by decide +kernel), by have := tp.1; omega, fun D2 hD2 => ?_⟩
      rw [tlA]
      have s5 := same_upd hD2 (.lst ((cutL 32 p).map fun p => V.str ⟨p.toArray⟩))
      refine ⟨us, s5 _ _ eD, big (by omega), us ++ [.ref D2], newsOf G H4 (upd H4 D2 (.lst ((cutL 32 p).map fun p => V.str ⟨p.toArray⟩))), sG.trans (newsOf_same oG.same), (newsOf_off oG s5).write (.head _) _, upd_same, ?_⟩
      rw [List.take_add_one, hz, List.map_append]
      exact (rus.mono (newsOf_same oG.same)).snoc (by rw [newsOf_new hD2]; exact upd_same)
  rintro H4 ⟨us, G, sG, oG, eD, rus⟩
  rw [List.length_map, List.take_length] at rus
  have s04 := (kS.trans sG).trans oG.same
  have ru := rus.mono oG.same
  have ec2 : (cutL 10 z.cps.toList).map (fun p => wordsV (cutL 32 p)) = (cut2 z.cps.toList).map wordsV := by
    unfold cut2
    rw [List.map_map]
    rfl
  rw [ec2] at ru
  have lc2 : (cut2 z.cps.toList).length ≤ 601 := by unfold cut2; rw [List.length_map]; exact lp
  have ne2 : ∀ g ∈ cut2 z.cps.toList, g ≠ [] := fun g hg => cut2_ne hg
  have txw : ∀ g ∈ cut2 z.cps.toList, g.length ≤ 601 ∧ ∀ w ∈ g, TX ⟨w.toArray⟩ := fun g hg => by
    obtain ⟨p, hp, rfl⟩ := List.mem_map.mp hg
    have tp := tx.part hp
    have e1 : (⟨p.toArray⟩ : Str).length = p.length := by show p.toArray.size = _; simp
    refine ⟨by have := (cut_parts 32 p).2; have := tp.1; omega, fun w hw => ?_⟩
    have := tp.part (c := 32) (p := w) (by rw [tlA]; exact hw)
    exact this
  clear rus oG sG
  have ne0 : cut2 z.cps.toList ≠ [] := by unfold cut2; exact fun h => cutL_ne _ _ (List.map_eq_nil_iff.mp h)
  have tc : ∀ {b}, ToldT z b → Told ((cut2 z.cps.toList).map rN) b ∧ ∀ g ∈ cut2 z.cps.toList, numsL g.tail ≠ none := told_cut
  have ct : ∀ {b}, (∀ g ∈ cut2 z.cps.toList, numsL g.tail ≠ none) → Told ((cut2 z.cps.toList).map rN) b → ToldT z b := cut_told
  generalize cut2 z.cps.toList = cs at ru lc2 ne2 txw ne0 tc ct
  have eK : ∀ {H2 : Hp}, Same H4 H2 → (¬ ∃ b, Told (cs.map rN) b) → Q (.str "text") H2 := fun s2 h => qt (fun ⟨b, tb⟩ => h ⟨b, (tc tb).1⟩) _ (s04.trans s2)
  refine fun d hd => ⟨(by show 2 ≤ sizeLine; decide), fun L1 h1 => ⟨(by show 2 ≤ sizeLine; decide), fun L2 h2 => ⟨(by show 2 ≤ sizeLine; decide), fun L3 h3 => ⟨(by show 2 ≤ sizeLine; decide), fun L4 h4 => ⟨(by show 2 ≤ sizeLine; decide), fun L5 h5 => ⟨(by show 2 ≤ sizeLine; decide), fun L6 h6 => ⟨(by show 2 ≤ sizeLine; decide), fun L7 h7 => ?_⟩⟩⟩⟩⟩⟩⟩
  have k0 := same_upd hd (.dK [])
  have k1 := same_upd h1 (.lst [.int 2, .int 4])
  have k2 := same_upd h2 (.lst [.int 2, .int 4])
  have k3 := same_upd h3 (.lst [.int 2, .int 4])
  have k4 := same_upd h4 (.lst [.int 1, .int 1])
  have k5 := same_upd h5 (.lst [.int 3, .int 3])
  have k6 := same_upd h6 (.lst [.int 0, .int 0])
  have k7 := same_upd h7 (.lst [.int 0, .int 0])
  refine ⟨k7 _ _ (k6 _ _ (k5 _ _ (k4 _ _ (k3 _ _ (k2 _ _ (k1 _ _ upd_same)))))), [(.inr "and", .ref L1), (.inr "or", .ref L2), (.inr "odd", .ref L3), (.inr "not", .ref L4), (.inr "choose", .ref L5), (.inr "zero", .ref L6), (.inr "one", .ref L7)], rfl, (by show 7 ≤ 15; decide), ?_⟩
  have n1 : L1 ≠ d := Ne.symm (ne_of_none upd_same h1)
  have n2 : L2 ≠ d := Ne.symm (ne_of_none (k1 _ _ upd_same) h2)
  have n3 : L3 ≠ d := Ne.symm (ne_of_none (k2 _ _ (k1 _ _ upd_same)) h3)
  have n4 : L4 ≠ d := Ne.symm (ne_of_none (k3 _ _ (k2 _ _ (k1 _ _ upd_same))) h4)
  have n5 : L5 ≠ d := Ne.symm (ne_of_none (k4 _ _ (k3 _ _ (k2 _ _ (k1 _ _ upd_same)))) h5)
  have n6 : L6 ≠ d := Ne.symm (ne_of_none (k5 _ _ (k4 _ _ (k3 _ _ (k2 _ _ (k1 _ _ upd_same))))) h6)
  have n7 : L7 ≠ d := Ne.symm (ne_of_none (k6 _ _ (k5 _ _ (k4 _ _ (k3 _ _ (k2 _ _ (k1 _ _ upd_same)))))) h7)
  have sT := ((((((k0.trans k1).trans k2).trans k3).trans k4).trans k5).trans k6).trans k7
  have g1 := k7 _ _ (k6 _ _ (k5 _ _ (k4 _ _ (k3 _ _ (k2 _ _ (at_new (o := .lst [.int 2, .int 4]) h1))))))
  have g2 := k7 _ _ (k6 _ _ (k5 _ _ (k4 _ _ (k3 _ _ (at_new (o := .lst [.int 2, .int 4]) h2)))))
  have g3 := k7 _ _ (k6 _ _ (k5 _ _ (k4 _ _ (at_new (o := .lst [.int 2, .int 4]) h3))))
  have g4 := k7 _ _ (k6 _ _ (k5 _ _ (at_new (o := .lst [.int 1, .int 1]) h4)))
  have g5 := k7 _ _ (k6 _ _ (at_new (o := .lst [.int 3, .int 3]) h5))
  have g6 := k7 _ _ (at_new (o := .lst [.int 0, .int 0]) h6)
  have g7 := at_new (o := .lst [.int 0, .int 0]) h7
  clear k0 k1 k2 k3 k4 k5 k6 k7 h1 h2 h3 h4 h5 h6 h7
  generalize upd (upd (upd (upd (upd (upd (upd (upd H4 d (.dK [])) L1 (.lst [.int 2, .int 4])) L2 (.lst [.int 2, .int 4])) L3 (.lst [.int 2, .int 4])) L4 (.lst [.int 1, .int 1])) L5 (.lst [.int 3, .int 3])) L6 (.lst [.int 0, .int 0])) L7 (.lst [.int 0, .int 0]) = H7 at sT g1 g2 g3 g4 g5 g6 g7
  have s45 := sT.write hd (.dK (kdW (.ref L1) (.ref L2) (.ref L3) (.ref L4) (.ref L5) (.ref L6) (.ref L7)))
  have f1 := (upd_ne (o := (.dK (kdW (.ref L1) (.ref L2) (.ref L3) (.ref L4) (.ref L5) (.ref L6) (.ref L7)))) n1).trans g1
  have f2 := (upd_ne (o := (.dK (kdW (.ref L1) (.ref L2) (.ref L3) (.ref L4) (.ref L5) (.ref L6) (.ref L7)))) n2).trans g2
  have f3 := (upd_ne (o := (.dK (kdW (.ref L1) (.ref L2) (.ref L3) (.ref L4) (.ref L5) (.ref L6) (.ref L7)))) n3).trans g3
  have f4 := (upd_ne (o := (.dK (kdW (.ref L1) (.ref L2) (.ref L3) (.ref L4) (.ref L5) (.ref L6) (.ref L7)))) n4).trans g4
  have f5 := (upd_ne (o := (.dK (kdW (.ref L1) (.ref L2) (.ref L3) (.ref L4) (.ref L5) (.ref L6) (.ref L7)))) n5).trans g5
  have f6 := (upd_ne (o := (.dK (kdW (.ref L1) (.ref L2) (.ref L3) (.ref L4) (.ref L5) (.ref L6) (.ref L7)))) n6).trans g6
  have f7 := (upd_ne (o := (.dK (kdW (.ref L1) (.ref L2) (.ref L3) (.ref L4) (.ref L5) (.ref L6) (.ref L7)))) n7).trans g7
  have fd : (upd H7 d (.dK (kdW (.ref L1) (.ref L2) (.ref L3) (.ref L4) (.ref L5) (.ref L6) (.ref L7)))) d = some (.dK (kdW (.ref L1) (.ref L2) (.ref L3) (.ref L4) (.ref L5) (.ref L6) (.ref L7))) := upd_same
  clear g1 g2 g3 g4 g5 g6 g7 sT n1 n2 n3 n4 n5 n6 n7
  rw [show mergeK [] [((Sum.inr "and" : Key), V.ref L1), (.inr "or", .ref L2), (.inr "odd", .ref L3), (.inr "not", .ref L4), (.inr "choose", .ref L5), (.inr "zero", .ref L6), (.inr "one", .ref L7)] = kdW (.ref L1) (.ref L2) (.ref L3) (.ref L4) (.ref L5) (.ref L6) (.ref L7) from rfl]
  generalize upd H7 d (.dK (kdW (.ref L1) (.ref L2) (.ref L3) (.ref L4) (.ref L5) (.ref L6) (.ref L7))) = H5 at s45 f1 f2 f3 f4 f5 f6 f7 fd
  have eD5 := s45 _ _ eD
  have ru5 := ru.mono s45
  have kdk : ∀ {H6 : Hp} {x : Str}, Same H5 H6 → isKind x → ∃ (r : Addr) (lo hi : Int), DGet H6 d (.str x) (some (.ref r)) ∧ H6 r = some (.lst [.int lo, .int hi]) ∧ ∀ n : Nat, (lo ≤ (n : Int) ∧ (n : Int) ≤ hi) ↔ legsOk x n := fun {H6 x} s6 hx => by
    obtain ⟨r, lo, hi, e1, e2, e3⟩ := kd_kind f1 f2 f3 f4 f5 f6 f7 hx
    exact ⟨r, lo, hi, .inl ⟨_, .inr x, .inl (s6 _ _ fd), rfl, e1.symm⟩, s6 _ _ e2, e3⟩
  have kdn : ∀ {H6 : Hp} {x : Str}, Same H5 H6 → ¬ isKind x → DGet H6 d (.str x) none := fun {H6 x} s6 hx => .inl ⟨_, .inr x, .inl (s6 _ _ fd), rfl, (kd_none hx).symm⟩
  clear f1 f2 f3 f4 f5 f6 f7
  refine ⟨_, rfl, D, _, rfl, .inl (.of eD5), _, _, rfl, rfl, _, rfl, ite2 (fun c => iteT (eK s45 ?_)) (fun c1 => ?_)⟩
  · rintro ⟨b, i, gs, os, e, _⟩
    have := congrArg List.length e
    rw [List.length_map, List.length_cons, List.length_append, List.length_singleton] at this
    have h2 := of_decide_eq_true c
    rw [ru.1, List.length_map] at h2
    omega
  have l2 : 2 ≤ cs.length := by
    have c' : ¬ ((us.length : Nat) : Int) < 2 := fun z => c1 (decide_eq_true z)
    have h2 := ru.1
    rw [List.length_map] at h2
    omega
  obtain ⟨g0, ct0, rfl⟩ : ∃ g0 ct0, cs = g0 :: ct0 := by
    cases cs with
    | nil => exact absurd rfl ne0
    | cons g c => exact ⟨g, c, rfl⟩
  obtain ⟨w0, t0, rfl⟩ : ∃ w0 t0, g0 = w0 :: t0 := by
    cases g0 with
    | nil => exact absurd rfl (ne2 _ (.head _))
    | cons g c => exact ⟨g, c, rfl⟩
  obtain ⟨wl, xs, egl⟩ : ∃ wl xs, ct0.getLast? = some (wl :: xs) := by
    cases ct0 with
    | nil => exact absurd l2 (by simp)
    | cons g c =>
      cases e : (g :: c).getLast? with
      | none => exact absurd (List.getLast?_eq_none_iff.mp e) (List.cons_ne_nil _ _)
      | some gl =>
        cases gl with
        | nil => exact absurd rfl (ne2 _ (.tail _ (List.mem_of_getLast? e)))
        | cons a b => exact ⟨a, b, rfl⟩
  have lct : 1 ≤ ct0.length := by rw [List.length_cons] at l2; omega
  have lus : us.length = ct0.length + 1 := by rw [ru.1, List.length_map, List.length_cons]
  obtain ⟨r0, u0, er0⟩ := ru5.2 0 (wordsV (w0 :: t0)) rfl
  obtain ⟨rl, ul, erl⟩ := ru5.2 ct0.length (wordsV (wl :: xs)) (by
    rw [List.getElem?_map]
    have : (((w0 :: t0) :: ct0) : List (List (List Nat)))[ct0.length]? = some (wl :: xs) := by
      rw [List.getLast?_eq_getElem?] at egl
      have e : ct0.length = ct0.length - 1 + 1 := by omega
      rw [e, List.getElem?_cons_succ]
      exact egl
    rw [this]
    rfl)
  have ul2 : us.getLast? = some (.ref rl) := by
    rw [List.getLast?_eq_getElem?, lus]
    exact ul
  refine ⟨_, rfl, D, _, _, _, rfl, rfl, .of eD5, atI_nat (j := 0) u0, r0, _, _, _, rfl, rfl, .of er0, atI_nat (j := 0) rfl, rfl, _, rfl, ite2 (fun c => iteT (eK s45 ?_)) (fun c2 => ?_)⟩
  · rintro ⟨b, i, gs, os, e, _⟩
    have e1 : w0 = inW := (Prod.mk.inj (List.cons.inj e).1).1
    rw [e1, decide_eq_true (show V.str ⟨inW.toArray⟩ = V.str (Str.ofString "in") by rw [in_eq])] at c
    cases c
  have ew0 : w0 = inW := strWA.mp (by
    rw [← in_eq]
    exact ndec c2)
  subst ew0
  refine ⟨_, rfl, D, _, _, _, rfl, rfl, .of eD5, atI_nat (j := 0) u0, r0, _, rfl, .inl (.of er0), rfl, _, rfl, ite2 (fun c => iteT (eK s45 ?_)) (fun c3 => ?_)⟩
  · rintro ⟨b, i, gs, os, e, _⟩
    have e1 : (numsL t0).getD [] = [i] := (Prod.mk.inj (List.cons.inj e).1).2
    cases en : numsL t0 with
    | none => rw [en] at e1; cases e1
    | some ns =>
      rw [en] at e1
      have e2 : ns = [i] := e1
      have := numsL_len en
      rw [e2] at this
      rw [decide_eq_true (show V.int ((((wordsV (inW :: t0))).length : Nat) : Int) = V.int 2 by
        show V.int (((inW :: t0).map _).length : Nat) = _
        rw [List.length_map, List.length_cons, ← this]
        rfl)] at c
      cases c
  obtain ⟨x0, rfl⟩ : ∃ x0, t0 = [x0] := by
    have := V.int.inj (ndec c3)
    have h2 : (wordsV (inW :: t0)).length = t0.length + 1 := by unfold wordsV; rw [List.length_map, List.length_cons]
    rw [h2] at this
    cases t0 with
    | nil => exact absurd this (by decide)
    | cons x r =>
      cases r with
      | nil => exact ⟨x, rfl⟩
      | cons y r => rw [List.length_cons, List.length_cons] at this; omega
  refine ⟨_, rfl, _, rfl, D, _, _, _, rfl, rfl, .of eD5, atI_lastD ul2, rl, _, _, _, rfl, rfl, .of erl, atI_nat (j := 0) rfl, rfl, _, rfl, ite2 (fun c => eK s45 ?_) (fun c4 => ?_)⟩
  · rintro ⟨b, i, gs, os, e, _⟩
    have e1 := congrArg List.getLast? (List.cons.inj e).2
    rw [List.getLast?_concat, List.getLast?_map, egl] at e1
    have e2 : wl = outW := (Prod.mk.inj (Option.some.inj e1)).1
    rw [e2, decide_eq_true (show V.str ⟨outW.toArray⟩ = V.str (Str.ofString "out") by rw [out_eq])] at c
    cases c
  have ewl : wl = outW := strWA.mp (by
    rw [← out_eq]
    exact ndec c4)
  subst ewl
  obtain ⟨G, rfl⟩ : ∃ G, ct0 = G ++ [outW :: xs] := by
    refine ⟨ct0.dropLast, ?_⟩
    have hne : ct0 ≠ [] := fun z => by rw [z] at lct; exact absurd lct (by decide)
    have := List.dropLast_concat_getLast hne
    rw [List.getLast?_eq_some_getLast hne] at egl
    rw [Option.some.inj egl] at this
    exact this.symm
  have lG : G.length ≤ 600 := by rw [List.length_cons, List.length_append, List.length_singleton] at lc2; omega
  obtain ⟨ug, eus, lug⟩ : ∃ ug, us = .ref r0 :: (ug ++ [.ref rl]) ∧ ug.length = G.length := by
    cases us with
    | nil => rw [List.length_append] at lus; cases lus
    | cons a us =>
      cases u0
      have hne : us ≠ [] := fun z => by rw [z, List.length_append] at lus; cases lus
      refine ⟨us.dropLast, ?_, ?_⟩
      · have := List.dropLast_concat_getLast hne
        rw [List.getLast?_cons_of_ne_nil hne, List.getLast?_eq_some_getLast hne] at ul2
        rw [Option.some.inj ul2] at this
        rw [this]
      · rw [List.length_dropLast]
        rw [List.length_cons, List.length_append, List.length_singleton] at lus
        omega
  have rug : LL H5 ug (G.map wordsV) := ⟨by rw [List.length_map]; exact lug, fun j l e => by
    have hj : j < G.length := by have := (List.getElem?_eq_some_iff.mp e).1; rw [List.length_map] at this; exact this
    obtain ⟨r, e1, e2⟩ := ru5.2 (j + 1) l (by
      rw [List.map_cons, List.getElem?_cons_succ, List.map_append, List.getElem?_append_left (by rw [List.length_map]; exact hj)]
      exact e)
    refine ⟨r, ?_, e2⟩
    rw [eus, List.getElem?_cons_succ, List.getElem?_append_left (by rw [lug]; exact hj)] at e1
    exact e1⟩
  subst eus
  refine ⟨_, rfl, _, rfl, _, rfl, _, rfl, D, _, rfl, .of eD5, fun S2 hS2 => ?_⟩
  rw [show (-(1 : Int)) = -1 from rfl, cut_innerA]
  have k6 := same_upd hS2 (.lst ug)
  have e6 : (upd H5 S2 (.lst ug)) S2 = some (.lst ug) := upd_same
  have rug6 := rug.mono k6
  generalize upd H5 S2 (.lst ug) = H6 at k6 e6 rug6
  refine ⟨S2, rfl, ⟨_, .of e6⟩, fun C hC => comp_list (K := K) (a := S2) (xs := ug) (fun j H8 => Same H6 H8 ∧ ∃ vs : List V, H8 C = some (.lst vs) ∧ vs.length ≤ j ∧ (vs = [] ↔ ∀ g ∈ G.take j, isKind ⟨(g.headD []).toArray⟩)) ⟨same_upd hC _, [], upd_same, Nat.le_refl _, fun _ g hg => (nomatch hg), fun _ => rfl⟩ (fun j H8 _ z => .of (z.1 _ _ e6)) ?_ ?_⟩
  · rintro j y H8 hy ⟨s8, vs, eC, lv, iv⟩
    have hj : j < ug.length := (List.getElem?_eq_some_iff.mp hy).1
    obtain ⟨g, hg⟩ : ∃ g, G[j]? = some g := ⟨_, List.getElem?_eq_getElem (by omega)⟩
    have gm := List.mem_of_getElem? hg
    obtain ⟨r, e1, e2⟩ := rug6.2 j (wordsV g) (by rw [List.getElem?_map, hg]; rfl)
    rw [hy] at e1
    cases e1
    obtain ⟨wg, pg, rfl⟩ : ∃ wg pg, g = wg :: pg := by
      cases g with
      | nil => exact absurd rfl (ne2 _ (.tail _ (List.mem_append_left _ gm)))
      | cons a b => exact ⟨a, b, rfl⟩
    refine ⟨_, rfl, r, _, _, _, rfl, rfl, .of (s8 _ _ e2), atI_nat (j := 0) rfl, ?_⟩
    refine (Classical.em (isKind ⟨wg.toArray⟩)).elim (fun kx => ?_) (fun kx => ?_)
    · obtain ⟨rr, lo, hi, dg, _, _⟩ := kdk (k6.trans s8) kx
      refine ⟨_, rfl, d, _, rfl, dg, _, rfl, ?_⟩
      refine iteF ⟨s8, vs, eC, by omega, ?_⟩
      rw [List.take_add_one, hg]
      constructor
      · intro e g2 hg2
        rcases List.mem_append.mp hg2 with h | h
        · exact iv.mp e g2 h
        · rw [List.mem_singleton.mp h]; exact kx
      · exact fun h => iv.mpr fun g2 hg2 => h g2 (List.mem_append_left _ hg2)
    · have dg := kdn (k6.trans s8) kx
      refine ⟨_, rfl, d, _, rfl, dg, _, rfl, ?_⟩
      refine iteT ⟨_, rfl, vs, eC, by omega, s8.write hC _, _, upd_same, by rw [List.length_append]; show _ + 1 ≤ _; omega, ?_⟩
      rw [List.take_add_one, hg]
      constructor
      · intro e
        exact absurd e (by simp)
      · exact fun h => absurd (h _ (List.mem_append_right _ (.head _))) kx
  rintro H8 ⟨s8, vs, eC, lv, iv⟩
  rw [lug, List.take_length] at iv
  refine ⟨(by show 0 ≤ sizeLine; decide), fun E1 hE => ?_⟩
  have kE := same_upd hE (.lst [])
  have s9 := (k6.trans s8).trans kE
  refine ⟨C, E1, vs, rfl, rfl, .of (kE _ _ eC), .of upd_same, _, rfl, ite2 (fun c5 => eK (s45.trans s9) ?_) (fun c5 => ?_)⟩
  · rintro ⟨b, i, gs, os, e, hk, _⟩
    refine of_decide_eq_true c5 (iv.mpr fun g hg => ?_)
    have e1 := (List.cons.inj e).2
    rw [List.map_append] at e1
    have e2 : G.map rN = gs := by
      have := List.append_inj' e1 rfl
      exact this.1
    exact hk (rN g) (by rw [← e2]; exact List.mem_map_of_mem hg)
  have kG : ∀ g ∈ G, isKind ⟨(g.headD []).toArray⟩ := iv.mp (Decidable.byContradiction fun h => c5 (decide_eq_true h))
  generalize upd H8 E1 (.lst []) = H9 at s9
  clear kE eC iv lv s8 hC hE e6 rug6 k6
  have eD9 := s9 _ _ eD5
  have ru9 := ru5.mono s9
  refine ⟨_, rfl, D, rfl, ⟨_, .of eD9⟩, fun N hN => comp_list (K := K) (a := D) (xs := .ref r0 :: (ug ++ [.ref rl]))
    (fun j H10 => ∃ (ns : List V) (F : Hp), Same H9 F ∧ Off [N] F H10 ∧ H10 N = some (.lst ns) ∧ LL F ns (((((inW :: [x0]) :: (G ++ [outW :: xs])).take j)).map fun g => g.tail.map numV))
    ⟨[], H9, Same.refl _, Off.start hN _, upd_same, LL.nil⟩ (fun j H10 _ z => by obtain ⟨_, _, sG, oG, _⟩ := z; exact .of ((sG.trans oG.same) _ _ eD9)) ?_ ?_⟩
  · rintro j y H10 hy ⟨ns, F, sF, oF, eN, rn⟩
    have hj : j < (V.ref r0 :: (ug ++ [V.ref rl])).length := (List.getElem?_eq_some_iff.mp hy).1
    have lnn : ns.length = j := by
      rw [rn.1, List.length_map, List.length_take]
      rw [lus, List.length_append] at hj
      rw [List.length_cons, List.length_append]
      omega
    have hj2 : j < ((inW :: [x0]) :: (G ++ [outW :: xs])).length := by
      rw [lus] at hj
      rw [List.length_cons]
      exact hj
    obtain ⟨g, hg⟩ : ∃ g, ((inW :: [x0]) :: (G ++ [outW :: xs]))[j]? = some g := ⟨_, List.getElem?_eq_getElem hj2⟩
    have gm := List.mem_of_getElem? hg
    obtain ⟨r, e1, e2⟩ := ru9.2 j (wordsV g) (by rw [List.getElem?_map, hg]; rfl)
    rw [hy] at e1
    cases e1
    obtain ⟨wg, pg, rfl⟩ : ∃ wg pg, g = wg :: pg := by
      cases g with
      | nil => exact absurd rfl (ne2 _ gm)
      | cons a b => exact ⟨a, b, rfl⟩
    obtain ⟨lg, tg⟩ := txw _ gm
    rw [List.length_cons] at lg
    have e10 := (sF.trans oF.same) _ _ e2
    refine ⟨_, rfl, _, rfl, r, _, rfl, .of e10, fun S3 hS3 => ?_⟩
    rw [show wordsV (wg :: pg) = V.str ⟨wg.toArray⟩ :: wordsV pg from rfl, cutA_one]
    have k11 := same_upd hS3 (.lst (wordsV pg))
    have e11 : (upd H10 S3 (.lst (wordsV pg))) S3 = some (.lst (wordsV pg)) := upd_same
    generalize upd H10 S3 (.lst (wordsV pg)) = H11 at k11 e11
    refine ⟨S3, rfl, ⟨_, .of e11⟩, fun C3 hC3 => comp_list (K := K) (a := S3) (xs := wordsV pg) (fun i H12 => Same H11 H12 ∧ H12 C3 = some (.lst ((pg.take i).map numV))) ⟨same_upd hC3 _, upd_same⟩ (fun i H12 _ z => .of (z.1 _ _ e11)) ?_ ?_⟩
    · rintro i y H12 hy2 ⟨s12, eC3⟩
      unfold wordsV at hy2
      rw [List.getElem?_map] at hy2
      cases hz : pg[i]? with
      | none => rw [hz] at hy2; cases hy2
      | some p =>
        rw [hz] at hy2
        cases hy2
        have hi := (List.getElem?_eq_some_iff.mp hz).1
        have nx : ∀ {H13 : Hp}, Same H12 H13 → ∃ xs, H13 C3 = some (.lst xs) ∧ xs.length < sizeLine ∧ (Same H11 (upd H13 C3 (.lst (xs ++ [numV p]))) ∧ (upd H13 C3 (.lst (xs ++ [numV p]))) C3 = some (.lst ((pg.take (i + 1)).map numV))) := fun {H13} s13 =>
          ⟨_, s13 _ _ eC3, big (by rw [List.length_map, List.length_take]; omega), (s12.trans s13).write hC3 _, by rw [upd_same, List.take_add_one, hz, List.map_append]; rfl⟩
        refine ⟨_, rfl, ⟨p.toArray⟩, rfl, tg p (.tail _ (List.mem_of_getElem? hz)), fun en H13 s13 => ?_, fun n en H13 s13 => ?_⟩
        · rw [tlA] at en
          have := nx s13
          unfold numV at this
          rw [en] at this
          exact this
        · rw [tlA] at en
          have := nx s13
          unfold numV at this
          rw [en] at this
          exact this
    · rintro H12 ⟨s12, eC3⟩
      have e3 : (wordsV pg).length = pg.length := by unfold wordsV; rw [List.length_map]
      rw [e3, List.take_length] at eC3
      have s1012 := k11.trans s12
      refine ⟨ns, s1012 _ _ eN, big (by rw [lnn]; rw [List.length_cons] at lc2 hj2; omega), ns ++ [.ref C3], newsOf F H10 H12, sF.trans (newsOf_same oF.same), (newsOf_off oF s1012).write (.head _) _, upd_same, ?_⟩
      rw [List.take_add_one, hg, List.map_append]
      exact (rn.mono (newsOf_same oF.same)).snoc (by rw [newsOf_new (k11.free hC3)]; exact eC3)
  rintro H10 ⟨ns, F, sF, oF, eN, rn⟩
  rw [lus, ← List.length_cons (a := (inW :: [x0])), List.take_length] at rn
  have rn10 := rn.mono oF.same
  have s910 := sF.trans oF.same
  clear rn oF sF
  have lns : ns.length = (G ++ [outW :: xs]).length + 1 := by rw [rn10.1, List.length_map, List.length_cons]
  have eK10 : ∀ {H2 : Hp}, Same H10 H2 → (¬ ∃ b, ToldT z b) → Q (.str "text") H2 := fun s2 h => qt h _ (((s04.trans s45).trans (s9.trans s910)).trans s2)
  refine ⟨_, rfl, N, rfl, ⟨_, .of eN⟩, fun C hC => comp_list (K := K) (a := N) (xs := ns) (fun j H8 => Same H10 H8 ∧ ∃ vs : List V, H8 C = some (.lst vs) ∧ vs.length ≤ j ∧ (vs = [] ↔ ∀ g ∈ (((inW :: [x0]) :: (G ++ [outW :: xs])).take j), numsL g.tail ≠ none)) ⟨same_upd hC _, [], upd_same, Nat.le_refl _, fun _ g hg => (nomatch hg), fun _ => rfl⟩ (fun j H8 _ z => .of (z.1 _ _ eN)) ?_ ?_⟩
  · rintro j y H8 hy ⟨s8, vs, eC, lv, iv⟩
    have hj : j < ns.length := (List.getElem?_eq_some_iff.mp hy).1
    have hj2 : j < ((inW :: [x0]) :: (G ++ [outW :: xs])).length := by rw [List.length_cons]; omega
    have lc3 : ((inW :: [x0]) :: (G ++ [outW :: xs])).length ≤ 601 := lc2
    obtain ⟨g, hg⟩ : ∃ g, ((inW :: [x0]) :: (G ++ [outW :: xs]))[j]? = some g := ⟨_, List.getElem?_eq_getElem hj2⟩
    obtain ⟨r, e1, e2⟩ := rn10.2 j (g.tail.map numV) (by rw [List.getElem?_map, hg]; rfl)
    rw [hy] at e1
    cases e1
    refine ⟨_, rfl, r, _, rfl, .inl (.of (s8 _ _ e2)), rfl, List.all_eq_true.mpr fun v hv => ?_, _, rfl, ?_⟩
    · obtain ⟨p, _, rfl⟩ := List.mem_map.mp hv
      exact numV_flat p
    show if inV .non (g.tail.map numV) = true then _ else _
    rw [List.take_add_one, hg]
    refine ite2 (fun hin => ?_) (fun hin => ?_)
    · refine ⟨_, rfl, vs, eC, by omega, s8.write hC _, _, upd_same, by rw [List.length_append]; show _ + 1 ≤ _; omega, ?_⟩
      constructor
      · intro e
        exact absurd e (by simp)
      · exact fun h => absurd (in_non.mp hin) (h _ (List.mem_append_right _ (.head _)))
    · refine ⟨s8, vs, eC, by omega, ?_⟩
      constructor
      · intro e g2 hg2
        rcases List.mem_append.mp hg2 with h | h
        · exact iv.mp e g2 h
        · rw [List.mem_singleton.mp h]; exact fun z => hin (in_non.mpr z)
      · exact fun h => iv.mpr fun g2 hg2 => h g2 (List.mem_append_left _ hg2)
  rintro H8 ⟨s8, vs, eC, lv, iv⟩
  rw [lns, ← List.length_cons (a := (inW :: [x0])), List.take_length] at iv
  refine ⟨(by show 0 ≤ sizeLine; decide), fun E1 hE => ?_⟩
  have kE := same_upd hE (.lst [])
  have s11 := s8.trans kE
  refine ⟨C, E1, vs, rfl, rfl, .of (kE _ _ eC), .of upd_same, _, rfl, ite2 (fun c5 => eK10 s11 ?_) (fun c6 => ?_)⟩
  · rintro ⟨b, tb⟩
    exact of_decide_eq_true c5 (iv.mpr (tc tb).2)
  have hn : ∀ g ∈ ((inW :: [x0]) :: (G ++ [outW :: xs])), numsL g.tail ≠ none := iv.mp (Decidable.byContradiction fun h => c6 (decide_eq_true h))
  generalize upd H8 E1 (.lst []) = H11 at s11
  clear kE eC iv lv s8 hC hE eK10
  have hr2 : ∀ g ∈ ((inW :: [x0]) :: (G ++ [outW :: xs])), numsL g.tail = some (rN g).2 := fun g hg => by
    cases en : numsL g.tail with
    | none => exact absurd en (hn g hg)
    | some m =>
      unfold rN
      rw [en]
      rfl
  obtain ⟨i0, ei0⟩ : ∃ i0, numsL [x0] = some [i0] := by
    have e1 := hr2 _ (.head _)
    have l1 := numsL_len e1
    cases e2 : (rN [inW, x0]).2 with
    | nil => rw [e2] at l1; cases l1
    | cons i r =>
      cases r with
      | nil => rw [e2] at e1; exact ⟨i, e1⟩
      | cons _ _ => rw [e2] at l1; cases l1
  have exs := hr2 (outW :: xs) (.tail _ (List.mem_append_right _ (.head _)))
  have tb : ToldT z ⟨i0, (G.map rN).map gateN, (rN (outW :: xs)).2⟩ := ct hn ⟨i0, G.map rN, (rN (outW :: xs)).2, by
    rw [List.map_cons, List.map_append]
    show (inW, (numsL [x0]).getD []) :: _ = _
    rw [ei0]
    rfl, fun g hg => by
    obtain ⟨g2, hg2, rfl⟩ := List.mem_map.mp hg
    exact kG g2 hg2, rfl⟩
  have eN11 := s11 _ _ eN
  have rn11 : LL H11 ns (((inW :: [x0]) :: (G ++ [outW :: xs])).map fun g => (rN g).2.map V.int) := by
    have e : ((inW :: [x0]) :: (G ++ [outW :: xs])).map (fun g => g.tail.map numV) = ((inW :: [x0]) :: (G ++ [outW :: xs])).map fun g => (rN g).2.map V.int := List.map_congr_left fun g hg => nums_V (hr2 g hg)
    rw [← e]
    exact rn10.mono s11
  have s511 := s9.trans (s910.trans s11)
  have ru11 := rug.mono s511
  have eD11 := s511 _ _ eD5
  obtain ⟨q0, n0, en0⟩ := rn11.2 0 [.int i0] (by
    show some ((rN [inW, x0]).2.map V.int) = _
    have : (rN [inW, x0]).2 = [i0] := by have := (hr2 _ (.head _)).symm.trans ei0; exact Option.some.inj this
    rw [this]
    rfl)
  refine ⟨_, rfl, N, _, _, _, rfl, rfl, .of eN11, atI_nat (j := 0) n0, q0, _, _, _, rfl, rfl, .of en0, atI_nat (j := 0) rfl, ?_⟩
  refine ⟨(by show 0 ≤ sizeLine; decide), fun Ga hGa => ?_⟩
  obtain ⟨rnl, nl, enl⟩ := rn11.2 (G.length + 1) ((rN (outW :: xs)).2.map V.int) (by
    rw [List.getElem?_map, List.getElem?_cons_succ, List.getElem?_append_right (Nat.le_refl _), Nat.sub_self]
    rfl)
  have lns2 : ns.length = G.length + 2 := by rw [lns, List.length_append, List.length_singleton]
  obtain ⟨ng, ens, lng⟩ : ∃ ng, ns = .ref q0 :: (ng ++ [.ref rnl]) ∧ ng.length = G.length := by
    cases ns with
    | nil => cases lns2
    | cons a ns =>
      cases n0
      have hne : ns ≠ [] := fun z => by rw [z] at lns2; cases lns2
      rw [List.length_cons] at lns2
      have l3 : ns.length = G.length + 1 := by omega
      refine ⟨ns.dropLast, ?_, ?_⟩
      · have := List.dropLast_concat_getLast hne
        have e : ns.getLast? = some (.ref rnl) := by
          rw [List.getLast?_eq_getElem?, l3]
          exact nl
        rw [List.getLast?_eq_some_getLast hne] at e
        rw [Option.some.inj e] at this
        rw [this]
      · rw [List.length_dropLast]
        omega
  have rng : LL H11 ng (G.map fun g => (rN g).2.map V.int) := ⟨by rw [List.length_map]; exact lng, fun j l e => by
    have hj : j < G.length := by have := (List.getElem?_eq_some_iff.mp e).1; rw [List.length_map] at this; exact this
    obtain ⟨r, e1, e2⟩ := rn11.2 (j + 1) l (by
      rw [List.map_cons, List.getElem?_cons_succ, List.map_append, List.getElem?_append_left (by rw [List.length_map]; exact hj)]
      exact e)
    refine ⟨r, ?_, e2⟩
    rw [ens, List.getElem?_cons_succ, List.getElem?_append_left (by rw [lng]; exact hj)] at e1
    exact e1⟩
  have nl2 : ns.getLast? = some (.ref rnl) := by rw [List.getLast?_eq_getElem?, lns2]; exact nl
  subst ens
  have oF0 := Off.start hGa (.lst [])
  have kGa := same_upd hGa (.lst [])
  have eGa : (upd H11 Ga (.lst [])) Ga = some (.lst []) := upd_same
  have eDa := kGa _ _ eD11
  have eNa := kGa _ _ eN11
  generalize upd H11 Ga (.lst []) = H12 at oF0 kGa eGa eDa eNa
  refine ⟨_, rfl, _, rfl, _, rfl, _, rfl, D, _, rfl, .of eDa, fun S4 h4 => ?_⟩
  rw [show (-(1 : Int)) = -1 from rfl, cut_innerA]
  have k4 := same_upd h4 (.lst ug)
  have e4 : (upd H12 S4 (.lst ug)) S4 = some (.lst ug) := upd_same
  have eNb := k4 _ _ eNa
  generalize eH13 : upd H12 S4 (.lst ug) = H13 at k4 e4 eNb
  refine ⟨_, rfl, _, rfl, _, rfl, _, rfl, N, _, rfl, .of eNb, fun S5 h5 => ?_⟩
  rw [cut_innerA]
  have k5 := same_upd h5 (.lst ng)
  have e5 : (upd H13 S5 (.lst ng)) S5 = some (.lst ng) := upd_same
  generalize eH14 : upd H13 S5 (.lst ng) = H14 at k5 e5
  have k45 := k4.trans k5
  have oF := newsOf_off oF0 k45
  have e4F : newsOf H11 H12 H14 S4 = some (.lst ug) := by rw [newsOf_new h4]; exact k5 _ _ e4
  have e5F : newsOf H11 H12 H14 S5 = some (.lst ng) := by rw [newsOf_new (k4.free h5)]; exact e5
  have sF : Same H11 (newsOf H11 H12 H14) := newsOf_same kGa
  have eG14 := k45 _ _ eGa
  generalize newsOf H11 H12 H14 = F0 at oF e4F e5F sF
  clear eH13 eH14 k4 k5 k45 e4 e5 h4 h5 oF0 kGa eDa eNa eNb
  have qw' : ∀ {H2 : Hp}, Same H11 H2 → ¬ GoodW ⟨i0, (G.map rN).map gateN, (rN (outW :: xs)).2⟩ → Q (.str "works") H2 := fun s2 nb => qw _ tb nb _ (((s04.trans s45).trans s511).trans s2)
  refine ⟨S4, S5, _, _, rfl, (oF.same) _ _ e4F, (oF.same) _ _ e5F, for_zip (a := S4) (b := S5) (xs := ug) (ys := ng) (by rw [lug, lng]) (fun i σ H15 => ∃ (gv : List V) (F : Hp) (o7 o8 o9 o10 : Option V), σ = [some (.str z), some (.ref D), some (.ref d), some (.ref N), some (.int i0), some (.ref Ga), none, o7, o8, o9, o10] ∧ Same F0 F ∧ Off [Ga] F H15 ∧ H15 Ga = some (.lst gv) ∧ Reps K F gv ((G.take i).map fun g => gateD (gateN (rN g))) ∧ ∀ (k : Nat) g, k < i → G[k]? = some g → GoodGt (i0 + k) (gateN (rN g)))
    ⟨[], F0, _, _, _, _, rfl, Same.refl _, oF, eG14, .nil, fun k g h => absurd h (by omega)⟩ (fun i σ H15 _ z => by obtain ⟨_, _, _, _, _, _, _, s2, o2, _⟩ := z; exact ⟨(s2.trans o2.same) _ _ e4F, (s2.trans o2.same) _ _ e5F⟩) ?_ ?_⟩
  · rintro j x y σ H15 T1 hx hy ⟨gv, F, o7, o8, o9, o10, rfl, s15, o15, eGa15, rgv, gd⟩ hT
    have hj : j < ug.length := (List.getElem?_eq_some_iff.mp hx).1
    obtain ⟨g, hg⟩ : ∃ g, G[j]? = some g := ⟨_, List.getElem?_eq_getElem (by omega)⟩
    have gm := List.mem_of_getElem? hg
    obtain ⟨r7, e1, e7⟩ := ru11.2 j (wordsV g) (by rw [List.getElem?_map, hg]; rfl)
    rw [hx] at e1
    cases e1
    obtain ⟨r8, e1, e8⟩ := rng.2 j ((rN g).2.map V.int) (by rw [List.getElem?_map, hg]; rfl)
    rw [hy] at e1
    cases e1
    have kx := kG g gm
    have ln : (rN g).2.length ≤ 601 := by
      have h1 := numsL_len (hr2 g (.tail _ (List.mem_append_left _ gm)))
      have h2 := (txw g (.tail _ (List.mem_append_left _ gm))).1
      rw [h1, List.length_tail]
      omega
    have pos := nums_pos (hr2 g (.tail _ (List.mem_append_left _ gm)))
    have lgv : gv.length = j := by rw [rgv.length, List.length_map, List.length_take]; omega
    obtain ⟨wg, pg, rfl⟩ : ∃ wg pg, g = wg :: pg := by
      cases g with
      | nil => exact absurd rfl (ne2 _ (.tail _ (List.mem_append_left _ gm)))
      | cons a b => exact ⟨a, b, rfl⟩
    have kT := same_upd hT (.tup [.ref r7, .ref r8])
    have s1115 := (sF.trans s15).trans o15.same
    refine ⟨T1, _, rfl, .of upd_same, rfl, _, _, rfl, _, _, rfl, rfl, ?_⟩
    generalize upd H15 T1 (.tup [.ref r7, .ref r8]) = H16 at kT
    have s1116 := s1115.trans kT
    obtain ⟨rr, lo, hi, dg, err, bnd⟩ := kdk (s511.trans s1116) kx
    refine ⟨_, rfl, _, rfl, r7, _, _, _, rfl, rfl, .of (s1116 _ _ e7), atI_nat (j := 0) rfl, d, _, rfl, dg, ?_⟩
    refine ⟨rr, _, rfl, .of err, rfl, _, _, rfl, _, _, rfl, rfl, ?_⟩
    have hgb : ((G.map rN).map gateN)[j]? = some (gateN (rN (wg :: pg))) := by
      rw [List.getElem?_map, List.getElem?_map, hg]
      rfl
    have len8 : (((rN (wg :: pg)).2.map V.int).length : Int) = ((rN (wg :: pg)).2.length : Nat) := by rw [List.length_map]
    refine ⟨_, rfl, _, rfl, r8, _, rfl, .inl (.of (s1116 _ _ e8)), _, _, rfl, rfl, _, rfl, ite2 (fun h1 => ?_) (fun h1 => ?_)⟩
    rotate_left
    · refine ⟨_, rfl, iteT (qw' s1116 fun z => ?_)⟩
      have := (bnd (rN (wg :: pg)).2.length).mpr (z.2.1 j _ hgb).1
      exact h1 (decide_eq_true (by omega))
    refine ⟨_, rfl, _, _, rfl, rfl, _, rfl, ite2 (fun h2 => iteT (qw' s1116 fun z => ?_)) (fun h2 => ?_)⟩
    · have := (bnd (rN (wg :: pg)).2.length).mpr (z.2.1 j _ hgb).1
      rw [decide_eq_true (show (((rN (wg :: pg)).2.map V.int).length : Int) ≤ hi by omega)] at h2
      cases h2
    have lk : legsOk (gateN (rN (wg :: pg))).1 (rN (wg :: pg)).2.length := (bnd _).mp ⟨by have := of_decide_eq_true h1; omega, by have := ndec h2; omega⟩
    refine ⟨_, rfl, r8, rfl, ⟨_, .of (s1116 _ _ e8)⟩, fun C4 hC4 => comp_list (K := K) (a := r8) (xs := (rN (wg :: pg)).2.map V.int) (fun i H17 => Same H16 H17 ∧ ∃ vs : List V, H17 C4 = some (.lst vs) ∧ vs.length ≤ i ∧ (vs = [] ↔ ∀ l ∈ (rN (wg :: pg)).2.take i, l < i0 + (j : Int))) ⟨same_upd hC4 _, [], upd_same, Nat.le_refl _, fun _ g hg => (nomatch hg), fun _ => rfl⟩ (fun i H17 _ z => .of (z.1 _ _ (s1116 _ _ e8))) ?_ ?_⟩
    · rintro i y H17 hy2 ⟨s17, vs, eC4, lv, iv⟩
      rw [List.getElem?_map] at hy2
      cases hz : (rN (wg :: pg)).2[i]? with
      | none => rw [hz] at hy2; cases hy2
      | some l =>
        rw [hz] at hy2
        cases hy2
        have hi2 := (List.getElem?_eq_some_iff.mp hz).1
        refine ⟨_, rfl, _, rfl, _, rfl, Ga, _, rfl, .inl (.of ((kT.trans s17) _ _ eGa15)), _, _, rfl, rfl, _, _, rfl, rfl, _, rfl, ?_⟩
        rw [lgv, List.take_add_one, hz]
        refine ite2 (fun hc => ?_) (fun hc => ?_)
        · have hc' := of_decide_eq_true hc
          refine ⟨_, rfl, vs, eC4, by omega, s17.write hC4 _, _, upd_same, by rw [List.length_append]; show _ + 1 ≤ _; omega, ?_⟩
          constructor
          · intro e
            exact absurd e (by simp)
          · exact fun h => absurd (h l (List.mem_append_right _ (.head _))) (by omega)
        · refine ⟨s17, vs, eC4, by omega, ?_⟩
          constructor
          · intro e l2 hl2
            rcases List.mem_append.mp hl2 with h | h
            · exact iv.mp e l2 h
            · rw [List.mem_singleton.mp h]
              exact Classical.byContradiction fun y => hc (decide_eq_true (by omega))
          · exact fun h => iv.mpr fun l2 hl2 => h l2 (List.mem_append_left _ hl2)
    rintro H17 ⟨s17, vs, eC4, lv, iv⟩
    rw [List.length_map, List.take_length] at iv
    refine ⟨(by show 0 ≤ sizeLine; decide), fun E2 hE2 => ?_⟩
    have kE2 := same_upd hE2 (.lst [])
    have s18 := s17.trans kE2
    refine ⟨C4, E2, vs, rfl, rfl, .of (kE2 _ _ eC4), .of upd_same, _, rfl, ite2 (fun c7 => qw' (s1116.trans s18) fun z => ?_) (fun c7 => ?_)⟩
    · refine of_decide_eq_true c7 (iv.mpr fun l hl => ?_)
      exact ((z.2.1 j _ hgb).2 l hl).2
    have below : ∀ l ∈ (rN (wg :: pg)).2, l < i0 + (j : Int) := iv.mp (Decidable.byContradiction fun h => c7 (decide_eq_true h))
    generalize upd H17 E2 (.lst []) = H18 at s18
    clear kE2 eC4 iv lv s17 hC4 hE2
    have s1118 := s1116.trans s18
    have s1518 := kT.trans s18
    refine ⟨_, rfl, .inl ⟨rfl, _, .of (s1518 _ _ eGa15)⟩, _, rfl, r7, _, _, _, rfl, rfl, .of (s1118 _ _ e7), atI_nat (j := 0) rfl, _, rfl, r8, _, rfl, .inl ⟨.of (s1118 _ _ e8), fun tl htl => ⟨(by show 2 ≤ sizeLine; decide), fun tp htp => ?_⟩⟩⟩
    have ktl := same_upd htl (.tup ((rN (wg :: pg)).2.map V.int))
    have etl := at_new (o := .tup ((rN (wg :: pg)).2.map V.int)) htl
    generalize upd H18 tl (.tup ((rN (wg :: pg)).2.map V.int)) = H19 at ktl etl htp
    have ktp := same_upd htp (.tup [.str ⟨wg.toArray⟩, .ref tl])
    have etp := at_new (o := .tup [.str ⟨wg.toArray⟩, .ref tl]) htp
    have s1520 := (s1518.trans ktl).trans ktp
    have ftp : H15 tp = none := (s1518.trans ktl).free htp
    have ftl : H15 tl = none := s1518.free htl
    have etl2 := ktp _ _ etl
    refine ⟨Ga, gv, _, rfl, rfl, s1520 _ _ eGa15, big (by omega), gv ++ [.ref tp], newsOf F H15 _, _, _, _, _, rfl, s15.trans (newsOf_same o15.same), (newsOf_off o15 s1520).write (.head _) _, upd_same, ?_, fun k g2 hk e => ?_⟩
    · rw [List.take_add_one, hg, List.map_append]
      exact (rgv.mono (newsOf_same o15.same)).snoc (.tup (.of (by rw [newsOf_new ftp]; exact etp)) (.cons (.str _) (.cons (.tup (.of (by rw [newsOf_new ftl]; exact etl2)) (Reps.ints _)) .nil)))
    · by_cases zz : k = j
      · subst zz
        rw [hg] at e
        cases e
        exact ⟨lk, fun l hl => ⟨pos l hl, below l hl⟩⟩
      · exact gd k g2 (by omega) e
  · rintro σ H15 ⟨gv, F, o7, o8, o9, o10, rfl, s15, o15, eGa15, rgv, gd⟩
    rw [lug, List.take_length] at rgv
    rw [lug] at gd
    have s1115 := (sF.trans s15).trans o15.same
    have lgv : gv.length = G.length := by rw [rgv.length, List.length_map]
    refine ⟨_, rfl, _, rfl, N, _, _, _, rfl, rfl, .of (s1115 _ _ eN11), atI_lastD nl2, ?_⟩
    refine ⟨_, rfl, _, _, rfl, rfl, _, rfl, ite2 (fun c => iteT (qw' s1115 fun z => ?_)) (fun c8 => ?_)⟩
    · have := z.1
      have h2 : i0 < 1 := of_decide_eq_true c
      have h3 : 1 ≤ i0 := this
      omega
    have i1 : 1 ≤ i0 := by
      have : ¬ i0 < 1 := fun z => c8 (decide_eq_true z)
      omega
    have enl15 := s1115 _ _ enl
    have lxs : (rN (outW :: xs)).2.length ≤ 601 := by
      have h1 := numsL_len exs
      have h2 := (txw (outW :: xs) (.tail _ (List.mem_append_right _ (.head _)))).1
      rw [List.length_cons] at h2
      rw [h1, List.tail_cons]
      omega
    have posx := nums_pos exs
    generalize (rN (outW :: xs)).2 = os at tb qw' enl15 lxs posx
    refine ⟨_, rfl, (by show 0 ≤ sizeLine; decide), fun E3 hE3 => ?_⟩
    have kE3 := same_upd hE3 (.lst [])
    have s1116 := s1115.trans kE3
    refine ⟨.list (os.map .int), .list [], .lst (.of (kE3 _ _ enl15)) (Reps.ints _), .lst (.of upd_same) .nil, ?_, rfl, fun eo => ⟨_, rfl, iteT (qw' s1116 fun z => ?_)⟩, fun ne => ⟨_, rfl, iteF ?_⟩⟩
    · show (os.map Dat.int).all (PySem.W.kqdOk _) = true
      rw [ok_ints]
    · have h1 : 1 ≤ os.length := z.2.2.1
      have h2 : os = [] := by
        cases os with
        | nil => rfl
        | cons a b => cases eo
      rw [h2] at h1
      cases h1
    have on : os ≠ [] := fun z => ne (by rw [z]; rfl)
    generalize upd H15 E3 (.lst []) = H16 at kE3 s1116
    refine ⟨_, rfl, rnl, os, rfl, .of (kE3 _ _ enl15), on, fun M hM hmax => ?_⟩
    refine ⟨_, rfl, _, rfl, Ga, _, rfl, .inl (.of (kE3 _ _ eGa15)), _, _, rfl, rfl, _, _, rfl, rfl, _, rfl, ite2 (fun c => qw' s1116 fun z => ?_) (fun c9 => ?_)⟩
    · have h1 := (z.2.2.2 M hM).2
      have h2 := of_decide_eq_true c
      have h3 : M < i0 + (((G.map rN).map gateN).length : Nat) := h1
      rw [List.length_map, List.length_map] at h3
      rw [lgv] at h2
      omega
    have hM2 : M < i0 + (G.length : Int) := by
      have : ¬ (i0 + ((gv.length : Nat) : Int) ≤ M) := fun z => c9 (decide_eq_true z)
      rw [lgv] at this
      omega
    have good : GoodW ⟨i0, (G.map rN).map gateN, os⟩ := by
      refine ⟨i1, fun k g e => ?_, ?_, fun o ho => ⟨posx o ho, ?_⟩⟩
      · have e' : ((G.map rN).map gateN)[k]? = some g := e
        rw [List.getElem?_map, List.getElem?_map] at e'
        cases hz : G[k]? with
        | none => rw [hz] at e'; cases e'
        | some g2 =>
          rw [hz] at e'
          cases e'
          exact gd k g2 (List.getElem?_eq_some_iff.mp hz).1 hz
      · exact List.length_pos_iff.mpr on
      · show o < i0 + (((G.map rN).map gateN).length : Nat)
        rw [List.length_map, List.length_map]
        have := hmax o ho
        omega
    refine ⟨_, rfl, _, rfl, _, rfl, (by show 3 ≤ sizeLine; decide), fun r hrn => ?_⟩
    have kr := same_upd hrn (.tup [.int i0, .ref Ga, .ref rnl])
    have er := at_new (o := .tup [.int i0, .ref Ga, .ref rnl]) hrn
    refine qg _ tb good r _ (((s04.trans s45).trans s511).trans (s1116.trans kr)) (.tup (.of er) (.cons (.int _) (.cons (.lst (.of (kr _ _ (kE3 _ _ eGa15))) ?_) (.cons (.lst (.of (kr _ _ (kE3 _ _ enl15))) (Reps.ints _)) .nil))))
    have e : ((G.map rN).map gateN).map gateD = G.map fun g => gateD (gateN (rN g)) := by
      rw [List.map_map, List.map_map]
      rfl
    show Reps K _ gv (((G.map rN).map gateN).map gateD)
    rw [e]
    exact (rgv.mono o15.same).mono (kE3.trans kr)
theorem sc_law_word : FnScope ["deck", "words"] ["deck"] (defScope s_law_word) := ⟨rfl, rfl, rfl, by decide +kernel, rfl, by decide +kernel, by decide +kernel⟩
theorem ok_law_word (T : Txt K mg t) : FnOk P w K mg base CX0 2 t.f_law_word t.fd_law_word ["deck"] sp_word := by
  refine T.d_law_word.F.okB sc_law_word (fun vs H Q E h => ?_) (fun cdv A outer s H vs Q E hr h => ?_)
  · obtain ⟨p, n, rfl, _⟩ := h
    rfl
  obtain ⟨p, n, rfl, hp, q⟩ := h
  refine ⟨_, (bpss_cons (bps_set (k := 1) sc_law_word.nd rfl (Or.inl rfl) (bpe_lst (bpa_cons bpe_str ( bpa_cons bpe_str ( bpa_cons bpe_str ( bpa_cons bpe_str ( bpa_cons bpe_str ( bpa_cons bpe_str ( bpa_cons bpe_str ( bpa_cons bpe_str ( bpa_cons bpe_str ( bpa_cons bpe_str ( bpa_cons bpe_str ( bpa_cons bpe_str ( bpa_cons bpe_str ( bpa_cons bpe_str ( bpa_cons bpe_str ( bpa_cons bpe_str ( bpa_cons bpe_str (bpa_nil))))))))))))))))))))
    (bpss_cons (bps_set (k := 1) sc_law_word.nd rfl (Or.inl rfl) (bpe_op op_cat (bpv 1) (bpe_lst (bpa_cons bpe_str ( bpa_cons bpe_str ( bpa_cons bpe_str ( bpa_cons bpe_str ( bpa_cons bpe_str ( bpa_cons bpe_str ( bpa_cons bpe_str ( bpa_cons (bpe_op op_mul_str bpe_str bpe_int) ( bpa_cons bpe_str ( bpa_cons bpe_str ( bpa_cons bpe_str ( bpa_cons bpe_str (bpa_nil))))))))))))))))
    (bpss_one (bps_ret (bpe_ix ix_list (bpv 1) (bpe_call (ok_law_take T) (hr.mono (by decide)) rfl T.d_law_take.m T.d_law_take.F.kp T.d_law_take.b .nil pass0 (bpa_cons (bpv 0) ( bpa_cons bpe_int (bpa_nil)))) (fun _ _ => rfl)))))), ?_⟩
  refine ⟨(by show 17 ≤ sizeLine; decide), fun M1 h1 => ?_⟩
  have sb1 := (SameB.refl p H).new h1 (.lst [.str "", .str "0", .str "1", .str "2", .str "00", .str "01", .str "-1", .str "+1", .str "1_0", .str "9", .str "in", .str "out", .str "and", .str "or", .str "odd", .str "not", .str "choose"])
  have p1 : p ≠ M1 := ne_of_none hp h1
  refine ⟨_, rfl, _, _, rfl, rfl, by decide, by decide, by decide +kernel, by decide +kernel, (by show 12 ≤ sizeLine; decide), fun M2 h2 => ?_⟩
  have d12 : M1 ≠ M2 := ne_of_none upd_same h2
  refine ⟨M1, M2, _, _, rfl, rfl, by rw [upd_ne d12, upd_same], upd_same, bigE (by show 17 + 12 ≤ _; omega), fun M3 h3 => ?_⟩
  obtain ⟨ms, em, lM, tM⟩ : ∃ ms : List Str, ms.map V.str = [V.str "", .str "0", .str "1", .str "2", .str "00", .str "01", .str "-1", .str "+1", .str "1_0", .str "9", .str "in", .str "out", .str "and", .str "or", .str "odd", .str "not", .str "choose"] ++ [.str "zero", .str "one", .str "And", .str "xor", .str "wire", .str "leg", .str "none", .str (repS "9" (50 : Int).toNat), .str "10", .str "x", .str "1.0", .str "3"] ∧ ms.length = 29 ∧ ∀ m ∈ ms, TXk 50 m :=
    ⟨["", "0", "1", "2", "00", "01", "-1", "+1", "1_0", "9", "in", "out", "and", "or", "odd", "not", "choose", "zero", "one", "And", "xor", "wire", "leg", "none", repS "9" (50 : Int).toNat, "10", "x", "1.0", "3"], rfl, rfl, by unfold TXk; decide +kernel⟩
  rw [← em]
  have sb2 := sb1.new h2 (.lst [.str "zero", .str "one", .str "And", .str "xor", .str "wire", .str "leg", .str "none", .str (repS "9" (50 : Int).toNat), .str "10", .str "x", .str "1.0", .str "3"])
  have sb3 := sb2.new h3 (.lst (ms.map V.str))
  have p2 : p ≠ M2 := ne_of_none (by rw [upd_ne p1]; exact hp) h2
  have p3 : p ≠ M3 := ne_of_none (by rw [upd_ne p2, upd_ne p1]; exact hp) h3
  have e3 := at_new (o := .lst (ms.map V.str)) h3
  generalize eH : (upd (upd (upd H M1 _) M2 _) M3 (.lst (ms.map V.str))) = H3 at sb3 e3
  have ep : H3 p = some (.lst [.int n]) := by rw [← eH, upd_ne p3, upd_ne p2, upd_ne p1]; exact hp
  refine ⟨_, rfl, _, rfl, p, n, 29, rfl, ep, by decide, by decide, fun r5 n5 a5 b5 => ?_⟩
  obtain ⟨v, hv, vm⟩ := atI_lt (l := ms.map V.str) a5 (by rw [List.length_map, lM]; exact b5)
  obtain ⟨m, hm, rfl⟩ := List.mem_map.mp vm
  exact ⟨M3, _, _, _, rfl, rfl, .of (by rw [upd_ne (Ne.symm p3)]; exact e3), hv, q m n5 _ (tM m hm) (sb3.write _) upd_same⟩
theorem sc_law_rows_put : FnScope ["deck", "rows", "at", "to", "way", "words", "spot"] ["deck", "rows"] (defScope s_law_rows_put) := ⟨rfl, rfl, rfl, by decide +kernel, rfl, by decide +kernel, by decide +kernel⟩
theorem ok_law_rows_put (T : Txt K mg t) : FnOk P w K mg base CX0 3 t.f_law_rows_put t.fd_law_rows_put ["deck", "rows"] sp_rput := by
  refine T.d_law_rows_put.F.okB sc_law_rows_put (fun vs H Q E h => ?_) (fun cdv A outer s H vs Q E hr h => ?_)
  · obtain ⟨p, q, n, zs, r, w, rfl, _⟩ := h
    rfl
  obtain ⟨p, g, n, zs, r, w, rfl, hp, hg, nz, pg, az, lr, lw, w1, r1, q⟩ := h
  have hu64 := hr.units
  have sl : sizeLine = 16777216 := by decide
  have l1 : 1 ≤ zs.length := List.length_pos_iff.mpr nz
  have lzs : zs.length ≤ 1000 := by
    have : zs.length ≤ wt zs := by unfold wt; omega
    omega
  have lm : (zs.map V.str).length = zs.length := List.length_map _
  refine ⟨_, (bpss_cons (bps_set (k := 2) sc_law_rows_put.nd rfl (Or.inl rfl) (bpe_call (ok_law_take T) (hr.mono (by decide)) rfl T.d_law_take.m T.d_law_take.F.kp T.d_law_take.b .nil pass0 (bpa_cons (bpv 0) ( bpa_cons (bpe_callB call_len_seq rfl T.z_len PySem.boot_len (bpa_cons (bpv 1) (bpa_nil))) (bpa_nil)))))
    (bpss_cons (bps_set (k := 3) sc_law_rows_put.nd rfl (Or.inl rfl) (bpe_call (ok_law_take T) (hr.mono (by decide)) rfl T.d_law_take.m T.d_law_take.F.kp T.d_law_take.b .nil pass0 (bpa_cons (bpv 0) ( bpa_cons (bpe_callB call_len_seq rfl T.z_len PySem.boot_len (bpa_cons (bpv 1) (bpa_nil))) (bpa_nil)))))
    (bpss_cons (bps_set (k := 4) sc_law_rows_put.nd rfl (Or.inl rfl) (bpe_call (ok_law_take T) (hr.mono (by decide)) rfl T.d_law_take.m T.d_law_take.F.kp T.d_law_take.b .nil pass0 (bpa_cons (bpv 0) ( bpa_cons bpe_int (bpa_nil)))))
    (bpss_cons (bps_if (bpt_cmpR op_eq (bpv 4) bpe_int (nomark _)) (bpss_one (bps_ret (bpe_op op_cat (bpe_slice sl_list (bpv 1) bpo_none (bpo_some (bpv 2))) (bpe_slice sl_list (bpv 1) (bpo_some (bpe_op op_add (bpv 2) bpe_int)) bpo_none)))) bpss_nil)
    (bpss_cons (bps_if (bpt_cmpR op_eq (bpv 4) bpe_int (nomark _)) (bpss_one (bps_ret (bpe_op op_cat (bpe_op op_cat (bpe_slice sl_list (bpv 1) bpo_none (bpo_some (bpv 3))) (bpe_lst (bpa_cons (bpe_ix ix_list (bpv 1) (bpv 2) (fun _ _ => rfl)) (bpa_nil)))) (bpe_slice sl_list (bpv 1) (bpo_some (bpv 3)) bpo_none)))) bpss_nil)
    (bpss_cons (bps_if (bpt_cmpR op_eq (bpv 4) bpe_int (nomark _)) (bpss_one (bps_ret (bpe_op op_cat (bpe_op op_cat (bpe_slice sl_list (bpv 1) bpo_none (bpo_some (bpv 2))) (bpe_lst (bpa_cons (bpe_ix ix_list (bpv 1) (bpv 3) (fun _ _ => rfl)) (bpa_nil)))) (bpe_slice sl_list (bpv 1) (bpo_some (bpe_op op_add (bpv 2) bpe_int)) bpo_none)))) bpss_nil)
    (bpss_cons (bps_if (bpt_cmpR op_eq (bpv 4) bpe_int (nomark _)) (bpss_one (bps_ret (bpe_op op_cat (bpe_op op_cat (bpe_lst (bpa_cons (bpe_ix ix_list (bpv 1) (bpv 2) (fun _ _ => rfl)) (bpa_nil))) (bpe_slice sl_list (bpv 1) bpo_none (bpo_some (bpv 2)))) (bpe_slice sl_list (bpv 1) (bpo_some (bpe_op op_add (bpv 2) bpe_int)) bpo_none)))) bpss_nil)
    (bpss_cons (bps_set (k := 5) sc_law_rows_put.nd rfl (Or.inl rfl) (bpe_bm PySem.F.plainAttrs_str PySem.F.slot_str_split PySem.F.type_str_split mt_splitA (bpe_ix ix_list (bpv 1) (bpv 2) (fun _ _ => rfl)) (bpa_cons bpe_str (bpa_nil))))
    (bpss_cons (bps_set (k := 6) sc_law_rows_put.nd rfl (Or.inl rfl) (bpe_call (ok_law_take T) (hr.mono (by decide)) rfl T.d_law_take.m T.d_law_take.F.kp T.d_law_take.b .nil pass0 (bpa_cons (bpv 0) ( bpa_cons (bpe_callB call_len_seq rfl T.z_len PySem.boot_len (bpa_cons (bpv 5) (bpa_nil))) (bpa_nil)))))
    (bpss_cons (bps_if (bpt_cmpR op_eq (bpv 4) bpe_int (nomark _)) (bpss_one (bps_expr (bpe_bm PySem.F.plainAttrs_list PySem.F.slot_list_insert PySem.F.type_list_insert mt_insert (bpv 5) (bpa_cons (bpv 6) ( bpa_cons (bpe_call (ok_law_word T) (hr.mono (by decide)) rfl T.d_law_word.m T.d_law_word.F.kp T.d_law_word.b .nil pass0 (bpa_cons (bpv 0) (bpa_nil))) (bpa_nil)))))) (bpss_one (bps_if (bpt_cmpR op_eq (bpv 4) bpe_int (nomark _)) (bpss_one (bps_expr (bpe_bm PySem.F.plainAttrs_list PySem.F.slot_list_pop PySem.F.type_list_pop mt_popAt (bpv 5) (bpa_cons (bpv 6) (bpa_nil))))) (bpss_one (bps_asg (bpe_call (ok_law_word T) (hr.mono (by decide)) rfl T.d_law_word.m T.d_law_word.F.kp T.d_law_word.b .nil pass0 (bpa_cons (bpv 0) (bpa_nil))) (bpg_sub (bpv 5) (bpv 6) set_list))))))
    (bpss_one (bps_ret (bpe_op op_cat (bpe_op op_cat (bpe_slice sl_list (bpv 1) bpo_none (bpo_some (bpv 2))) (bpe_lst (bpa_cons (bpe_bm PySem.F.plainAttrs_str PySem.F.slot_str_join PySem.F.type_str_join mt_joinA bpe_str (bpa_cons (bpv 5) (bpa_nil))) (bpa_nil)))) (bpe_slice sl_list (bpv 1) (bpo_some (bpe_op op_add (bpv 2) bpe_int)) bpo_none)))))))))))))), ?_⟩
  refine ⟨_, rfl, _, rfl, g, _, rfl, .inl (.of hg), p, n, _, rfl, hp, by omega, by omega, fun a n1 a0 a1 => ?_⟩
  refine ⟨_, rfl, _, rfl, g, _, rfl, .inl (.of (by rw [upd_ne (Ne.symm pg)]; exact hg)), p, n1, _, rfl, upd_same, by omega, by omega, fun b n2 b0 b1 => ?_⟩
  rw [upd_upd]
  refine ⟨_, rfl, p, n2, 7, rfl, upd_same, by decide, by decide, fun way n3 _ _ => ?_⟩
  rw [upd_upd]
  have sb1 : SameB p H (upd H p (.lst [.int n3])) := (SameB.refl p H).write _
  have e1 : (upd H p (.lst [.int n3])) p = some (.lst [.int n3]) := upd_same
  have eg : (upd H p (.lst [.int n3])) g = some (.lst (zs.map V.str)) := by rw [upd_ne (Ne.symm pg)]; exact hg
  generalize upd H p (.lst [.int n3]) = H1 at sb1 e1 eg
  rw [lm] at a1 b1
  have fin : ∀ {Hx : Hp} {A : Addr} (ys : List Str), Same H1 Hx → Hx A = none → wt ys ≤ w + r + 55 → AscL ys → Q (.ref A) (upd Hx A (.lst (ys.map V.str))) := fun {Hx A} ys s2 h hw ha =>
    q A ys n3 _ upd_same hw ha (sb1.trans ((s2.trans (same_upd h _)).b p)) ((s2.trans (same_upd h _)) _ _ e1)
  have aT : ∀ k : Nat, AscL (zs.take k) := fun k z hz => az z (List.mem_of_mem_take hz)
  have aD : ∀ k : Nat, AscL (zs.drop k) := fun k z hz => az z (List.mem_of_mem_drop hz)
  have aA : ∀ {xs ys : List Str}, AscL xs → AscL ys → AscL (xs ++ ys) := fun h1 h2 z hz => by
    rcases List.mem_append.mp hz with h | h
    · exact h1 z h
    · exact h2 z h
  have a1' : ∀ {x : Str}, (∀ c ∈ x.cps.toList, c < 128) → AscL [x] := fun h z hz => by rw [List.mem_singleton.mp hz]; exact h
  have wd : ∀ k : Nat, wt (zs.take k) + wt (zs.drop (k + 1)) ≤ wt zs := fun k => by have h1 := wt_two zs k; have h2 := wt_drop zs k; omega
  have wo : ∀ x : Str, wt [x] = x.length + 1 := fun x => by rw [wt_cons]; rfl
  have ta : (a + 1).toNat = a.toNat + 1 := by omega
  obtain ⟨ya, hya⟩ : ∃ y, zs[a.toNat]? = some y := ⟨_, List.getElem?_eq_getElem (by omega)⟩
  obtain ⟨yb, hyb⟩ : ∃ y, zs[b.toNat]? = some y := ⟨_, List.getElem?_eq_getElem (by omega)⟩
  have atA : atI (zs.map V.str) a = some (.str ya) := by
    have := atI_nat (xs := zs.map V.str) (j := a.toNat) (v := .str ya) (by rw [List.getElem?_map, hya]; rfl)
    rw [Int.toNat_of_nonneg a0] at this
    exact this
  have atB : atI (zs.map V.str) b = some (.str yb) := by
    have := atI_nat (xs := zs.map V.str) (j := b.toNat) (v := .str yb) (by rw [List.getElem?_map, hyb]; rfl)
    rw [Int.toNat_of_nonneg b0] at this
    exact this
  have mya := List.mem_of_getElem? hya
  have myb := List.mem_of_getElem? hyb
  have lya := lr ya mya
  have lyb := lr yb myb
  have bg : ∀ {m : Nat}, m ≤ 3000 → m ≤ sizeLine := fun h => by omega
  refine ⟨_, rfl, rfl, _, rfl, ite2 (fun _ => ?_) (fun _ => ?_)⟩
  · refine ⟨_, rfl, _, rfl, _, rfl, g, _, rfl, .of eg, fun A1 h1 => ?_⟩
    rw [cutS_lo a0]
    have k1 := same_upd h1 (.lst ((zs.take a.toNat).map V.str))
    have f1 := at_new (o := .lst ((zs.take a.toNat).map V.str)) h1
    generalize upd H1 A1 (.lst ((zs.take a.toNat).map V.str)) = H2 at k1 f1
    refine ⟨_, rfl, _, rfl, _, _, rfl, rfl, _, rfl, g, _, rfl, .of (k1 _ _ eg), fun A2 h2 => ?_⟩
    rw [cutS_hi (by omega), ta]
    have k2 := same_upd h2 (.lst ((zs.drop (a.toNat + 1)).map V.str))
    have f2 := at_new (o := .lst ((zs.drop (a.toNat + 1)).map V.str)) h2
    generalize upd H2 A2 (.lst ((zs.drop (a.toNat + 1)).map V.str)) = H3 at k2 f2
    refine ⟨A1, A2, _, _, rfl, rfl, k2 _ _ f1, f2, bg (by rw [List.length_map, List.length_map, List.length_take, List.length_drop]; omega), fun A3 h3 => ?_⟩
    rw [← List.map_append]
    exact fin _ (k1.trans k2) h3 (by rw [wt_app]; have := wd a.toNat; omega) (aA (aT _) (aD _))
  refine ⟨_, rfl, rfl, _, rfl, ite2 (fun _ => ?_) (fun _ => ?_)⟩
  · refine ⟨_, rfl, _, rfl, _, rfl, g, _, rfl, .of eg, fun A1 h1 => ?_⟩
    rw [cutS_lo b0]
    have k1 := same_upd h1 (.lst ((zs.take b.toNat).map V.str))
    have f1 := at_new (o := .lst ((zs.take b.toNat).map V.str)) h1
    generalize upd H1 A1 (.lst ((zs.take b.toNat).map V.str)) = H2 at k1 f1
    refine ⟨_, rfl, _, rfl, g, _, _, _, rfl, rfl, .of (k1 _ _ eg), atA, (by show 1 ≤ sizeLine; decide), fun A2 h2 => ?_⟩
    have k2 := same_upd h2 (.lst [.str ya])
    have f2 := at_new (o := .lst [.str ya]) h2
    generalize upd H2 A2 (.lst [.str ya]) = H3 at k2 f2
    refine ⟨A1, A2, _, _, rfl, rfl, k2 _ _ f1, f2, bg (by rw [List.length_map, List.length_take, List.length_singleton]; omega), fun A3 h3 => ?_⟩
    have k3 := same_upd h3 (.lst ((zs.take b.toNat).map V.str ++ [.str ya]))
    have f3 := at_new (o := .lst ((zs.take b.toNat).map V.str ++ [.str ya])) h3
    generalize upd H3 A3 (.lst ((zs.take b.toNat).map V.str ++ [.str ya])) = H4 at k3 f3
    have k13 := (k1.trans k2).trans k3
    refine ⟨_, rfl, _, rfl, _, rfl, g, _, rfl, .of (k13 _ _ eg), fun A4 h4 => ?_⟩
    rw [cutS_hi (by omega)]
    have k4 := same_upd h4 (.lst ((zs.drop b.toNat).map V.str))
    have f4 := at_new (o := .lst ((zs.drop b.toNat).map V.str)) h4
    generalize upd H4 A4 (.lst ((zs.drop b.toNat).map V.str)) = H5 at k4 f4
    refine ⟨A3, A4, _, _, rfl, rfl, k4 _ _ f3, f4, bg (by rw [List.length_append, List.length_map, List.length_map, List.length_take, List.length_drop, List.length_singleton]; omega), fun A5 h5 => ?_⟩
    rw [show [V.str ya] = [ya].map V.str from rfl, ← List.map_append, ← List.map_append]
    exact fin _ (k13.trans k4) h5 (by rw [wt_app, wt_app, wo]; have := wt_two zs b.toNat; omega) (aA (aA (aT _) (a1' (az _ mya))) (aD _))
  refine ⟨_, rfl, rfl, _, rfl, ite2 (fun _ => ?_) (fun _ => ?_)⟩
  · refine ⟨_, rfl, _, rfl, _, rfl, g, _, rfl, .of eg, fun A1 h1 => ?_⟩
    rw [cutS_lo a0]
    have k1 := same_upd h1 (.lst ((zs.take a.toNat).map V.str))
    have f1 := at_new (o := .lst ((zs.take a.toNat).map V.str)) h1
    generalize upd H1 A1 (.lst ((zs.take a.toNat).map V.str)) = H2 at k1 f1
    refine ⟨_, rfl, _, rfl, g, _, _, _, rfl, rfl, .of (k1 _ _ eg), atB, (by show 1 ≤ sizeLine; decide), fun A2 h2 => ?_⟩
    have k2 := same_upd h2 (.lst [.str yb])
    have f2 := at_new (o := .lst [.str yb]) h2
    generalize upd H2 A2 (.lst [.str yb]) = H3 at k2 f2
    refine ⟨A1, A2, _, _, rfl, rfl, k2 _ _ f1, f2, bg (by rw [List.length_map, List.length_take, List.length_singleton]; omega), fun A3 h3 => ?_⟩
    have k3 := same_upd h3 (.lst ((zs.take a.toNat).map V.str ++ [.str yb]))
    have f3 := at_new (o := .lst ((zs.take a.toNat).map V.str ++ [.str yb])) h3
    generalize upd H3 A3 (.lst ((zs.take a.toNat).map V.str ++ [.str yb])) = H4 at k3 f3
    have k13 := (k1.trans k2).trans k3
    refine ⟨_, rfl, _, rfl, _, _, rfl, rfl, _, rfl, g, _, rfl, .of (k13 _ _ eg), fun A4 h4 => ?_⟩
    rw [cutS_hi (by omega), ta]
    have k4 := same_upd h4 (.lst ((zs.drop (a.toNat + 1)).map V.str))
    have f4 := at_new (o := .lst ((zs.drop (a.toNat + 1)).map V.str)) h4
    generalize upd H4 A4 (.lst ((zs.drop (a.toNat + 1)).map V.str)) = H5 at k4 f4
    refine ⟨A3, A4, _, _, rfl, rfl, k4 _ _ f3, f4, bg (by rw [List.length_append, List.length_map, List.length_map, List.length_take, List.length_drop, List.length_singleton]; omega), fun A5 h5 => ?_⟩
    rw [show [V.str yb] = [yb].map V.str from rfl, ← List.map_append, ← List.map_append]
    exact fin _ (k13.trans k4) h5 (by rw [wt_app, wt_app, wo]; have := wd a.toNat; omega) (aA (aA (aT _) (a1' (az _ myb))) (aD _))
  refine ⟨_, rfl, rfl, _, rfl, ite2 (fun _ => ?_) (fun _ => ?_)⟩
  · refine ⟨_, rfl, _, rfl, g, _, _, _, rfl, rfl, .of eg, atA, (by show 1 ≤ sizeLine; decide), fun A2 h2 => ?_⟩
    have k2 := same_upd h2 (.lst [.str ya])
    have f2 := at_new (o := .lst [.str ya]) h2
    generalize upd H1 A2 (.lst [.str ya]) = H3 at k2 f2
    refine ⟨_, rfl, _, rfl, _, rfl, g, _, rfl, .of (k2 _ _ eg), fun A1 h1 => ?_⟩
    rw [cutS_lo a0]
    have k1 := same_upd h1 (.lst ((zs.take a.toNat).map V.str))
    have f1 := at_new (o := .lst ((zs.take a.toNat).map V.str)) h1
    generalize upd H3 A1 (.lst ((zs.take a.toNat).map V.str)) = H2 at k1 f1
    refine ⟨A2, A1, _, _, rfl, rfl, k1 _ _ f2, f1, bg (by rw [List.length_map, List.length_take, List.length_singleton]; omega), fun A3 h3 => ?_⟩
    have k3 := same_upd h3 (.lst ([.str ya] ++ (zs.take a.toNat).map V.str))
    have f3 := at_new (o := .lst ([.str ya] ++ (zs.take a.toNat).map V.str)) h3
    generalize upd H2 A3 (.lst ([.str ya] ++ (zs.take a.toNat).map V.str)) = H4 at k3 f3
    have k13 := (k2.trans k1).trans k3
    refine ⟨_, rfl, _, rfl, _, _, rfl, rfl, _, rfl, g, _, rfl, .of (k13 _ _ eg), fun A4 h4 => ?_⟩
    rw [cutS_hi (by omega), ta]
    have k4 := same_upd h4 (.lst ((zs.drop (a.toNat + 1)).map V.str))
    have f4 := at_new (o := .lst ((zs.drop (a.toNat + 1)).map V.str)) h4
    generalize upd H4 A4 (.lst ((zs.drop (a.toNat + 1)).map V.str)) = H5 at k4 f4
    refine ⟨A3, A4, _, _, rfl, rfl, k4 _ _ f3, f4, bg (by rw [List.length_append, List.length_map, List.length_map, List.length_take, List.length_drop, List.length_singleton]; omega), fun A5 h5 => ?_⟩
    rw [show [V.str ya] = [ya].map V.str from rfl, ← List.map_append, ← List.map_append]
    exact fin _ (k13.trans k4) h5 (by rw [wt_app, wt_app, wo]; have := wd a.toNat; omega) (aA (aA (a1' (az _ mya)) (aT _)) (aD _))
  refine ⟨_, rfl, _, rfl, g, _, _, _, rfl, rfl, .of eg, atA, rfl, ya, 32, Str.ofString " ", rfl, rfl, blankA, (by decide +kernel), by omega, fun D hD => ?_⟩
  have pD : p ≠ D := ne_of_none e1 hD
  have hD0 : H D = none := sameB_fr sb1 (Ne.symm pD) hD
  have sb2 := sameB_put sb1 hD0 (.lst ((cutL 32 ya.cps.toList).map fun p => V.str ⟨p.toArray⟩))
  have e2 : (upd H1 D (.lst ((cutL 32 ya.cps.toList).map fun p => V.str ⟨p.toArray⟩))) p = some (.lst [.int n3]) := by rw [upd_ne pD]; exact e1
  have eD : (upd H1 D (.lst ((cutL 32 ya.cps.toList).map fun p => V.str ⟨p.toArray⟩))) D = some (.lst (((cutL 32 ya.cps.toList).map fun p => (⟨p.toArray⟩ : Str)).map V.str)) := by rw [upd_same, List.map_map]; rfl
  have wz := wt_cut ya.cps.toList
  have eya : ya.cps.toList.length = ya.length := Array.length_toList
  rw [eya] at wz
  have ay : AscL ((cutL 32 ya.cps.toList).map fun p => (⟨p.toArray⟩ : Str)) := fun y hy => by
    obtain ⟨p, hp, rfl⟩ := List.mem_map.mp hy
    intro c hc
    exact az ya mya c (((cut_parts 32 ya.cps.toList).1 p hp).2 c (by simpa using hc))
  have ny : 1 ≤ ((cutL 32 ya.cps.toList).map fun p => (⟨p.toArray⟩ : Str)).length := by
    rw [List.length_map]
    cases h : cutL 32 ya.cps.toList with
    | nil => exact absurd h (cutL_ne _ _)
    | cons _ _ => rw [List.length_cons]; omega
  generalize (cutL 32 ya.cps.toList).map (fun p => (⟨p.toArray⟩ : Str)) = ws at eD wz ay ny
  generalize upd H1 D (.lst ((cutL 32 ya.cps.toList).map fun p => V.str ⟨p.toArray⟩)) = H2 at sb2 e2 eD
  have lws : ws.length ≤ 601 := by
    have : ws.length ≤ wt ws := by unfold wt; omega
    omega
  have lwm : (ws.map V.str).length = ws.length := List.length_map _
  refine ⟨_, rfl, _, rfl, D, _, rfl, .inl (.of eD), p, n3, _, rfl, e2, by omega, by omega, fun spot n4 sa sb => ?_⟩
  rw [lwm] at sb
  have sb3 := sb2.write (.lst [.int n4])
  have e3 : (upd H2 p (.lst [.int n4])) p = some (.lst [.int n4]) := upd_same
  have eD3 : (upd H2 p (.lst [.int n4])) D = some (.lst (ws.map V.str)) := by rw [upd_ne (Ne.symm pD)]; exact eD
  generalize upd H2 p (.lst [.int n4]) = H3 at sb3 e3 eD3
  refine' joinXA (α := List Str × Int) (C := fun v Hx => SameB p H Hx ∧ Hx p = some (.lst [.int v.2]) ∧ Hx D = some (.lst (v.1.map V.str)) ∧ wt v.1 ≤ wt ws + 51 ∧ AscL v.1) (st := fun _ => [some (.ref p), some (.ref g), some (.int a), some (.int b), some (.int way), some (.ref D), some (.int spot)]) (fun rest => _) _
  rotate_left
  · refine ⟨_, rfl, rfl, _, rfl, ite2 (fun _ => ?_) (fun _ => ?_)⟩
    · refine ⟨_, rfl, .inl ⟨rfl, _, .of eD3⟩, _, rfl, _, rfl, p, n4, rfl, e3, fun m n5 H4 tm sb4 e4 => ?_⟩
      have eD4 := sb4 D _ (Ne.symm pD) eD3
      refine ⟨D, ws.map V.str, spot, .str m, rfl, rfl, eD4, sa, by rw [List.length_map]; omega, by rw [List.length_map]; omega, ?_⟩
      refine rest (ws.take spot.toNat ++ m :: ws.drop spot.toNat, n5) _ ⟨sameB_put (sb3.trans sb4) hD0 _, by rw [upd_ne pD]; exact e4, ?_, ?_, ?_⟩
      · rw [upd_same, List.map_append, List.map_cons, List.map_take, List.map_drop]
      · show wt (ws.take spot.toNat ++ m :: ws.drop spot.toNat) ≤ _
        rw [wt_ins]
        have := tm.1
        omega
      · intro y hy
        rcases List.mem_append.mp hy with hy | hy
        · exact ay y (List.mem_of_mem_take hy)
        · rcases List.mem_cons.mp hy with rfl | hy
          · exact tm.2
          · exact ay y (List.mem_of_mem_drop hy)
    refine ⟨_, rfl, rfl, _, rfl, ite2 (fun _ => ?_) (fun _ => ?_)⟩
    · have hk : spot.toNat < ws.length := by omega
      have hix : seqIndex? spot (ws.map V.str).length = some spot.toNat := by
        rw [List.length_map]
        exact (ixN_seq (ix_in sa sb)).1
      refine ⟨_, rfl, .inl ⟨rfl, _, .of eD3⟩, _, rfl, D, ws.map V.str, spot, spot.toNat, _, rfl, rfl, eD3, by omega, by omega, hix, by rw [List.getElem?_map, List.getElem?_eq_getElem hk]; rfl, ?_⟩
      refine rest (ws.eraseIdx spot.toNat, n4) _ ⟨sameB_put sb3 hD0 _, by rw [upd_ne pD]; exact e3, ?_, ?_, ?_⟩
      · rw [upd_same]
        show some (HO.lst ((ws.map V.str).eraseIdx spot.toNat)) = some (.lst ((ws.eraseIdx spot.toNat).map V.str))
        rw [List.eraseIdx_eq_take_drop_succ, List.eraseIdx_eq_take_drop_succ, List.map_append, List.map_take, List.map_drop]
      · have := wt_del ws spot.toNat
        show wt (ws.eraseIdx spot.toNat) ≤ _
        omega
      · exact fun y hy => ay y (List.mem_of_mem_eraseIdx hy)
    · refine ⟨_, rfl, p, n4, rfl, e3, fun m n5 H4 tm sb4 e4 => ?_⟩
      have eD4 := sb4 D _ (Ne.symm pD) eD3
      have hix : ixN (ws.map V.str).length spot = some spot.toNat := by
        rw [List.length_map]
        exact ix_in sa sb
      refine ⟨_, rfl, _, rfl, D, ws.map V.str, spot, spot.toNat, rfl, rfl, eD4, hix, ?_⟩
      refine rest (ws.set spot.toNat m, n5) _ ⟨sameB_put (sb3.trans sb4) hD0 _, by rw [upd_ne pD]; exact e4, ?_, ?_, ?_⟩
      · rw [upd_same, List.map_set]
      · have := wt_set ws m spot.toNat
        have := tm.1
        show wt (ws.set spot.toNat m) ≤ _
        omega
      · intro y hy
        rcases List.mem_or_eq_of_mem_set hy with hy | rfl
        · exact ay y hy
        · exact tm.2
  rintro ⟨ys, n6⟩ H5 ⟨s5, e5, eD5, wy, ayy⟩
  have eg5 := s5 g _ (Ne.symm pg) hg
  have wy' : wt ys ≤ ya.length + 52 := by
    have h : wt ys ≤ wt ws + 51 := wy
    omega
  refine ⟨_, rfl, _, rfl, _, rfl, g, _, rfl, .of eg5, fun A1 h1 => ?_⟩
  rw [cutS_lo a0]
  have k1 := same_upd h1 (.lst ((zs.take a.toNat).map V.str))
  have f1 := at_new (o := .lst ((zs.take a.toNat).map V.str)) h1
  generalize upd H5 A1 (.lst ((zs.take a.toNat).map V.str)) = H6 at k1 f1
  refine ⟨rfl, _, rfl, _, D, ys, rfl, rfl, k1 _ _ eD5, join_fit wy' (by omega), (by show 1 ≤ sizeLine; decide), fun A2 h2 => ?_⟩
  have tj := join_tx ayy wy'
  generalize Str.join (Str.ofString " ") ys = yj at tj
  have k2 := same_upd h2 (.lst [.str yj])
  have f2 := at_new (o := .lst [.str yj]) h2
  generalize upd H6 A2 (.lst [.str yj]) = H7 at k2 f2
  refine ⟨A1, A2, _, _, rfl, rfl, k2 _ _ f1, f2, bg (by rw [List.length_map, List.length_take, List.length_singleton]; omega), fun A3 h3 => ?_⟩
  have k3 := same_upd h3 (.lst ((zs.take a.toNat).map V.str ++ [.str yj]))
  have f3 := at_new (o := .lst ((zs.take a.toNat).map V.str ++ [.str yj])) h3
  generalize upd H7 A3 (.lst ((zs.take a.toNat).map V.str ++ [.str yj])) = H8 at k3 f3
  have k13 := (k1.trans k2).trans k3
  refine ⟨_, rfl, _, rfl, _, _, rfl, rfl, _, rfl, g, _, rfl, .of (k13 _ _ eg5), fun A4 h4 => ?_⟩
  rw [cutS_hi (by omega), ta]
  have k4 := same_upd h4 (.lst ((zs.drop (a.toNat + 1)).map V.str))
  have f4 := at_new (o := .lst ((zs.drop (a.toNat + 1)).map V.str)) h4
  generalize upd H8 A4 (.lst ((zs.drop (a.toNat + 1)).map V.str)) = H9 at k4 f4
  refine ⟨A3, A4, _, _, rfl, rfl, k4 _ _ f3, f4, bg (by rw [List.length_append, List.length_map, List.length_map, List.length_take, List.length_drop, List.length_singleton]; omega), fun A5 h5 => ?_⟩
  rw [show [V.str yj] = [yj].map V.str from rfl, ← List.map_append, ← List.map_append]
  have k5 := same_upd h5 (.lst (((zs.take a.toNat ++ [yj]) ++ zs.drop (a.toNat + 1)).map V.str))
  have k15 := (k13.trans k4).trans k5
  refine q A5 _ n6 _ upd_same ?_ (aA (aA (aT _) (a1' tj.2)) (aD _)) (s5.trans (k15.b p)) (k15 _ _ e5)
  rw [wt_app, wt_app, wo]
  have := wd a.toNat
  have := tj.1
  omega
theorem sc_law_spoilt : FnScope ["deck", "text", "way", "at", "sign"] ["deck", "text"] (defScope s_law_spoilt) := ⟨rfl, rfl, rfl, by decide +kernel, rfl, by decide +kernel, by decide +kernel⟩
theorem ok_law_spoilt (T : Txt K mg t) : FnOk P w K mg base CX0 4 t.f_law_spoilt t.fd_law_spoilt ["deck", "text"] sp_spoW := by
  refine T.d_law_spoilt.F.okB sc_law_spoilt (fun vs H Q E h => ?_) (fun cdv A outer s H vs Q E hr h => ?_)
  · obtain ⟨p, n, z, k, r, rfl, _⟩ := h
    rfl
  obtain ⟨p, n, z, k, r, rfl, hp, tz, lr, k6, r6, q⟩ := h
  have hu64 := hr.units
  have sl : sizeLine = 16777216 := by decide
  have lz := tz.1
  have ez : z.cps.toList.length = z.length := Array.length_toList
  refine ⟨_, (bpss_cons (bps_set (k := 2) sc_law_spoilt.nd rfl (Or.inl rfl) (bpe_call (ok_law_take T) (hr.mono (by decide)) rfl T.d_law_take.m T.d_law_take.F.kp T.d_law_take.b .nil pass0 (bpa_cons (bpv 0) ( bpa_cons bpe_int (bpa_nil)))))
    (bpss_cons (bps_set (k := 3) sc_law_spoilt.nd rfl (Or.inl rfl) (bpe_call (ok_law_take T) (hr.mono (by decide)) rfl T.d_law_take.m T.d_law_take.F.kp T.d_law_take.b .nil pass0 (bpa_cons (bpv 0) ( bpa_cons (bpe_op op_add (bpe_callB call_len_str rfl T.z_len PySem.boot_len (bpa_cons (bpv 1) (bpa_nil))) bpe_int) (bpa_nil)))))
    (bpss_cons (bps_set (k := 4) sc_law_spoilt.nd rfl (Or.inl rfl) (bpe_ix ix_str bpe_str (bpe_call (ok_law_take T) (hr.mono (by decide)) rfl T.d_law_take.m T.d_law_take.F.kp T.d_law_take.b .nil pass0 (bpa_cons (bpv 0) ( bpa_cons bpe_int (bpa_nil)))) (fun _ _ => rfl)))
    (bpss_cons (bps_if (bpt_cmpR op_eq (bpv 2) bpe_int (nomark _)) (bpss_one (bps_ret (bpe_op op_add_str (bpe_op op_add_str (bpe_slice sl_strB (bpv 1) bpo_none (bpo_some (bpv 3))) (bpv 4)) (bpe_slice sl_strB (bpv 1) (bpo_some (bpv 3)) bpo_none)))) bpss_nil)
    (bpss_cons (bps_if (bpt_cmpR op_eq (bpv 2) bpe_int (nomark _)) (bpss_one (bps_ret (bpe_op op_add_str (bpe_slice sl_strB (bpv 1) bpo_none (bpo_some (bpv 3))) (bpe_slice sl_strB (bpv 1) (bpo_some (bpe_op op_add (bpv 3) bpe_int)) bpo_none)))) bpss_nil)
    (bpss_cons (bps_if (bpt_cmpR op_eq (bpv 2) bpe_int (nomark _)) (bpss_one (bps_ret (bpe_op op_add_str (bpe_op op_add_str (bpe_slice sl_strB (bpv 1) bpo_none (bpo_some (bpv 3))) (bpv 4)) (bpe_slice sl_strB (bpv 1) (bpo_some (bpe_op op_add (bpv 3) bpe_int)) bpo_none)))) bpss_nil)
    (bpss_cons (bps_if (bpt_cmpR op_eq (bpv 2) bpe_int (nomark _)) (bpss_one (bps_ret (bpe_ix ix_list (bpe_lst (bpa_cons (bpe_op op_add_str bpe_str (bpv 1)) ( bpa_cons (bpe_op op_add_str (bpv 1) bpe_str) ( bpa_cons (bpe_op op_add_str (bpv 1) bpe_str) ( (bpa_rep2B (k := 1) rfl (by decide +kernel) (by decide +kernel) rfl (Or.inl rfl))))))) (bpe_call (ok_law_take T) (hr.mono (by decide)) rfl T.d_law_take.m T.d_law_take.F.kp T.d_law_take.b .nil pass0 (bpa_cons (bpv 0) ( bpa_cons bpe_int (bpa_nil)))) (fun _ _ => rfl)))) bpss_nil)
    (bpss_one (bps_ret (bpe_bm PySem.F.plainAttrs_str PySem.F.slot_str_join PySem.F.type_str_join mt_joinA bpe_str (bpa_cons (bpe_call (ok_law_rows_put T) (hr.mono (by decide)) rfl T.d_law_rows_put.m T.d_law_rows_put.F.kp T.d_law_rows_put.b .nil pass0 (bpa_cons (bpv 0) ( bpa_cons (bpe_bm PySem.F.plainAttrs_str PySem.F.slot_str_split PySem.F.type_str_split mt_splitA (bpv 1) (bpa_cons bpe_str (bpa_nil))) (bpa_nil)))) (bpa_nil)))))))))))), ?_⟩
  refine ⟨_, rfl, p, n, 6, rfl, hp, by decide, by decide, fun way n1 wa wb => ?_⟩
  refine ⟨_, rfl, _, rfl, z, rfl, by omega, _, _, rfl, rfl, p, n1, _, rfl, upd_same, by omega, by omega, fun a n2 aa ab => ?_⟩
  rw [upd_upd]
  refine ⟨_, rfl, p, n2, 41, rfl, upd_same, by decide, by decide, fun r3 n3 a3 b3 => ?_⟩
  rw [upd_upd]
  obtain ⟨c, hc, cm⟩ := atI_lt (l := (Str.ofString "0123456789 abcdehinorstuxzANO-+.,;:_#~\n\n  ").cps.toList) a3 (by rw [show (Str.ofString "0123456789 abcdehinorstuxzANO-+.,;:_#~\n\n  ").cps.toList.length = 42 by decide +kernel]; omega)
  have c128 : c < 128 := (show ∀ c ∈ (Str.ofString "0123456789 abcdehinorstuxzANO-+.,;:_#~\n\n  ").cps.toList, c < 128 by decide +kernel) c cm
  have tc : TXk 1 ⟨#[c]⟩ := ⟨Nat.le_refl _, fun d hd => by rw [show d = c by simpa using hd]; exact c128⟩
  refine ⟨_, r3, c, rfl, rfl, (by decide +kernel), hc, ?_⟩
  have sb1 : SameB p H (upd H p (.lst [.int n3])) := (SameB.refl p H).write _
  have e1 : (upd H p (.lst [.int n3])) p = some (.lst [.int n3]) := upd_same
  generalize upd H p (.lst [.int n3]) = H1 at sb1 e1
  have cutx : ∀ y : Str, y.length ≤ z.length → (∀ c ∈ y.cps.toList, c ∈ z.cps.toList) → (∀ c ∈ y.cps.toList, c < 128) := fun y h1 h2 c hc => tz.2 c (h2 c hc)
  have asA : ∀ {x y : Str}, (∀ c ∈ x.cps.toList, c < 128) → (∀ c ∈ y.cps.toList, c < 128) → ∀ c ∈ (x ++ y).cps.toList, c < 128 := fun h1 h2 c hc => by
    rw [cps_app] at hc
    rcases List.mem_append.mp hc with h | h
    · exact h1 c h
    · exact h2 c h
  have one : (⟨#[c]⟩ : Str).length = 1 := rfl
  have a10 : 0 ≤ a + 1 := by omega
  have ct := cutN_to (n := z.length) aa
  have cf := cutN_from (n := z.length) a10
  have fin : ∀ (y : Str), y.length ≤ k + r + 60 → (∀ c ∈ y.cps.toList, c < 128) → Q (.str y) H1 := fun y ly hy => q y n3 H1 ⟨ly, hy⟩ sb1 e1
  refine ⟨_, rfl, rfl, _, rfl, ite2 (fun _ => ?_) (fun _ => ?_)⟩
  · refine ⟨_, rfl, _, rfl, _, rfl, z, rfl, by omega, fun y1 l1 m1 => ⟨_, rfl, _, _, rfl, rfl, ?_, _, rfl, _, rfl, _, rfl, z, rfl, by omega, fun y2 l2 m2 => ⟨_, _, rfl, rfl, ?_, ?_⟩⟩⟩
    · have := cutN_to (n := z.length) aa
      omega
    · rw [len_app]
      have := cutN_to (n := z.length) aa
      have := cutN_from (n := z.length) aa
      omega
    · refine fin _ ?_ (asA (asA (fun d hd => tz.2 d (m1 d hd)) tc.2) (fun d hd => tz.2 d (m2 d hd)))
      rw [len_app, len_app]
      have := cutN_to (n := z.length) aa
      have := cutN_from (n := z.length) aa
      omega
  refine ⟨_, rfl, rfl, _, rfl, ite2 (fun _ => ?_) (fun _ => ?_)⟩
  · refine ⟨_, rfl, _, rfl, _, rfl, z, rfl, by omega, fun y1 l1 m1 => ⟨_, rfl, _, rfl, _, _, rfl, rfl, _, rfl, z, rfl, by omega, fun y2 l2 m2 => ⟨_, _, rfl, rfl, ?_, ?_⟩⟩⟩
    · omega
    · refine fin _ ?_ (asA (fun d hd => tz.2 d (m1 d hd)) (fun d hd => tz.2 d (m2 d hd)))
      rw [len_app]
      omega
  refine ⟨_, rfl, rfl, _, rfl, ite2 (fun _ => ?_) (fun _ => ?_)⟩
  · refine ⟨_, rfl, _, rfl, _, rfl, z, rfl, by omega, fun y1 l1 m1 => ⟨_, rfl, _, _, rfl, rfl, ?_, _, rfl, _, rfl, _, _, rfl, rfl, _, rfl, z, rfl, by omega, fun y2 l2 m2 => ⟨_, _, rfl, rfl, ?_, ?_⟩⟩⟩
    · omega
    · rw [len_app]
      omega
    · refine fin _ ?_ (asA (asA (fun d hd => tz.2 d (m1 d hd)) tc.2) (fun d hd => tz.2 d (m2 d hd)))
      rw [len_app, len_app]
      omega
  refine ⟨_, rfl, rfl, _, rfl, ite2 (fun _ => ?_) (fun _ => ?_)⟩
  · have t1 : TXk 1 (Str.ofString " ") := by unfold TXk; decide +kernel
    have t2 : TXk 1 (Str.ofString "\n") := by unfold TXk; decide +kernel
    have g1 := t1.1
    have g2 := t2.1
    refine ⟨_, rfl, _, _, rfl, rfl, by omega, _, rfl, _, _, rfl, rfl, by omega, _, rfl, _, _, rfl, rfl, by omega, z, rfl, by omega, fun y ly my => ⟨(by show 5 ≤ sizeLine; decide), fun L hL => ?_⟩⟩
    have pL : p ≠ L := ne_of_none e1 hL
    refine ⟨_, rfl, p, n3, 5, rfl, by rw [upd_ne pL]; exact e1, by decide, by decide, fun r5 n5 a5 b5 => ?_⟩
    obtain ⟨v, hv, vm⟩ := atI_lt (l := [V.str (Str.ofString " " ++ z), .str (z ++ Str.ofString " "), .str (z ++ Str.ofString "\n"), .str (Str.ofString "\n" ++ z), .str y]) a5 b5
    refine ⟨L, _, _, _, rfl, rfl, .of (by rw [upd_ne (Ne.symm pL), upd_same]), hv, ?_⟩
    have sb5 := (sb1.new hL (.lst [V.str (Str.ofString " " ++ z), .str (z ++ Str.ofString " "), .str (z ++ Str.ofString "\n"), .str (Str.ofString "\n" ++ z), .str y])).write (.lst [.int n5])
    obtain ⟨u, rfl, tu⟩ : ∃ u, v = .str u ∧ TXk (k + r + 60) u := by
      rcases List.mem_cons.mp vm with rfl | vm
      · exact ⟨_, rfl, (t1.app tz).mono (by omega)⟩
      rcases List.mem_cons.mp vm with rfl | vm
      · exact ⟨_, rfl, (tz.app t1).mono (by omega)⟩
      rcases List.mem_cons.mp vm with rfl | vm
      · exact ⟨_, rfl, (tz.app t2).mono (by omega)⟩
      rcases List.mem_cons.mp vm with rfl | vm
      · exact ⟨_, rfl, (t2.app tz).mono (by omega)⟩
      rw [List.mem_singleton.mp vm]
      refine ⟨_, rfl, by omega, fun c hc => ?_⟩
      rcases my c hc with h | h
      · exact tz.2 c h
      · omega
    exact q u n5 _ tu sb5 upd_same
  refine ⟨rfl, _, rfl, _, rfl, rfl, z, 10, Str.ofString "\n", rfl, rfl, feedA, (by decide +kernel), by omega, fun D hD => ?_⟩
  have pD : p ≠ D := ne_of_none e1 hD
  have hD0 : H D = none := sameB_fr sb1 (Ne.symm pD) hD
  have sb2 := sameB_put sb1 hD0 (.lst ((cutL 10 z.cps.toList).map fun p => V.str ⟨p.toArray⟩))
  have e2 : (upd H1 D (.lst ((cutL 10 z.cps.toList).map fun p => V.str ⟨p.toArray⟩))) p = some (.lst [.int n3]) := by rw [upd_ne pD]; exact e1
  have eD : (upd H1 D (.lst ((cutL 10 z.cps.toList).map fun p => V.str ⟨p.toArray⟩))) D = some (.lst (((cutL 10 z.cps.toList).map fun p => (⟨p.toArray⟩ : Str)).map V.str)) := by rw [upd_same, List.map_map]; rfl
  have wz := wt_cutA 10 z.cps.toList
  rw [ez] at wz
  refine ⟨p, D, n3, _, r, k + 1, rfl, e2, eD, fun h => cutL_ne _ _ (List.map_eq_nil_iff.mp h), pD, fun y hy => ?_, fun y hy => ?_, by omega, by omega, r6, fun d ys m H' ed wy ay s5 e5 => ?_⟩
  · obtain ⟨x, hx, rfl⟩ := List.mem_map.mp hy
    intro c hc
    exact tz.2 c (((cut_parts 10 z.cps.toList).1 x hx).2 c (by simpa using hc))
  · obtain ⟨x, hx, rfl⟩ := List.mem_map.mp hy
    have e : (⟨x.toArray⟩ : Str).length = x.length := by show x.toArray.size = _; simp
    rw [e]
    exact lr x hx
  · refine ⟨_, d, ys, rfl, rfl, ed, join_fitN wy (by omega), q _ m H' ?_ (sb2.trans s5) e5⟩
    have := join_txN ay wy
    exact this.mono (by omega)
theorem sc_law_told : FnScope ["text", "caught", "found", "e", "kinds"] ["text"] (defScope s_law_told) := ⟨rfl, rfl, rfl, by decide +kernel, rfl, by decide +kernel, by decide +kernel⟩
theorem ok_law_told (T : Txt K mg t) : FnOk P w K mg base CX0 5 t.f_law_told t.fd_law_told ["text"] (sp_out K) := by
  refine T.d_law_told.F.okB sc_law_told (fun vs H Q E h => ?_) (fun cdv A outer s H vs Q E hr h => ?_)
  · obtain ⟨z, rfl, _⟩ := h
    rfl
  obtain ⟨z, rfl, tx, qt, qw, qg⟩ := h
  have hu64 := hr.units
  have hu1 := hu_of hr
  by_cases hb : ∃ b, ToldT z b ∧ ¬ GoodW b
  · obtain ⟨b, tb, nb⟩ := hb
    refine ⟨_, (bpss_cons (bps_set (k := 1) sc_law_told.nd rfl (Or.inl rfl) bpe_non)
    (bpss_cons (bps_set (k := 2) sc_law_told.nd rfl (Or.inl rfl) bpe_non)
    (bpss_cons (Bx.mk (ps_tryA (okN_read_works T) (hr.mono (by decide)) rfl T.d_read_works.m T.d_read_works.F.kp T.d_read_works.b .nil (pa_cons (pv 0) pa_nil) rfl rfl rfl rfl T.g_StuckError T.k_NoWorks.ex T.k_StuckError.ex (by decide) T.i_aboveW sc_law_told.nd (i := 2) rfl (Or.inl rfl) (Or.inr rfl) (j := 3) rfl rfl (fun x => pss_one (ps_set (i := 1) sc_law_told.nd rfl (Or.inl rfl) (pv 3)))))
    (bpss_cons (bps_if (bpt_cmp (bpc_isN (bpv 1))) (bpss_one (bps_ret (bpv 2))) bpss_nil)
    (bpss_cons (bps_if (bPW_pt (bpw_or (bpt_val (bpe_callB (call_isXs T.k_NoWorks) rfl T.z_isinstance PyProof.Rows.boot_isinstance (bpa_cons (bpv 1) (bpa_cons (bpe_tup (bpa_cons (bpe_glob (v := .ref t.x_NoFault) rfl T.g_NoFault rfl) (bpa_cons (bpe_glob (v := .ref t.x_NoOrder) rfl T.g_NoOrder rfl) (bpa_cons (bpe_glob (v := .ref t.x_NoRow) rfl T.g_NoRow rfl) (bpa_cons (bpe_glob (v := .ref t.x_TooMany) rfl T.g_TooMany rfl) bpa_nil))))) bpa_nil)))) (bpw_or1 (bpt_not (bpt_val (bpe_callB (call_isXT T.k_NoWorks) rfl T.z_isinstance PyProof.Rows.boot_isinstance (bpa_cons (bpv 1) (bpa_cons (bpe_bltn (v := .ty "ValueError") rfl T.z_ValueError boot_VE rfl) bpa_nil)))))))) (bpss_one (bps_ret bpe_str)) bpss_nil)
    (bpss_cons (bps_set (k := 4) sc_law_told.nd rfl (Or.inl rfl) (bpe_lst (bpa_cons (bpe_callB (call_isX T.k_NoWorks) rfl T.z_isinstance PyProof.Rows.boot_isinstance (bpa_cons (bpv 1) (bpa_cons (bpe_glob (v := .ref t.x_NoText) rfl T.g_NoText rfl) bpa_nil))) (bpa_cons (bpe_callB (call_isX T.k_NoWorks) rfl T.z_isinstance PyProof.Rows.boot_isinstance (bpa_cons (bpv 1) (bpa_cons (bpe_glob (v := .ref t.x_NoWorks) rfl T.g_NoWorks rfl) bpa_nil))) bpa_nil))))
    (bpss_one (bps_ret (bpe_getB hu1 (bpe_tup (bpa_cons bpe_bl (bpa_cons bpe_bl bpa_nil))) bpe_str (bpe_tup (bpa_cons bpe_bl (bpa_cons bpe_bl bpa_nil))) bpe_str (bpe_callTy call_tuple_of rfl T.z_tuple PyProof.Rows.boot_tuple (bpa_cons (bpv 4) bpa_nil)) bpe_str ⟨rfl, rfl, rfl, rfl⟩))))))))), ?_⟩
    refine ⟨_, rfl, z, b, rfl, tx, tb, nb, fun H2 x s2 hx x2 e hx2 => ?_⟩
    cases e
    have k1 := s2.upd hx (excO x t.x_NoWorks)
    have ex : (upd H2 x (excO x t.x_NoWorks)) x = some (excO x t.x_NoWorks) := upd_same
    generalize upd H2 x (excO x t.x_NoWorks) = H3 at k1 ex
    refine ⟨_, rfl, ?_⟩
    refine ⟨_, rfl, _, rfl, iteF ?_⟩
    refine ⟨_, rfl, (by show 4 ≤ sizeLine; decide), fun tp htp => ⟨x, tp, [t.x_NoFault, t.x_NoOrder, t.x_NoRow, t.x_TooMany], false, rfl, same_upd htp _ _ _ ex, .of upd_same, T.i_noneW, _, rfl, iteF ?_⟩⟩
    have k2 := k1.upd htp (.tup [.ref t.x_NoFault, .ref t.x_NoOrder, .ref t.x_NoRow, .ref t.x_TooMany])
    have ex2 := same_upd htp (.tup [.ref t.x_NoFault, .ref t.x_NoOrder, .ref t.x_NoRow, .ref t.x_TooMany]) _ _ ex
    generalize upd H3 tp (.tup [.ref t.x_NoFault, .ref t.x_NoOrder, .ref t.x_NoRow, .ref t.x_TooMany]) = H4 at k2 ex2
    refine ⟨_, rfl, x, "ValueError", true, rfl, ex2, T.i_valueW, _, rfl, iteF ?_⟩
    refine ⟨_, rfl, x, t.x_NoText, false, rfl, ex2, T.i_WT, _, rfl, x, t.x_NoWorks, true, rfl, ex2, T.i_WW, (by show 2 ≤ sizeLine; decide), fun L hL => ?_⟩
    have kL := same_upd hL (.lst [.bl false, .bl true])
    have eL := at_new (o := .lst [.bl false, .bl true]) hL
    generalize upd H4 L (.lst [.bl false, .bl true]) = H5 at kL eL
    have k5 := k2.trans kL
    refine fun d hd => ⟨(by show 2 ≤ sizeLine; decide), fun t1 h1 => ⟨(by show 2 ≤ sizeLine; decide), fun t2 h2 => ?_⟩⟩
    have kd := same_upd hd (.dT [])
    have f1 := at_new (o := .tup [.bl true, .bl false]) h1
    have g1 := same_upd h1 (.tup [.bl true, .bl false])
    have f2 := at_new (o := .tup [.bl false, .bl true]) h2
    have g2 := same_upd h2 (.tup [.bl false, .bl true])
    have d1 : t1 ≠ d := Ne.symm (ne_of_none upd_same h1)
    have d2 : t2 ≠ d := Ne.symm (ne_of_none (g1 _ _ upd_same) h2)
    refine ⟨g2 _ _ (g1 _ _ upd_same), t1, t2, [true, false], [false, true], rfl, rfl, .inl (g2 _ _ f1), .inl f2, (by decide), fun φ => ?_⟩
    have s6 := ((kd.trans g1).trans g2).write hd (.ext φ)
    have e1 := (upd_ne (o := .ext φ) d1).trans (g2 _ _ f1)
    have e2 := (upd_ne (o := .ext φ) d2).trans f2
    refine ⟨_, rfl, L, _, rfl, .inl ⟨.of (s6 _ _ eL), fun t3 h3 => ?_⟩⟩
    have g3 := same_upd h3 (.tup [.bl false, .bl true])
    refine ⟨g3 _ _ upd_same, .inl (g3 _ _ e1), .inl (g3 _ _ e2), t3, [false, true], rfl, .inl upd_same, ?_⟩
    exact qw b tb nb _ ((k5.trans s6).trans g3)
  · refine ⟨_, (bpss_cons (bps_set (k := 1) sc_law_told.nd rfl (Or.inl rfl) bpe_non)
    (bpss_cons (bps_set (k := 2) sc_law_told.nd rfl (Or.inl rfl) bpe_non)
    (bpss_cons (Bx.mk (ps_tryA (okX_read_works T) (hr.mono (by decide)) rfl T.d_read_works.m T.d_read_works.F.kp T.d_read_works.b .nil (pa_cons (pv 0) pa_nil) rfl rfl rfl rfl T.g_StuckError T.k_NoText.ex T.k_StuckError.ex (by decide) T.i_aboveT sc_law_told.nd (i := 2) rfl (Or.inl rfl) (Or.inr rfl) (j := 3) rfl rfl (fun x => pss_one (ps_set (i := 1) sc_law_told.nd rfl (Or.inl rfl) (pv 3)))))
    (bpss_cons (bps_if (bpt_cmp (bpc_isN (bpv 1))) (bpss_one (bps_ret (bpv 2))) bpss_nil)
    (bpss_cons (bps_if (bPW_pt (bpw_or (bpt_val (bpe_callB (call_isXs T.k_NoText) rfl T.z_isinstance PyProof.Rows.boot_isinstance (bpa_cons (bpv 1) (bpa_cons (bpe_tup (bpa_cons (bpe_glob (v := .ref t.x_NoFault) rfl T.g_NoFault rfl) (bpa_cons (bpe_glob (v := .ref t.x_NoOrder) rfl T.g_NoOrder rfl) (bpa_cons (bpe_glob (v := .ref t.x_NoRow) rfl T.g_NoRow rfl) (bpa_cons (bpe_glob (v := .ref t.x_TooMany) rfl T.g_TooMany rfl) bpa_nil))))) bpa_nil)))) (bpw_or1 (bpt_not (bpt_val (bpe_callB (call_isXT T.k_NoText) rfl T.z_isinstance PyProof.Rows.boot_isinstance (bpa_cons (bpv 1) (bpa_cons (bpe_bltn (v := .ty "ValueError") rfl T.z_ValueError boot_VE rfl) bpa_nil)))))))) (bpss_one (bps_ret bpe_str)) bpss_nil)
    (bpss_cons (bps_set (k := 4) sc_law_told.nd rfl (Or.inl rfl) (bpe_lst (bpa_cons (bpe_callB (call_isX T.k_NoText) rfl T.z_isinstance PyProof.Rows.boot_isinstance (bpa_cons (bpv 1) (bpa_cons (bpe_glob (v := .ref t.x_NoText) rfl T.g_NoText rfl) bpa_nil))) (bpa_cons (bpe_callB (call_isX T.k_NoText) rfl T.z_isinstance PyProof.Rows.boot_isinstance (bpa_cons (bpv 1) (bpa_cons (bpe_glob (v := .ref t.x_NoWorks) rfl T.g_NoWorks rfl) bpa_nil))) bpa_nil))))
    (bpss_one (bps_ret (bpe_getB hu1 (bpe_tup (bpa_cons bpe_bl (bpa_cons bpe_bl bpa_nil))) bpe_str (bpe_tup (bpa_cons bpe_bl (bpa_cons bpe_bl bpa_nil))) bpe_str (bpe_callTy call_tuple_of rfl T.z_tuple PyProof.Rows.boot_tuple (bpa_cons (bpv 4) bpa_nil)) bpe_str ⟨rfl, rfl, rfl, rfl⟩))))))))), ?_⟩
    refine ⟨_, rfl, z, rfl, tx, fun b tb => ⟨Classical.byContradiction fun nb => hb ⟨b, tb, nb⟩, fun r H1 s1 rr => ?_⟩, fun nt H2 x s2 hx x2 e hx2 => ?_⟩
    · exact ⟨_, rfl, _, rfl, iteT ⟨_, rfl, qg b tb (Classical.byContradiction fun nb => hb ⟨b, tb, nb⟩) r _ s1 rr⟩⟩
    · cases e
      have k1 := s2.upd hx (excO x t.x_NoText)
      have ex : (upd H2 x (excO x t.x_NoText)) x = some (excO x t.x_NoText) := upd_same
      generalize upd H2 x (excO x t.x_NoText) = H3 at k1 ex
      refine ⟨_, rfl, ?_⟩
      refine ⟨_, rfl, _, rfl, iteF ?_⟩
      refine ⟨_, rfl, (by show 4 ≤ sizeLine; decide), fun tp htp => ⟨x, tp, [t.x_NoFault, t.x_NoOrder, t.x_NoRow, t.x_TooMany], false, rfl, same_upd htp _ _ _ ex, .of upd_same, T.i_noneT, _, rfl, iteF ?_⟩⟩
      have k2 := k1.upd htp (.tup [.ref t.x_NoFault, .ref t.x_NoOrder, .ref t.x_NoRow, .ref t.x_TooMany])
      have ex2 := same_upd htp (.tup [.ref t.x_NoFault, .ref t.x_NoOrder, .ref t.x_NoRow, .ref t.x_TooMany]) _ _ ex
      generalize upd H3 tp (.tup [.ref t.x_NoFault, .ref t.x_NoOrder, .ref t.x_NoRow, .ref t.x_TooMany]) = H4 at k2 ex2
      refine ⟨_, rfl, x, "ValueError", true, rfl, ex2, T.i_valueT, _, rfl, iteF ?_⟩
      refine ⟨_, rfl, x, t.x_NoText, true, rfl, ex2, T.i_TT, _, rfl, x, t.x_NoWorks, false, rfl, ex2, T.i_TW, (by show 2 ≤ sizeLine; decide), fun L hL => ?_⟩
      have kL := same_upd hL (.lst [.bl true, .bl false])
      have eL := at_new (o := .lst [.bl true, .bl false]) hL
      generalize upd H4 L (.lst [.bl true, .bl false]) = H5 at kL eL
      have k5 := k2.trans kL
      refine fun d hd => ⟨(by show 2 ≤ sizeLine; decide), fun t1 h1 => ⟨(by show 2 ≤ sizeLine; decide), fun t2 h2 => ?_⟩⟩
      have kd := same_upd hd (.dT [])
      have f1 := at_new (o := .tup [.bl true, .bl false]) h1
      have g1 := same_upd h1 (.tup [.bl true, .bl false])
      have f2 := at_new (o := .tup [.bl false, .bl true]) h2
      have g2 := same_upd h2 (.tup [.bl false, .bl true])
      have d1 : t1 ≠ d := Ne.symm (ne_of_none upd_same h1)
      have d2 : t2 ≠ d := Ne.symm (ne_of_none (g1 _ _ upd_same) h2)
      refine ⟨g2 _ _ (g1 _ _ upd_same), t1, t2, [true, false], [false, true], rfl, rfl, .inl (g2 _ _ f1), .inl f2, (by decide), fun φ => ?_⟩
      have s6 := ((kd.trans g1).trans g2).write hd (.ext φ)
      have e1 := (upd_ne (o := .ext φ) d1).trans (g2 _ _ f1)
      have e2 := (upd_ne (o := .ext φ) d2).trans f2
      refine ⟨_, rfl, L, _, rfl, .inl ⟨.of (s6 _ _ eL), fun t3 h3 => ?_⟩⟩
      have g3 := same_upd h3 (.tup [.bl true, .bl false])
      refine ⟨g3 _ _ upd_same, .inl (g3 _ _ e1), .inl (g3 _ _ e2), t3, [true, false], rfl, .inl upd_same, ?_⟩
      exact qt nt _ ((k5.trans s6).trans g3)
theorem sc_law_text : FnScope ["works", "rows", "row", "wire", "kind", "legs", "leg"] ["works"] (defScope s_law_text) := ⟨rfl, rfl, rfl, by decide +kernel, rfl, by decide +kernel, by decide +kernel⟩
theorem ok_law_text (T : Txt K mg t) : FnOk P w K mg base CX0 1 t.f_law_text t.fd_law_text ["works"] (sp_shw K) := by
  refine T.d_law_text.F.okB sc_law_text (fun vs H Q E h => ?_) (fun cdv A outer s H vs Q E hr h => ?_)
  · obtain ⟨x, w, rfl, _⟩ := h
    rfl
  obtain ⟨x, w, rfl, hx, wf, q⟩ := h
  have hu64 := hr.units
  obtain ⟨a, ga, oa, gs, os, rfl, ha, hg, ho, rg, ro⟩ := gates_at hx
  have lg : gs.length = w.gates.length := by rw [rg.length, List.length_map]
  have few := wf.few
  have i1 := wf.i1
  have i6 := wf.i6
  have eos := reps_ints ro
  subst eos
  have sl : sizeLine = 16777216 := by decide
  have b1 : (Str.ofString " ").length = 1 := by rw [blank]; rfl
  have iok := in_ok (i := w.ins) ⟨i1, i6⟩
  have ook := out_ok wf
  have n0 := iok.num w.ins (.head _)
  have nl := numS_len n0
  have ein : Str.ofString "in " ++ numS w.ins = txtW ⟨"in", [w.ins]⟩ := by
    rw [← join_txt iok]
    show _ = Str.ofString "in" ++ Str.ofString " " ++ numS w.ins
    rw [show Str.ofString "in" ++ Str.ofString " " = Str.ofString "in " by decide +kernel]
  refine ⟨_, (bpss_cons (bps_set (k := 1) sc_law_text.nd rfl (Or.inl rfl) (bpe_lst (bpa_cons (bpe_op op_add_str bpe_str (bpe_callTy call_str_int rfl T.z_str PyProof.Rows.boot_str (bpa_cons (bpe_ix ix_tup (bpv 0) bpe_int (fun _ _ => rfl)) (bpa_nil)))) (bpa_nil))))
    (bpss_cons (bps_for PassesOwn.never rfl (bpi_list (bpe_ix ix_tup (bpv 0) bpe_int (fun _ _ => rfl))) (bpg_tup rfl (bpgs_cons (bpg_name (k := 4) sc_law_text.nd rfl (Or.inl rfl)) (bpgs_cons (bpg_name (k := 5) sc_law_text.nd rfl (Or.inl rfl)) bpgs_nil))) (bpss_cons (bps_set (k := 2) sc_law_text.nd rfl (Or.inl rfl) (bpv 4))
    (bpss_cons (bps_for PassesOwn.never rfl (bpi_tup (bpv 5)) (bpg_name (k := 6) sc_law_text.nd rfl (Or.inl rfl)) (bpss_one (bps_set (k := 2) sc_law_text.nd rfl (Or.inl rfl) (bpe_op op_add_str (bpe_op op_add_str (bpv 2) bpe_str) (bpe_callTy call_str_int rfl T.z_str PyProof.Rows.boot_str (bpa_cons (bpv 6) (bpa_nil)))))))
    (bpss_one (bps_expr (bpe_bm PySem.F.plainAttrs_list PySem.F.slot_list_append PySem.F.type_list_append mt_append (bpv 1) (bpa_cons (bpv 2) (bpa_nil))))))))
    (bpss_cons (bps_set (k := 2) sc_law_text.nd rfl (Or.inl rfl) bpe_str)
    (bpss_cons (bps_for PassesOwn.never rfl (bpi_list (bpe_ix ix_tup (bpv 0) bpe_int (fun _ _ => rfl))) (bpg_name (k := 3) sc_law_text.nd rfl (Or.inl rfl)) (bpss_one (bps_set (k := 2) sc_law_text.nd rfl (Or.inl rfl) (bpe_op op_add_str (bpe_op op_add_str (bpv 2) bpe_str) (bpe_callTy call_str_int rfl T.z_str PyProof.Rows.boot_str (bpa_cons (bpv 3) (bpa_nil)))))))
    (bpss_one (bps_ret (bpe_bm PySem.F.plainAttrs_str PySem.F.slot_str_join PySem.F.type_str_join mt_joinA bpe_str (bpa_cons (bpe_op op_cat (bpv 1) (bpe_lst (bpa_cons (bpv 2) (bpa_nil)))) (bpa_nil))))))))), ?_⟩
  refine ⟨_, rfl, a, _, _, _, rfl, rfl, ha, rfl, w.ins, rfl, log_ok n0, _, _, rfl, rfl, ?_, (by show 1 ≤ sizeLine; decide), fun R hR => ?_⟩
  · have : (Str.ofString "in ").length = 3 := by decide +kernel
    show _ + (numS w.ins).length ≤ _
    omega
  have kR : Same H (upd H R (.lst [.str (txtW ⟨"in", [w.ins]⟩)])) := same_upd hR _
  change tSeq _ _ _ _ (upd H R (.lst [.str (Str.ofString "in " ++ numS w.ins)]))
  rw [ein]
  have eR0 : (upd H R (.lst [.str (txtW ⟨"in", [w.ins]⟩)])) R = some (.lst [.str (txtW ⟨"in", [w.ins]⟩)]) := upd_same
  generalize upd H R (.lst [.str (txtW ⟨"in", [w.ins]⟩)]) = H1 at kR eR0
  refine ⟨_, rfl, a, _, _, _, rfl, rfl, kR.seqT ha, rfl, ga, rfl, ⟨_, kR.seq hg⟩, for_list (K := K) (a := ga) (xs := gs)
    (fun j σ H3 => ∃ (o2 o3 o4 o5 o6 : Option V), σ = [some (.ref a), some (.ref R), o2, o3, o4, o5, o6] ∧ Same H H3 ∧ H3 R = some (.lst (.str (txtW ⟨"in", [w.ins]⟩) :: ((gatesR (w.gates.take j)).map txtW).map V.str)))
    ⟨_, _, _, _, _, rfl, kR, eR0⟩ (fun j σ H3 _ z => by obtain ⟨_, _, _, _, _, _, s3, _⟩ := z; exact s3.seq hg) ?_ ?_⟩
  · rintro j y σ H3 hy ⟨o2, o3, o4, o5, o6, rfl, s3, eR⟩
    obtain ⟨dd, hdd, ry⟩ := rg.get hy
    rw [List.getElem?_map] at hdd
    cases hz : w.gates[j]? with
    | none => rw [hz] at hdd; cases hdd
    | some g =>
      rw [hz] at hdd
      cases hdd
      obtain ⟨b, la, rfl, hb, hla⟩ := gate_at ry
      have gok := gate_ok wf hz
      have lj : j < w.gates.length := (List.getElem?_eq_some_iff.mp hz).1
      refine ⟨b, _, rfl, s3.seqT hb, rfl, _, _, rfl, _, _, rfl, rfl, ?_⟩
      refine ⟨_, rfl, _, rfl, la, rfl, ⟨_, s3.seqT hla⟩, for_tup (K := K) (a := la) (xs := g.2.map V.int)
        (fun i σ H4 => ∃ (o6 : Option V), σ = [some (.ref a), some (.ref R), some (.str (someT ⟨g.1, g.2⟩ i)), o3, some (.str g.1), some (.ref la), o6] ∧ H4 = H3)
        ⟨_, rfl, rfl⟩ (fun i σ H4 _ z => by obtain ⟨_, _, rfl⟩ := z; exact s3.seqT hla) ?_ ?_⟩
      · rintro i v σ H4 hv ⟨o6, rfl, rfl⟩
        rw [List.getElem?_map] at hv
        cases hn : g.2[i]? with
        | none => rw [hn] at hv; cases hv
        | some n =>
          rw [hn] at hv
          cases hv
          have nn := gok.num n (List.mem_of_getElem? hn)
          have sl2 := someT_len gok (i := i)
          have nl2 := numS_len nn
          refine ⟨_, rfl, _, _, rfl, rfl, by omega, _, rfl, n, rfl, log_ok nn, _, _, rfl, rfl, ?_, some (.int n), ?_, rfl⟩
          · rw [app_len]
            show _ + (numS n).length ≤ _
            omega
          · rw [someT_next (f := ⟨g.1, g.2⟩) hn]
            rfl
      · rintro σ H4 ⟨o6, rfl, rfl⟩
        refine ⟨_, rfl, .inl ⟨rfl, _, .of eR⟩, _, rfl, R, _, _, rfl, rfl, eR, big (by unfold gatesR; rw [List.length_cons, List.length_map, List.length_map, List.length_map, List.length_take]; omega), _, _, _, _, _, rfl, s3.write hR _, ?_⟩
        have ef : someT ⟨g.1, g.2⟩ (g.2.map V.int).length = txtW ⟨g.1, g.2⟩ := by
          unfold someT
          rw [List.length_map, List.take_length]
          exact join_txt gok
        unfold gatesR
        rw [upd_same, ef, List.take_add_one, hz, List.map_append, List.map_append, List.map_append]
        rfl
  rintro σ H3 ⟨o2, o3, o4, o5, o6, rfl, s3, eR⟩
  rw [lg, List.take_length] at eR
  refine ⟨_, rfl, a, _, _, _, rfl, rfl, s3.seqT ha, rfl, oa, rfl, ⟨_, s3.seq ho⟩, for_list (K := K) (a := oa) (xs := w.outs.map V.int)
    (fun i σ H4 => ∃ (o3 : Option V), σ = [some (.ref a), some (.ref R), some (.str (someT ⟨"out", w.outs⟩ i)), o3, o4, o5, o6] ∧ H4 = H3)
    ⟨_, rfl, rfl⟩ (fun i σ H4 _ z => by obtain ⟨_, _, rfl⟩ := z; exact s3.seq ho) ?_ ?_⟩
  · rintro i v σ H4 hv ⟨o3, rfl, rfl⟩
    rw [List.getElem?_map] at hv
    cases hn : w.outs[i]? with
    | none => rw [hn] at hv; cases hv
    | some n =>
      rw [hn] at hv
      cases hv
      have nn := ook.num n (List.mem_of_getElem? hn)
      have sl2 := someT_len ook (i := i)
      have nl2 := numS_len nn
      refine ⟨_, rfl, _, _, rfl, rfl, by omega, _, rfl, n, rfl, log_ok nn, _, _, rfl, rfl, ?_, some (.int n), ?_, rfl⟩
      · rw [app_len]
        show _ + (numS n).length ≤ _
        omega
      · rw [someT_next (f := ⟨"out", w.outs⟩) hn]
        rfl
  rintro σ H4 ⟨o3, rfl, rfl⟩
  have ef : someT ⟨"out", w.outs⟩ (w.outs.map V.int).length = txtW ⟨"out", w.outs⟩ := by
    unfold someT
    rw [List.length_map, List.take_length]
    exact join_txt ook
  rw [ef]
  refine ⟨rfl, _, rfl, _, rfl, (by show 1 ≤ sizeLine; decide), fun L1 h1 => ?_⟩
  have k1 := same_upd h1 (.lst [.str (txtW ⟨"out", w.outs⟩)])
  have lR : ((gatesR w.gates).map txtW).length ≤ 20 := by unfold gatesR; rw [List.length_map, List.length_map]; exact few
  refine ⟨R, L1, _, _, rfl, rfl, k1 _ _ eR, upd_same, bigE (by rw [List.length_cons, List.length_map]; show _ + 1 ≤ _; omega), fun L2 h2 => ?_⟩
  have ez : (V.str (txtW ⟨"in", [w.ins]⟩) :: ((gatesR w.gates).map txtW).map V.str) ++ [.str (txtW ⟨"out", w.outs⟩)] = ((rowsW w).map txtW).map V.str := by
    unfold rowsW
    rw [List.map_cons, List.map_cons, List.map_append, List.map_append]
    rfl
  rw [ez]
  have k2 := same_upd h2 (.lst (((rowsW w).map txtW).map V.str))
  refine ⟨_, L2, (rowsW w).map txtW, rfl, rfl, upd_same, text_sum wf, ?_⟩
  rw [join_text]
  exact q _ ((s3.trans k1).trans k2)
theorem sc_law : FnScope ["script", "cell", "menu", "deck", "text", "some", "told"] ["script"] (defScope s_law) := ⟨rfl, rfl, rfl, by decide +kernel, rfl, by decide +kernel, by decide +kernel⟩
theorem ok_law (T : Txt K mg t) : FnOk P w K mg base CX0 6 t.f_law t.fd_law ["script"] (sp_law K) := by
  refine T.d_law.F.okB sc_law (fun vs H Q E h => ?_) (fun cdv A outer s H vs Q E hr h => ?_)
  · obtain ⟨a, ns, rfl, _⟩ := h
    rfl
  obtain ⟨a, ns, rfl, hS, h63, q⟩ := h
  have hu64 := hr.units
  have sl : sizeLine = 16777216 := by decide
  refine ⟨_, (bpss_cons (bps_for PassesOwn.never rfl (bpi_list (bpe_op op_cat (bpe_lst (bpa_cons (bpe_op op_pow bpe_int bpe_int) (bpa_nil))) (bpe_slice sl_list (bpv 0) bpo_none (bpo_some bpe_int)))) (bpg_name (k := 1) sc_law.nd rfl (Or.inl rfl)) (bpss_cons (bps_set (k := 3) sc_law.nd rfl (Or.inr rfl) (bpe_call (ok_law_deck T) (hr.mono (by decide)) rfl T.d_law_deck.m T.d_law_deck.F.kp T.d_law_deck.b .nil pass0 (bpa_cons (bpv 1) (bpa_nil))))
    (bpss_cons (bps_set (k := 4) sc_law.nd rfl (Or.inr rfl) (bpe_call (ok_law_text T) (hr.mono (by decide)) rfl T.d_law_text.m T.d_law_text.F.kp T.d_law_text.b .nil pass0 (bpa_cons (bpe_call (ok_law_works T) (hr.mono (by decide)) rfl T.d_law_works.m T.d_law_works.F.kp T.d_law_works.b .nil pass0 (bpa_cons (bpv 3) ( bpa_cons bpe_int (bpa_nil)))) (bpa_nil))))
    (bpss_cons (bps_setC (k := 5) rfl (N := ["k", "deck", "text"]) (n := 1) (cap := [3, 4]) (blk_of rfl rfl) sc_law.nd rfl rfl (bpi_range1 rfl T.z_range (bpa_cons bpe_int (bpa_nil))) (keep_name (by decide)) (fun _ _ _ _ => (bpg_name (k := 0) (show (["k", "deck", "text"] : List Str).Nodup by decide +kernel) rfl (Or.inl rfl))) (fun _ _ _ _ => bpts_nil) (fun _ _ _ _ => (bpe_call (ok_law_spoilt T) (hr.mono (by decide)) rfl T.d_law_spoilt.m T.d_law_spoilt.F.kp T.d_law_spoilt.b .nil pass0 (bpa_cons (bpv 1) ( bpa_cons (bpv 2) (bpa_nil))))) rfl)
    (bpss_cons (bps_expr (bpe_bm PySem.F.plainAttrs_list PySem.F.slot_list_append PySem.F.type_list_append mt_append (bpv 5) (bpa_cons (bpe_call (ok_law_spoilt T) (hr.mono (by decide)) rfl T.d_law_spoilt.m T.d_law_spoilt.F.kp T.d_law_spoilt.b .nil pass0 (bpa_cons (bpv 3) ( bpa_cons (bpe_call (ok_law_spoilt T) (hr.mono (by decide)) rfl T.d_law_spoilt.m T.d_law_spoilt.F.kp T.d_law_spoilt.b .nil pass0 (bpa_cons (bpv 3) ( bpa_cons (bpv 4) (bpa_nil)))) (bpa_nil)))) (bpa_nil))))
    (bpss_one (bps_for PassesOwn.never rfl (bpi_list (bpv 5)) (bpg_name (k := 6) sc_law.nd rfl (Or.inl rfl)) (bpss_one (bps_if (bpt_cmpR (op_neD hu64) (bpe_call (ok_law_told T) (hr.mono (by decide)) rfl T.d_law_told.m T.d_law_told.F.kp T.d_law_told.b .nil pass0 (bpa_cons (bpv 6) (bpa_nil))) (bpe_call (ok_law_read T) (hr.mono (by decide)) rfl T.d_law_read.m T.d_law_read.F.kp T.d_law_read.b .nil pass0 (bpa_cons (bpv 6) (bpa_nil))) (nomark _)) (bpss_one (bps_ret bpe_bl)) bpss_nil)))))))))
    (bpss_cons (bps_set (k := 2) sc_law.nd rfl (Or.inl rfl) (bpe_lst (bpa_cons bpe_str ( bpa_cons bpe_str ( bpa_cons bpe_str ( bpa_cons bpe_str ( bpa_cons bpe_str ( bpa_cons bpe_str ( bpa_cons bpe_str ( bpa_cons bpe_str (bpa_nil)))))))))))
    (bpss_cons (bps_set (k := 2) sc_law.nd rfl (Or.inl rfl) (bpe_op op_cat (bpv 2) (bpe_lst (bpa_cons bpe_str ( bpa_cons bpe_str ( bpa_cons bpe_str ( bpa_cons bpe_str ( bpa_cons bpe_str (bpa_nil)))))))))
    (bpss_cons (bps_set (k := 2) sc_law.nd rfl (Or.inl rfl) (bpe_op op_cat (bpv 2) (bpe_lst (bpa_cons bpe_str ( bpa_cons bpe_str ( bpa_cons bpe_str ( bpa_cons bpe_str (bpa_nil))))))))
    (bpss_cons (bps_set (k := 2) sc_law.nd rfl (Or.inl rfl) (bpe_op op_cat (bpv 2) (bpe_lst (bpa_cons bpe_str ( bpa_cons (bpe_op op_add_str (bpe_op op_add_str bpe_str (bpe_op op_mul_str bpe_str bpe_int)) bpe_str) ( bpa_cons bpe_str ( bpa_cons bpe_str (bpa_nil))))))))
    (bpss_one (bps_ret (bpe_cmpR (op_eqD hu64) (bpe_comp rfl (N := ["told"]) (n := 1) (cap := []) (blk_of rfl rfl) (bpi_list (bpv 2)) (keep_name (by decide)) (fun _ _ _ _ => (bpg_name (k := 0) (show (["told"] : List Str).Nodup by decide +kernel) rfl (Or.inl rfl))) (fun _ _ _ _ => (bpts_one (bpt_cmpR (op_neDK (K := K) hu64) (bpe_call (ok_law_told T) (hr.mono (by decide)) rfl T.d_law_told.m T.d_law_told.F.kp T.d_law_told.b .nil pass0 (bpa_cons (bpv 0) (bpa_nil))) (bpe_call (ok_law_read T) (hr.mono (by decide)) rfl T.d_law_read.m T.d_law_read.F.kp T.d_law_read.b .nil pass0 (bpa_cons (bpv 0) (bpa_nil))) (nomark _)))) (fun _ _ _ _ => (bpv 0))) (bpe_lst bpa_nil) (nomark _))))))))), ?_⟩
  refine ⟨_, _, rfl, rfl, ⟨by decide, by decide, by decide⟩, (by show 1 ≤ sizeLine; decide), fun p1 h1 => ?_⟩
  have s1 := same_upd h1 (.lst [.int (10 ^ (18 : Int).toNat)])
  refine ⟨_, rfl, _, rfl, a, _, rfl, s1.seq hS, fun p2 h2 => ?_⟩
  obtain ⟨ms, em, lm⟩ := cutI ns none (some 14)
  have p12 : p1 ≠ p2 := ne_of_none upd_same h2
  have s2 := same_upd h2 (.lst (cutV (ns.map V.int) none (some 14)))
  refine ⟨p1, p2, _, _, rfl, rfl, by rw [upd_ne p12, upd_same], upd_same, bigE (by rw [List.length_singleton, em, List.length_map]; omega), fun p3 h3 => ?_⟩
  have s02 := s1.trans s2
  generalize upd (upd H p1 (.lst [.int (10 ^ (18 : Int).toNat)])) p2 (.lst (cutV (ns.map V.int) none (some 14))) = H2 at h3 s02
  rw [em]
  have s3 := same_upd h3 (.lst ([.int (10 ^ (18 : Int).toNat)] ++ ms.map V.int))
  have hq : SqL K (upd H2 p3 (.lst ([.int (10 ^ (18 : Int).toNat)] ++ ms.map V.int))) p3 ([.int (10 ^ (18 : Int).toNat)] ++ ms.map V.int) := .of upd_same
  generalize upd H2 p3 (.lst ([.int (10 ^ (18 : Int).toNat)] ++ ms.map V.int)) = H3 at hq
  refine ⟨p3, rfl, ⟨_, hq⟩, for_list (K := K) (a := p3) (xs := [.int (10 ^ (18 : Int).toNat)] ++ ms.map V.int)
    (fun i σ H4 => ∃ (o1 o3 o4 o5 o6 : Option V), σ = [some (.ref a), o1, none, o3, o4, o5, o6] ∧ Same H3 H4)
    ⟨_, _, _, _, _, rfl, Same.refl _⟩ (fun i σ H4 _ z => by obtain ⟨_, _, _, _, _, _, s4⟩ := z; exact s4.seq hq) ?_ ?_⟩
  · rintro i x σ H4 hx ⟨o1, o3, o4, o5, o6, rfl, s4⟩
    obtain ⟨cc, rfl⟩ : ∃ cc, x = .int cc := by
      have hm := List.mem_of_getElem? hx
      rcases List.mem_append.mp hm with hm | hm
      · exact ⟨_, List.mem_singleton.mp hm⟩
      · obtain ⟨z, _, e⟩ := List.mem_map.mp hm
        exact ⟨z, e.symm⟩
    refine ⟨_, rfl, cc, rfl, fun pd n hd => ?_⟩
    refine ⟨_, rfl, pd, n, 8, rfl, upd_same, by decide, fun w rw_ m G H5 wf h3 sb5 e5 sG gp gn rr => ?_⟩
    obtain ⟨tz, tr⟩ := text_small wf h3
    have wf2 : WF 20 w := ⟨wf.i1, wf.i6, by have := wf.few; omega, wf.legs, wf.o1, by have := wf.o3; omega, wf.outs⟩
    refine ⟨_, w, rfl, rr.mono sG, wf2, fun H6 s6 => ?_⟩
    have e6 := s6 _ _ e5
    have s46 : Same H4 H6 := fun b o e => s6 _ _ (sb5 b o (ne_of_none e hd) (by rw [upd_ne (ne_of_none e hd)]; exact e))
    generalize textW w = z at tz tr
    refine ⟨4, rfl, (by decide), (by decide), fun C hC => ?_⟩
    have pC : pd ≠ C := ne_of_none e6 hC
    refine comp_range (fun j H7 => ∃ (zs : List Str) (m7 : Int), SameB pd H6 H7 ∧ H7 pd = some (.lst [.int m7]) ∧ H7 C = some (.lst (zs.map V.str)) ∧ zs.length = j ∧ ∀ y ∈ zs, TX y)
      ⟨[], m, (same_upd hC _).b pd, by rw [upd_ne pC]; exact e6, upd_same, rfl, fun _ h => (nomatch h)⟩ ?_ ?_
    · rintro j H7 hj ⟨zs, m7, s7, e7, eC, lz, tzs⟩
      refine ⟨_, rfl, _, rfl, pd, m7, z, 160, 15, rfl, e7, tz, tr, by decide, by decide, fun y m8 H8 ty s8 e8 => ?_⟩
      refine ⟨_, s8 C _ (Ne.symm pC) eC, by rw [List.length_map]; omega, zs ++ [y], m8, sameB_put (s7.trans s8) hC _, by rw [upd_ne pC]; exact e8, by rw [upd_same, List.map_append]; rfl, by rw [List.length_append, lz]; rfl, fun u hu => ?_⟩
      rcases List.mem_append.mp hu with hu | hu
      · exact tzs u hu
      · rw [List.mem_singleton.mp hu]; exact ty.tx (by decide)
    rintro H7 ⟨zs, m7, s7, e7, eC, lz, tzs⟩
    refine ⟨_, rfl, .inl ⟨rfl, _, .of eC⟩, _, rfl, _, rfl, _, rfl, pd, m7, z, 160, 15, rfl, e7, tz, tr, by decide, by decide, fun y m8 H8 ty s8 e8 => ?_⟩
    refine ⟨pd, m8, y, 235, 235, rfl, e8, ty, fun x hx => ?_, by decide, by decide, fun y2 m9 H9 ty2 s9 e9 => ?_⟩
    · have h1 := ((cut_parts 10 y.cps.toList).1 x hx).1
      have h2 : y.cps.toList.length = y.length := Array.length_toList
      have h3 : y.length ≤ 235 := ty.1
      omega
    have eC9 := s9 C _ (Ne.symm pC) (s8 C _ (Ne.symm pC) eC)
    refine ⟨C, _, _, rfl, rfl, eC9, big (by rw [List.length_map]; omega), ?_⟩
    have sb := sameB_put ((s7.trans s8).trans s9) hC (.lst (zs.map V.str ++ [.str y2]))
    have s47 : Same H4 (upd H9 C (.lst (zs.map V.str ++ [.str y2]))) := SameB.same s46 hd sb
    have eC10 : (upd H9 C (.lst (zs.map V.str ++ [.str y2]))) C = some (.lst ((zs ++ [y2]).map V.str)) := by rw [upd_same, List.map_append]; rfl
    generalize upd H9 C (.lst (zs.map V.str ++ [.str y2])) = H10 at s47 eC10
    refine ⟨_, rfl, C, rfl, ⟨_, .of eC10⟩, for_list (K := K) (a := C) (xs := (zs ++ [y2]).map V.str) (fun j σ H11 => ∃ o6, σ = [some (.ref a), some (.int cc), none, some (.ref pd), some (.str z), some (.ref C), o6] ∧ Same H10 H11)
      ⟨_, rfl, Same.refl _⟩ (fun j σ H11 _ z => by obtain ⟨_, _, s9⟩ := z; exact .of (s9 _ _ eC10)) ?_ ?_⟩
    · rintro j y σ H11 hy ⟨o6, rfl, s11⟩
      obtain ⟨y0, ym, rfl⟩ := List.mem_map.mp (List.mem_of_getElem? hy)
      have ty : TX y0 := by
        rcases List.mem_append.mp ym with ym | ym
        · exact tzs y0 ym
        · rw [List.mem_singleton.mp ym]; exact ty2.tx (by decide)
      obtain ⟨dt, hd2, okd⟩ := out_ex y0
      refine ⟨_, rfl, ?_⟩
      dsimp only [tNil, List.cons_append, List.nil_append]
      refine out_use ty hd2 fun v1 Ha sa r1 => ?_
      refine ⟨_, rfl, ?_⟩
      dsimp only [tNil, List.cons_append, List.nil_append]
      refine out_use ty hd2 fun v2 Hb sb2 r2 => ?_
      exact ⟨_, _, r1.mono sb2, r2, okd, okd, fun _ => ⟨_, rfl, iteF ⟨_, rfl, (s11.trans sa).trans sb2⟩⟩, fun z => absurd rfl z⟩
    · rintro σ H11 ⟨o6, rfl, s11⟩
      exact ⟨_, _, _, _, _, rfl, (s4.trans s47).trans s11⟩
  · rintro σ H4 ⟨o1, o3, o4, o5, o6, rfl, s4⟩
    refine ⟨(by show 8 ≤ sizeLine; decide), fun M1 h1 => ?_⟩
    refine ⟨_, rfl, (by show 5 ≤ sizeLine; decide), fun M2 h2 => ?_⟩
    have d12 : M1 ≠ M2 := ne_of_none upd_same h2
    refine ⟨M1, M2, _, _, rfl, rfl, by rw [upd_ne d12, upd_same], upd_same, bigE (by show 8 + 5 ≤ _; omega), fun M3 h3 => ?_⟩
    refine ⟨_, rfl, (by show 4 ≤ sizeLine; decide), fun M4 h4 => ?_⟩
    have d34 : M3 ≠ M4 := ne_of_none upd_same h4
    refine ⟨M3, M4, _, _, rfl, rfl, by rw [upd_ne d34, upd_same], upd_same, bigE (by show 8 + 5 + 4 ≤ _; omega), fun M5 h5 => ?_⟩
    refine ⟨_, rfl, _, _, rfl, rfl, by decide, by decide, by decide +kernel, by decide +kernel, _, _, rfl, rfl, by decide +kernel, _, _, rfl, rfl, by decide +kernel, (by show 4 ≤ sizeLine; decide), fun M6 h6 => ?_⟩
    have d56 : M5 ≠ M6 := ne_of_none upd_same h6
    refine ⟨M5, M6, _, _, rfl, rfl, by rw [upd_ne d56, upd_same], upd_same, bigE (by show 8 + 5 + 4 + 4 ≤ _; omega), fun M7 h7 => ?_⟩
    generalize eH : (upd (upd _ M6 _) M7 _) = H5
    have e3 : H5 M7 = some (.lst (menuW.map V.str)) := by rw [← eH, upd_same]; rfl
    clear eH
    refine ⟨_, rfl, M7, rfl, ⟨_, .of e3⟩, fun C hC => comp_list (K := K) (a := M7) (xs := menuW.map V.str) (fun j H6 => Same H5 H6 ∧ H6 C = some (.lst [])) ⟨same_upd hC _, upd_same⟩ (fun j H6 _ z => .of (z.1 _ _ e3)) ?_ ?_⟩
    · rintro j y H6 hy ⟨s6, eC⟩
      obtain ⟨y0, ym, rfl⟩ := List.mem_map.mp (List.mem_of_getElem? hy)
      have ty := menuW_tx y0 ym
      obtain ⟨dt, hd2, okd⟩ := out_ex y0
      refine ⟨_, rfl, ?_⟩
      dsimp only [tNil, List.cons_append, List.nil_append]
      refine out_use ty hd2 fun v1 Ha sa r1 => ?_
      refine ⟨_, rfl, ?_⟩
      dsimp only [tNil, List.cons_append, List.nil_append]
      refine out_use ty hd2 fun v2 Hb sb2 r2 => ?_
      exact ⟨_, _, r1.mono sb2, r2, okd, okd, fun _ => ⟨_, rfl, iteF ⟨(s6.trans sa).trans sb2, (sa.trans sb2) _ _ eC⟩⟩, fun z => absurd rfl z⟩
    · rintro H6 ⟨s6, eC⟩
      refine ⟨(by show 0 ≤ sizeLine; decide), fun E1 hE => ?_⟩
      have dE : C ≠ E1 := ne_of_none eC hE
      exact ⟨.list [], .list [], .lst (.of (by rw [upd_ne dE]; exact eC)) .nil, .lst (.of upd_same) .nil, rfl, rfl, fun _ => q _, fun z => absurd rfl z⟩
end
noncomputable def DfK (K : PySem.W.Frag) (x : Str) (st : Stmt) (f : Addr) : Prop := ∃ (oc : Value) (od : Option Addr) (kV dc pm : Value) (an : Option Addr) (cd ct : Value) (sl : Array (Option Value)), PySem.W.nsIn K mainGlobals x = some (some (.ref f)) ∧ K.lookup f = some ⟨oc, od, .func (PySem.W.fnOf x x (defArgs st) (defBody st) (defScope st) .none kV dc pm an cd ct), sl⟩ ∧ PySem.W.codeIn K cd x = true ∧ PySem.W.keepIn K (.ref f) = true
theorem DfK.mk {K : PySem.W.Frag} {h : Heap} {mg : Str → Option Value} {x : Str} {st : Stmt} {f : Addr} (d : DfK K x st f) (X : K.In h) (G : h.Ns mainGlobals mg) (ps : List Str)
    (hb : ∀ (kV doc pm : Value) (an : Option Addr) (cdv ct : Value) (us : List Value), us.length = ps.length → bindArgs (PySem.W.fnOf x x (defArgs st) (defBody st) (defScope st) .none kV doc pm an cdv ct) ⟨us, []⟩ = pure (ps.zip us)) : ∃ fd, Def K mg x st ps f fd := by
  obtain ⟨oc, od, kV, dc, pm, an, cd, ct, sl, a, l, cc, k⟩ := d
  exact ⟨_, fun_mk (st := st) l cc k, (fun_mk (st := st) l cc k).binds hb, PySem.W.mg_of X G a⟩
theorem all_mk {l : PySem.W.OpenLaw} {w : World} {K : PySem.W.Frag} {h : Heap} {mg : Str → Option Value} {fa f1 f2 f3 f4 f5 f6 f7 f8 f9 f10 f11 f12 f13 f14 f15 f16 f17 f18 f19 f20 : Addr} (X : K.In h) (G : h.Ns mainGlobals mg) (hfa : mg "law" = some (.ref fa))
    (h1 : DfK K "works_of" s_works_of f1)
    (h2 : DfK K "check_gate" s_check_gate f2)
    (h3 : DfK K "is_kind" s_is_kind f3)
    (h4 : DfK K "are_wires_below" s_are_wires_below f4)
    (h5 : DfK K "read_works" s_read_works f5)
    (h6 : DfK K "read_row" s_read_row f6)
    (h7 : DfK K "read_number" s_read_number f7)
    (h8 : DfK K "_law_stir" s_law_stir f8)
    (h9 : DfK K "_law_deck" s_law_deck f9)
    (h10 : DfK K "_law_take" s_law_take f10)
    (h11 : DfK K "_law_legs" s_law_legs f11)
    (h12 : DfK K "_law_works" s_law_works f12)
    (h13 : DfK K "_law_text" s_law_text f13)
    (h14 : DfK K "_law_number" s_law_number f14)
    (h15 : DfK K "_law_read" s_law_read f15)
    (h16 : DfK K "_law_told" s_law_told f16)
    (h17 : DfK K "_law_word" s_law_word f17)
    (h18 : DfK K "_law_rows_put" s_law_rows_put f18)
    (h19 : DfK K "_law_spoilt" s_law_spoilt f19)
    (h20 : DfK K "law" s_law f20)
    (z1 : PySem.W.nsIn K mainGlobals "ValueError" = some none)
    (z2 : PySem.W.nsIn K mainGlobals "all" = some none)
    (z3 : PySem.W.nsIn K mainGlobals "enumerate" = some none)
    (z4 : PySem.W.nsIn K mainGlobals "int" = some none)
    (z5 : PySem.W.nsIn K mainGlobals "isinstance" = some none)
    (z6 : PySem.W.nsIn K mainGlobals "len" = some none)
    (z7 : PySem.W.nsIn K mainGlobals "list" = some none)
    (z8 : PySem.W.nsIn K mainGlobals "max" = some none)
    (z9 : PySem.W.nsIn K mainGlobals "range" = some none)
    (z10 : PySem.W.nsIn K mainGlobals "str" = some none)
    (z11 : PySem.W.nsIn K mainGlobals "tuple" = some none)
    (z12 : PySem.W.nsIn K mainGlobals "zip" = some none)
    {c1_ : Addr} (ac1 : PySem.W.nsIn K mainGlobals "LEG_BOUNDS" = some (some (.ref c1_))) (kc1 : TabK K c1_ tab_LEG_BOUNDS)
    {s1_ : Tok} (as1 : PySem.W.nsIn K mainGlobals "FIGURES" = some (some (.str "0123456789" s1_)))
    {x1_ : Addr} (ax1 : PySem.W.nsIn K mainGlobals "StuckError" = some (some (.ref x1_))) (kx1 : XcOk K x1_ "ValueError" "ValueError.__new__" [.type "ValueError", .type "Exception", .type "BaseException", .type "object"])
    {x2_ : Addr} (ax2 : PySem.W.nsIn K mainGlobals "NoWorks" = some (some (.ref x2_))) (kx2 : XcOk K x2_ "ValueError" "ValueError.__new__" [.type "ValueError", .type "Exception", .type "BaseException", .type "object"])
    {x3_ : Addr} (ax3 : PySem.W.nsIn K mainGlobals "NoRow" = some (some (.ref x3_))) (kx3 : XcOk K x3_ "ValueError" "ValueError.__new__" [.type "ValueError", .type "Exception", .type "BaseException", .type "object"])
    {x4_ : Addr} (ax4 : PySem.W.nsIn K mainGlobals "NoFault" = some (some (.ref x4_))) (kx4 : XcOk K x4_ "ValueError" "ValueError.__new__" [.type "ValueError", .type "Exception", .type "BaseException", .type "object"])
    {x5_ : Addr} (ax5 : PySem.W.nsIn K mainGlobals "NoText" = some (some (.ref x5_))) (kx5 : XcOk K x5_ "ValueError" "ValueError.__new__" [.type "ValueError", .type "Exception", .type "BaseException", .type "object"])
    {x6_ : Addr} (ax6 : PySem.W.nsIn K mainGlobals "NoOrder" = some (some (.ref x6_))) (kx6 : XcOk K x6_ "ValueError" "ValueError.__new__" [.type "ValueError", .type "Exception", .type "BaseException", .type "object"])
    {x7_ : Addr} (ax7 : PySem.W.nsIn K mainGlobals "TooMany" = some (some (.ref x7_))) (kx7 : XcOk K x7_ "ValueError" "ValueError.__new__" [.type "ValueError", .type "Exception", .type "BaseException", .type "object"])
    (ff1 : PySem.W.kitAny K (.ref x5_) [.ref x4_, .ref x6_, .ref x3_, .ref x7_] = some false)
    (ff2 : PySem.W.kitOne K (.ref x5_) (.ref x5_) = some true)
    (ff3 : PySem.W.kitOne K (.ref x5_) (.ref x2_) = some false)
    (ff4 : PySem.W.kitOne K (.ref x5_) (.type "ValueError") = some true)
    (ff5 : (mroOf K x5_).tail.contains (.ref x1_) = true)
    (ff6 : PySem.W.kitAny K (.ref x2_) [.ref x4_, .ref x6_, .ref x3_, .ref x7_] = some false)
    (ff7 : PySem.W.kitOne K (.ref x2_) (.ref x5_) = some false)
    (ff8 : PySem.W.kitOne K (.ref x2_) (.ref x2_) = some true)
    (ff9 : PySem.W.kitOne K (.ref x2_) (.type "ValueError") = some true)
    (ff10 : (mroOf K x2_).tail.contains (.ref x1_) = true)
    : ∃ fd : FuncData, (∀ (s : Shared) (v : Value), BindsTo s fd ⟨[v], []⟩ [("script", v)]) ∧ ∀ base : Heap, K.In base → base.Ns mainGlobals mg → FnOk l.prog w K mg base CX0 6 fa fd ["script"] (sp_law K) := by
  obtain ⟨oc, od, kVL, dcL, pmL, anL, cdL, ctL, sl, aL, lL, cL, kL⟩ := h20
  have e := hfa.symm.trans (PySem.W.mg_of X G aL)
  cases e
  obtain ⟨e1, D1⟩ := h1.mk X G ["inputs", "gates", "outputs"] fun _ _ _ _ _ _ us hl => by obtain ⟨x0, x1, x2, e⟩ := lenV3 hl; subst e; rfl
  obtain ⟨e2, D2⟩ := h2.mk X G ["kind", "legs", "own_wire"] fun _ _ _ _ _ _ us hl => by obtain ⟨x0, x1, x2, e⟩ := lenV3 hl; subst e; rfl
  obtain ⟨e3, D3⟩ := h3.mk X G ["word"] fun _ _ _ _ _ _ us hl => by obtain ⟨x0, e⟩ := lenV1 hl; subst e; rfl
  obtain ⟨e4, D4⟩ := h4.mk X G ["numbers", "bound"] fun _ _ _ _ _ _ us hl => by obtain ⟨x0, x1, e⟩ := lenV2 hl; subst e; rfl
  obtain ⟨e5, D5⟩ := h5.mk X G ["text"] fun _ _ _ _ _ _ us hl => by obtain ⟨x0, e⟩ := lenV1 hl; subst e; rfl
  obtain ⟨e6, D6⟩ := h6.mk X G ["row"] fun _ _ _ _ _ _ us hl => by obtain ⟨x0, e⟩ := lenV1 hl; subst e; rfl
  obtain ⟨e7, D7⟩ := h7.mk X G ["text"] fun _ _ _ _ _ _ us hl => by obtain ⟨x0, e⟩ := lenV1 hl; subst e; rfl
  obtain ⟨e8, D8⟩ := h8.mk X G ["cell", "k"] fun _ _ _ _ _ _ us hl => by obtain ⟨x0, x1, e⟩ := lenV2 hl; subst e; rfl
  obtain ⟨e9, D9⟩ := h9.mk X G ["cell"] fun _ _ _ _ _ _ us hl => by obtain ⟨x0, e⟩ := lenV1 hl; subst e; rfl
  obtain ⟨e10, D10⟩ := h10.mk X G ["deck", "many"] fun _ _ _ _ _ _ us hl => by obtain ⟨x0, x1, e⟩ := lenV2 hl; subst e; rfl
  obtain ⟨e11, D11⟩ := h11.mk X G ["deck", "kind"] fun _ _ _ _ _ _ us hl => by obtain ⟨x0, x1, e⟩ := lenV2 hl; subst e; rfl
  obtain ⟨e12, D12⟩ := h12.mk X G ["deck", "most"] fun _ _ _ _ _ _ us hl => by obtain ⟨x0, x1, e⟩ := lenV2 hl; subst e; rfl
  obtain ⟨e13, D13⟩ := h13.mk X G ["works"] fun _ _ _ _ _ _ us hl => by obtain ⟨x0, e⟩ := lenV1 hl; subst e; rfl
  obtain ⟨e14, D14⟩ := h14.mk X G ["word"] fun _ _ _ _ _ _ us hl => by obtain ⟨x0, e⟩ := lenV1 hl; subst e; rfl
  obtain ⟨e15, D15⟩ := h15.mk X G ["text"] fun _ _ _ _ _ _ us hl => by obtain ⟨x0, e⟩ := lenV1 hl; subst e; rfl
  obtain ⟨e16, D16⟩ := h16.mk X G ["text"] fun _ _ _ _ _ _ us hl => by obtain ⟨x0, e⟩ := lenV1 hl; subst e; rfl
  obtain ⟨e17, D17⟩ := h17.mk X G ["deck"] fun _ _ _ _ _ _ us hl => by obtain ⟨x0, e⟩ := lenV1 hl; subst e; rfl
  obtain ⟨e18, D18⟩ := h18.mk X G ["deck", "rows"] fun _ _ _ _ _ _ us hl => by obtain ⟨x0, x1, e⟩ := lenV2 hl; subst e; rfl
  obtain ⟨e19, D19⟩ := h19.mk X G ["deck", "text"] fun _ _ _ _ _ _ us hl => by obtain ⟨x0, x1, e⟩ := lenV2 hl; subst e; rfl
  have F20 := fun_mk (st := s_law) lL cL kL
  have b20 := F20.binds (ps := ["script"]) fun _ _ _ _ _ _ us hl => by obtain ⟨x0, e⟩ := lenV1 hl; subst e; rfl
  refine ⟨PySem.W.fnOf "law" "law" (defArgs s_law) (defBody s_law) (defScope s_law) .none kVL dcL pmL anL cdL ctL, fun s v => .of_eq rfl, fun base _ _ => ?_⟩
  exact ok_law (t := ⟨f1, e1, f2, e2, f3, e3, f4, e4, f5, e5, f6, e6, f7, e7, f8, e8, f9, e9, f10, e10, f11, e11, f12, e12, f13, e13, f14, e14, f15, e15, f16, e16, f17, e17, f18, e18, f19, e19, _, _, c1_, s1_, x1_, x2_, x3_, x4_, x5_, x6_, x7_⟩) ⟨D1, D2, D3, D4, D5, D6, D7, D8, D9, D10, D11, D12, D13, D14, D15, D16, D17, D18, D19, ⟨F20, b20, PySem.W.mg_of X G aL⟩, PySem.W.mg_none_of X G z1, PySem.W.mg_none_of X G z2, PySem.W.mg_none_of X G z3, PySem.W.mg_none_of X G z4, PySem.W.mg_none_of X G z5, PySem.W.mg_none_of X G z6, PySem.W.mg_none_of X G z7, PySem.W.mg_none_of X G z8, PySem.W.mg_none_of X G z9, PySem.W.mg_none_of X G z10, PySem.W.mg_none_of X G z11, PySem.W.mg_none_of X G z12, PySem.W.mg_of X G ac1, kc1, PySem.W.mg_of X G as1, PySem.W.mg_of X G ax1, kx1, PySem.W.mg_of X G ax2, kx2, PySem.W.mg_of X G ax3, kx3, PySem.W.mg_of X G ax4, kx4, PySem.W.mg_of X G ax5, kx5, PySem.W.mg_of X G ax6, kx6, PySem.W.mg_of X G ax7, kx7, ff1, ff2, ff3, ff4, ff5, ff6, ff7, ff8, ff9, ff10⟩
theorem walk {l : PySem.W.OpenLaw} {q : Program} {loose : List Str} {XP : (Str → Option Value) → Heap → Prop} {YP : World → Heap → Prop} {d : DefRec} {K : Params → PySem.W.Frag} (hn : l.most = some 63) (hdf : d.params.defaults = [])
    (hY : ∀ (w : World) (h : Heap), YP w h → (K w.params).In h)
    (F : ∀ (w : World) (mg : Str → Option Value) (fa : Addr) (h : Heap), (K w.params).In h → h.Ns mainGlobals mg → mg d.name = some (.ref fa) →
      ∃ fd : FuncData, (∀ (s : Shared) (u : Value), BindsTo s fd ⟨[u], []⟩ [("script", u)]) ∧ ∀ base : Heap, (K w.params).In base → base.Ns mainGlobals mg → FnOk l.prog w (K w.params) mg base CX0 6 fa fd ["script"] (sp_law (K w.params))) :
    PySem.W.WalkO q loose XP YP l.row.toRowW d [] (fun f vs => PySem.call f vs) :=
  L2.walk_of (n := 63) (k := 6) (x := "script") (CX := fun _ => CX0) (sp := fun w => sp_law (K w.params)) hn (by decide) hdf ⟨rfl, by decide, by decide, rfl⟩ hY F (fun _ _ a ns hl _ hS => ⟨a, ns, rfl, hS, hl, fun _ => rfl⟩) fun _ _ _ _ _ z => z
end My
open PySem PySem.W PyProof.Rows
set_option maxRecDepth 100000 in
set_option maxHeartbeats 0 in
theorem PySem.Challenge.cw_stuckwires_k61_texts_of_no_works_holds : PySem.Challenge.rw_stuckwires_k61_texts_of_no_works.Holds := by
  w_on; o_law
  refine PySem.W.holds_open (q := My.view) (loose := ["LEG_BOUNDS"])
    (Xt := fun s => xlAt My.view [] s && recOk (RowW.records (OpenRow.toRowW PySem.Challenge.rw_stuckwires_k61_texts_of_no_works.row)) s) (XP := XL My.view [])
    (Yf := Hook.obs (kHook My.part My.partAt (fun _ => by kernel_rfl))) (Ya := Hook.val (kHook My.part My.partAt (fun _ => by kernel_rfl)))
    (YP := Hook.says (kHook My.part My.partAt (fun _ => by kernel_rfl))) (N := 4662) ?hl (Hook.of _) (Hook.keeps _)
    (fun s e => xl_of s (Bool.and_eq_true_iff.mp e).1) XL.keeps (by rfl) (by rfl) (by rfl)
    (fun s e => recFacts_of (Bool.and_eq_true_iff.mp e).2) (by rfl) (by first | assumption | decide +kernel) (by decide +kernel)
    ⟨rfl, rfl, rfl, rfl, rfl, by decide +kernel⟩ ?hw ?hc
  case hl => exact My.hl0
  case hw => w_witness2
  k_fill
  refine My.walk (l := PySem.Challenge.rw_stuckwires_k61_texts_of_no_works) rfl rfl (fun w h Y => PySem.W.kIn_of Y) ?F
  case F =>
    intro w mg fa h KX G hmg
    refine' My.all_mk KX G hmg ?h1 ?h2 ?h3 ?h4 ?h5 ?h6 ?h7 ?h8 ?h9 ?h10 ?h11 ?h12 ?h13 ?h14 ?h15 ?h16 ?h17 ?h18 ?h19 ?h20 ?z1 ?z2 ?z3 ?z4 ?z5 ?z6 ?z7 ?z8 ?z9 ?z10 ?z11 ?z12 ?ac1 ?kc1 ?as1 ?ax1 ?kx1 ?ax2 ?kx2 ?ax3 ?kx3 ?ax4 ?kx4 ?ax5 ?kx5 ?ax6 ?kx6 ?ax7 ?kx7 ?ff1 ?ff2 ?ff3 ?ff4 ?ff5 ?ff6 ?ff7 ?ff8 ?ff9 ?ff10
    all_goals first | ((iterate 9 apply Exists.intro); (refine ⟨?_, ?_, ?_, ?_⟩ <;> k_is)) | skip
    (case z1 => k_is)
    (case z2 => k_is)
    (case z3 => k_is)
    (case z4 => k_is)
    (case z5 => k_is)
    (case z6 => k_is)
    (case z7 => k_is)
    (case z8 => k_is)
    (case z9 => k_is)
    (case z10 => k_is)
    (case z11 => k_is)
    (case z12 => k_is)
    (case ac1 => k_is)
    (case kc1 => (unfold L2.TabK; kernel_rfl))
    (case as1 => k_is)
    (case ax1 => k_is)
    (case kx1 => exact ⟨by kernel_rfl, PySem.F.attr_ValueError, by kernel_rfl, by kernel_rfl, by kernel_rfl, by decide, by decide⟩)
    (case ax2 => k_is)
    (case kx2 => exact ⟨by kernel_rfl, PySem.F.attr_ValueError, by kernel_rfl, by kernel_rfl, by kernel_rfl, by decide, by decide⟩)
    (case ax3 => k_is)
    (case kx3 => exact ⟨by kernel_rfl, PySem.F.attr_ValueError, by kernel_rfl, by kernel_rfl, by kernel_rfl, by decide, by decide⟩)
    (case ax4 => k_is)
    (case kx4 => exact ⟨by kernel_rfl, PySem.F.attr_ValueError, by kernel_rfl, by kernel_rfl, by kernel_rfl, by decide, by decide⟩)
    (case ax5 => k_is)
    (case kx5 => exact ⟨by kernel_rfl, PySem.F.attr_ValueError, by kernel_rfl, by kernel_rfl, by kernel_rfl, by decide, by decide⟩)
    (case ax6 => k_is)
    (case kx6 => exact ⟨by kernel_rfl, PySem.F.attr_ValueError, by kernel_rfl, by kernel_rfl, by kernel_rfl, by decide, by decide⟩)
    (case ax7 => k_is)
    (case kx7 => exact ⟨by kernel_rfl, PySem.F.attr_ValueError, by kernel_rfl, by kernel_rfl, by kernel_rfl, by decide, by decide⟩)
    (case ff1 => kernel_rfl)
    (case ff2 => kernel_rfl)
    (case ff3 => kernel_rfl)
    (case ff4 => kernel_rfl)
    (case ff5 => kernel_rfl)
    (case ff6 => kernel_rfl)
    (case ff7 => kernel_rfl)
    (case ff8 => kernel_rfl)
    (case ff9 => kernel_rfl)
    (case ff10 => kernel_rfl)

