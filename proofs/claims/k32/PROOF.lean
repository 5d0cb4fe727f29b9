import PyProof.Rows.All
import Wide.All
import OpenK.AllK
import Wide.FinOn
import Lean
import PyProof.EqAt
import PyProof.EqKinds
import PyProof.TupleCall
import PyProof.ListMulRoad
import PyProof.Rows.ListMul
import PySem.Challenge.RW_vellum_k32_texts_that_are_no_apparatus
set_option Elab.async false
set_option linter.all false
set_option maxRecDepth 100000
set_option maxHeartbeats 4000000
namespace L2
open PySem PySem.Spec PyProof.Rows
def defArgs (s : Stmt) : Arguments := match s with
  | .FunctionDef _ a _ _ _ _ _ _ _ _ => a
  | _ => { posonlyargs := [], args := [], vararg := none, kwonlyargs := [], kw_defaults := [], kwarg := none, defaults := [] }
def defBody (s : Stmt) : List Stmt := match s with
  | .FunctionDef _ _ b _ _ _ _ _ _ _ => b
  | _ => []
def defScope (s : Stmt) : Scope := match s with
  | .FunctionDef _ _ _ _ _ _ sc _ _ _ => sc
  | _ => { kind := .function, names := [], isGenerator := false, isCoroutine := false }
end L2
namespace K32
open PySem PySem.Spec PyProof.Rows L2
def top (i : Nat) : Stmt := PySem.Challenge.pw_vellum_k32_texts_that_are_no_apparatus.main.body.getD i (.Pass ⟨0, 0, 0, 0⟩)
abbrev sRdf : Stmt := top 11
abbrev sCB : Stmt := top 12
abbrev sOB : Stmt := top 13
abbrev sHas : Stmt := top 19
abbrev sIsW : Stmt := top 20
abbrev sWr : Stmt := top 21
abbrev sNum : Stmt := top 22
abbrev sER : Stmt := top 26
abbrev sESR : Stmt := top 27
abbrev sNR : Stmt := top 28
abbrev sPR : Stmt := top 29
abbrev sRR : Stmt := top 30
abbrev sNTR : Stmt := top 31
abbrev sAR : Stmt := top 32
abbrev sDraw : Stmt := top 35
abbrev sSame : Stmt := top 36
abbrev sWordBy : Stmt := top 37
abbrev sAsk : Stmt := top 38
abbrev sBH : Stmt := top 39
abbrev sBL : Stmt := top 40
abbrev sGd : Stmt := top 41
abbrev sLO : Stmt := top 42
abbrev sRight : Stmt := top 43
abbrev sLaw : Stmt := top 44
noncomputable abbrev en (P : Params) (z : Str) (t : Nat) (v : Value) : DictEntry := ⟨PyData.keyHash P z, .str z t, v⟩
noncomputable abbrev fn (n : String) (s : Stmt) (m : String) (t c : Nat) : Obj := ⟨.type "function", none, .func (PySem.W.fnOf (Str.ofString n) (Str.ofString n) (defArgs s) (defBody s) (defScope s) .none .none .none (.str (Str.ofString m) t) none (.ref c) .none), #[]⟩
noncomputable abbrev co (n : String) (t u v a b c r l q y m k z : Nat) : Obj := { cls := .type "code", data := .fields #[.str (Str.ofString n) t, .str (Str.ofString n) u, .str (Str.ofString "/claim/cut.py") v, .int a 0, .int b 0, .int 0 0, .int 0 0, .int c 0, .ref r, .bool true, .int l 0, .ref q, .none, .none, .none, .ref y, .int m 0, .int k 0, .str (Str.ofString "/claim/cut.py") z] }
noncomputable def hp : Params → PySem.W.Frag := fun P =>
  (nat_lit 2, ({ cls := .none, data := .dict #[] } : Obj)) ::
  (nat_lit 3, ({ cls := .type "dict", data := .dict #[en P (Str.ofString "__name__") 165 (.str (Str.ofString "law_vellum_k32_texts_that_are_no_apparatus") 459), en P (Str.ofString "__doc__") 166 (.none), en P (Str.ofString "__package__") 167 (.none), en P (Str.ofString "__loader__") 168 (.builtin "__main__.__loader__#opaque"), en P (Str.ofString "__spec__") 169 (.none), en P (Str.ofString "__annotations__") 170 (.ref 6), en P (Str.ofString "__builtins__") 171 (.ref 4), en P (Str.ofString "__file__") 173 (.str (Str.ofString "/claim/cut.py") 172), en P (Str.ofString "__cached__") 174 (.none), en P (Str.ofString "VellumError") 206 (.ref 24), en P (Str.ofString "NoRow") 222 (.ref 37), en P (Str.ofString "NoPrices") 238 (.ref 49), en P (Str.ofString "NoSlips") 254 (.ref 61), en P (Str.ofString "NoNotes") 270 (.ref 73), en P (Str.ofString "NoLine") 286 (.ref 85), en P (Str.ofString "NoName") 302 (.ref 97), en P (Str.ofString "TwiceNamed") 318 (.ref 109), en P (Str.ofString "TooMany") 334 (.ref 121), en P (Str.ofString "readings_of") 346 (.ref 130), en P (Str.ofString "column_back") 359 (.ref 137), en P (Str.ofString "collation_back") 365 (.ref 142), en P (Str.ofString "LETTERS") 369 (.str (Str.ofString "abcdefghijklmnopqrstuvwxyz") 368), en P (Str.ofString "FIGURES") 371 (.str (Str.ofString "0123456789") 370), en P (Str.ofString "MOST_LETTERS") 373 (.int 12 372), en P (Str.ofString "MOST_PRICE") 375 (.int 1000000000000000000000000000000 374), en P (Str.ofString "has_only") 381 (.ref 147), en P (Str.ofString "is_word") 388 (.ref 154), en P (Str.ofString "writes_number") 395 (.ref 161), en P (Str.ofString "number_of") 404 (.ref 168), en P (Str.ofString "MOST_ROWS") 408 (.int 30 407), en P (Str.ofString "NO_ENTRY") 410 (.str (Str.ofString "-") 409), en P (Str.ofString "entry_read") 417 (.ref 175), en P (Str.ofString "entries_read") 423 (.ref 180), en P (Str.ofString "number_read") 431 (.ref 187), en P (Str.ofString "parts_read") 440 (.ref 194), en P (Str.ofString "reading_read") 446 (.ref 199), en P (Str.ofString "note_read") 452 (.ref 204), en P (Str.ofString "apparatus_read") 458 (.ref 209), en P (Str.ofString "_law_cell_at") 468 (.ref 216), en P (Str.ofString "_law_draw") 479 (.ref 223), en P (Str.ofString "_law_same") 485 (.ref 228), en P (Str.ofString "_law_word_by") 495 (.ref 235), en P (Str.ofString "_law_asked") 505 (.ref 242), en P (Str.ofString "_law_bad_heads") 513 (.ref 249), en P (Str.ofString "_law_bad_lines") 522 (.ref 256), en P (Str.ofString "_law_good") 532 (.ref 263), en P (Str.ofString "_law_line_of") 538 (.ref 268), en P (Str.ofString "_law_right") 544 (.ref 273), en P (Str.ofString "law") 552 (.ref 280)] 49 } : Obj)) ::
  (nat_lit 23, ({ cls := .type "dict", data := .dict #[en P (Str.ofString "__module__") 196 (.str (Str.ofString "vellum.errors") 187), en P (Str.ofString "__firstlineno__") 200 (.int 2 199), en P (Str.ofString "__static_attributes__") 201 (.ref 22), en P (Str.ofString "__weakref__") 203 (.ref 25), en P (Str.ofString "__doc__") 204 (.none)] 3 } : Obj)) ::
  (nat_lit 24, ({ cls := .type "type", data := .cls { name := Str.ofString "VellumError", bases := [.type "ValueError"], mro := [.ref 24, .type "ValueError", .type "Exception", .type "BaseException", .type "object"], ns := 23, qualname := Str.ofString "VellumError", subclasses := [.ref 37, .ref 49, .ref 61, .ref 73, .ref 85, .ref 97, .ref 109, .ref 121] }, slots := #[Option.some (.ref 15), none, Option.some (.str (Str.ofString "VellumError") 189), Option.some (.str (Str.ofString "VellumError") 197), Option.some (.builtin "ValueError.__new__"), Option.some (.bool true)] } : Obj)) ::
  (nat_lit 25, ({ cls := .type "getset_descriptor", data := .fields #[.str (Str.ofString "__weakref__") 202, .ref 24, .builtin "ExceptionGroup.__weakref__", .none] } : Obj)) ::
  (nat_lit 36, ({ cls := .type "dict", data := .dict #[en P (Str.ofString "__module__") 214 (.str (Str.ofString "vellum.errors") 187), en P (Str.ofString "__firstlineno__") 218 (.int 4 217), en P (Str.ofString "__static_attributes__") 219 (.ref 35), en P (Str.ofString "__doc__") 220 (.none)] 2 } : Obj)) ::
  (nat_lit 37, ({ cls := .type "type", data := .cls { name := Str.ofString "NoRow", bases := [.ref 24], mro := [.ref 37, .ref 24, .type "ValueError", .type "Exception", .type "BaseException", .type "object"], ns := 36, qualname := Str.ofString "NoRow" }, slots := #[Option.some (.ref 28), none, Option.some (.str (Str.ofString "NoRow") 207), Option.some (.str (Str.ofString "NoRow") 215), Option.some (.builtin "ValueError.__new__"), Option.some (.bool true)] } : Obj)) ::
  (nat_lit 48, ({ cls := .type "dict", data := .dict #[en P (Str.ofString "__module__") 230 (.str (Str.ofString "vellum.errors") 187), en P (Str.ofString "__firstlineno__") 234 (.int 6 233), en P (Str.ofString "__static_attributes__") 235 (.ref 47), en P (Str.ofString "__doc__") 236 (.none)] 2 } : Obj)) ::
  (nat_lit 49, ({ cls := .type "type", data := .cls { name := Str.ofString "NoPrices", bases := [.ref 24], mro := [.ref 49, .ref 24, .type "ValueError", .type "Exception", .type "BaseException", .type "object"], ns := 48, qualname := Str.ofString "NoPrices" }, slots := #[Option.some (.ref 40), none, Option.some (.str (Str.ofString "NoPrices") 223), Option.some (.str (Str.ofString "NoPrices") 231), Option.some (.builtin "ValueError.__new__"), Option.some (.bool true)] } : Obj)) ::
  (nat_lit 60, ({ cls := .type "dict", data := .dict #[en P (Str.ofString "__module__") 246 (.str (Str.ofString "vellum.errors") 187), en P (Str.ofString "__firstlineno__") 250 (.int 8 249), en P (Str.ofString "__static_attributes__") 251 (.ref 59), en P (Str.ofString "__doc__") 252 (.none)] 2 } : Obj)) ::
  (nat_lit 61, ({ cls := .type "type", data := .cls { name := Str.ofString "NoSlips", bases := [.ref 24], mro := [.ref 61, .ref 24, .type "ValueError", .type "Exception", .type "BaseException", .type "object"], ns := 60, qualname := Str.ofString "NoSlips" }, slots := #[Option.some (.ref 52), none, Option.some (.str (Str.ofString "NoSlips") 239), Option.some (.str (Str.ofString "NoSlips") 247), Option.some (.builtin "ValueError.__new__"), Option.some (.bool true)] } : Obj)) ::
  (nat_lit 72, ({ cls := .type "dict", data := .dict #[en P (Str.ofString "__module__") 262 (.str (Str.ofString "vellum.errors") 187), en P (Str.ofString "__firstlineno__") 266 (.int 10 265), en P (Str.ofString "__static_attributes__") 267 (.ref 71), en P (Str.ofString "__doc__") 268 (.none)] 2 } : Obj)) ::
  (nat_lit 73, ({ cls := .type "type", data := .cls { name := Str.ofString "NoNotes", bases := [.ref 24], mro := [.ref 73, .ref 24, .type "ValueError", .type "Exception", .type "BaseException", .type "object"], ns := 72, qualname := Str.ofString "NoNotes" }, slots := #[Option.some (.ref 64), none, Option.some (.str (Str.ofString "NoNotes") 255), Option.some (.str (Str.ofString "NoNotes") 263), Option.some (.builtin "ValueError.__new__"), Option.some (.bool true)] } : Obj)) ::
  (nat_lit 84, ({ cls := .type "dict", data := .dict #[en P (Str.ofString "__module__") 278 (.str (Str.ofString "vellum.errors") 187), en P (Str.ofString "__firstlineno__") 282 (.int 12 281), en P (Str.ofString "__static_attributes__") 283 (.ref 83), en P (Str.ofString "__doc__") 284 (.none)] 2 } : Obj)) ::
  (nat_lit 85, ({ cls := .type "type", data := .cls { name := Str.ofString "NoLine", bases := [.ref 24], mro := [.ref 85, .ref 24, .type "ValueError", .type "Exception", .type "BaseException", .type "object"], ns := 84, qualname := Str.ofString "NoLine" }, slots := #[Option.some (.ref 76), none, Option.some (.str (Str.ofString "NoLine") 271), Option.some (.str (Str.ofString "NoLine") 279), Option.some (.builtin "ValueError.__new__"), Option.some (.bool true)] } : Obj)) ::
  (nat_lit 96, ({ cls := .type "dict", data := .dict #[en P (Str.ofString "__module__") 294 (.str (Str.ofString "vellum.errors") 187), en P (Str.ofString "__firstlineno__") 298 (.int 14 297), en P (Str.ofString "__static_attributes__") 299 (.ref 95), en P (Str.ofString "__doc__") 300 (.none)] 2 } : Obj)) ::
  (nat_lit 97, ({ cls := .type "type", data := .cls { name := Str.ofString "NoName", bases := [.ref 24], mro := [.ref 97, .ref 24, .type "ValueError", .type "Exception", .type "BaseException", .type "object"], ns := 96, qualname := Str.ofString "NoName" }, slots := #[Option.some (.ref 88), none, Option.some (.str (Str.ofString "NoName") 287), Option.some (.str (Str.ofString "NoName") 295), Option.some (.builtin "ValueError.__new__"), Option.some (.bool true)] } : Obj)) ::
  (nat_lit 108, ({ cls := .type "dict", data := .dict #[en P (Str.ofString "__module__") 310 (.str (Str.ofString "vellum.errors") 187), en P (Str.ofString "__firstlineno__") 314 (.int 16 313), en P (Str.ofString "__static_attributes__") 315 (.ref 107), en P (Str.ofString "__doc__") 316 (.none)] 2 } : Obj)) ::
  (nat_lit 109, ({ cls := .type "type", data := .cls { name := Str.ofString "TwiceNamed", bases := [.ref 24], mro := [.ref 109, .ref 24, .type "ValueError", .type "Exception", .type "BaseException", .type "object"], ns := 108, qualname := Str.ofString "TwiceNamed" }, slots := #[Option.some (.ref 100), none, Option.some (.str (Str.ofString "TwiceNamed") 303), Option.some (.str (Str.ofString "TwiceNamed") 311), Option.some (.builtin "ValueError.__new__"), Option.some (.bool true)] } : Obj)) ::
  (nat_lit 120, ({ cls := .type "dict", data := .dict #[en P (Str.ofString "__module__") 326 (.str (Str.ofString "vellum.errors") 187), en P (Str.ofString "__firstlineno__") 330 (.int 18 329), en P (Str.ofString "__static_attributes__") 331 (.ref 119), en P (Str.ofString "__doc__") 332 (.none)] 2 } : Obj)) ::
  (nat_lit 121, ({ cls := .type "type", data := .cls { name := Str.ofString "TooMany", bases := [.ref 24], mro := [.ref 121, .ref 24, .type "ValueError", .type "Exception", .type "BaseException", .type "object"], ns := 120, qualname := Str.ofString "TooMany" }, slots := #[Option.some (.ref 112), none, Option.some (.str (Str.ofString "TooMany") 319), Option.some (.str (Str.ofString "TooMany") 327), Option.some (.builtin "ValueError.__new__"), Option.some (.bool true)] } : Obj)) ::
  (nat_lit 129, ({ cls := .type "code", data := .fields #[.str (Str.ofString "readings_of") 337, .str (Str.ofString "readings_of") 338, .str (Str.ofString "/claim/cut.py") 339, .int 21 0, .int 1 0, .int 0 0, .int 0 0, .int 3 0, .ref 124, .bool true, .int 181 0, .ref 125, .none, .ref 126, .ref 127, .ref 128, .int 344 0, .int 21 0, .str (Str.ofString "/claim/cut.py") 345] } : Obj)) ::
  (nat_lit 130, (fn "readings_of" sRdf "vellum.notes" 335 129 : Obj)) ::
  (nat_lit 136, ({ cls := .type "code", data := .fields #[.str (Str.ofString "column_back") 347, .str (Str.ofString "column_back") 348, .str (Str.ofString "/claim/cut.py") 349, .int 27 0, .int 3 0, .int 0 0, .int 0 0, .int 3 0, .ref 131, .bool true, .int 181 0, .ref 132, .none, .ref 133, .ref 134, .ref 135, .int 357 0, .int 27 0, .str (Str.ofString "/claim/cut.py") 358] } : Obj)) ::
  (nat_lit 137, (fn "column_back" sCB "vellum.notes" 335 136 : Obj)) ::
  (nat_lit 141, (co "collation_back" 360 361 362 37 3 3 138 181 139 140 363 37 364 : Obj)) ::
  (nat_lit 142, (fn "collation_back" sOB "vellum.notes" 335 141 : Obj)) ::
  (nat_lit 146, (co "has_only" 376 377 378 51 2 3 143 181 144 145 379 51 380 : Obj)) ::
  (nat_lit 147, (fn "has_only" sHas "vellum.words" 366 146 : Obj)) ::
  (nat_lit 153, ({ cls := .type "code", data := .fields #[.str (Str.ofString "is_word") 382, .str (Str.ofString "is_word") 383, .str (Str.ofString "/claim/cut.py") 384, .int 53 0, .int 1 0, .int 0 0, .int 0 0, .int 3 0, .ref 148, .bool true, .int 181 0, .ref 149, .none, .ref 150, .ref 151, .ref 152, .int 386 0, .int 53 0, .str (Str.ofString "/claim/cut.py") 387] } : Obj)) ::
  (nat_lit 154, (fn "is_word" sIsW "vellum.words" 366 153 : Obj)) ::
  (nat_lit 160, ({ cls := .type "code", data := .fields #[.str (Str.ofString "writes_number") 389, .str (Str.ofString "writes_number") 390, .str (Str.ofString "/claim/cut.py") 391, .int 55 0, .int 1 0, .int 0 0, .int 0 0, .int 3 0, .ref 155, .bool true, .int 181 0, .ref 156, .none, .ref 157, .ref 158, .ref 159, .int 393 0, .int 55 0, .str (Str.ofString "/claim/cut.py") 394] } : Obj)) ::
  (nat_lit 161, (fn "writes_number" sWr "vellum.words" 366 160 : Obj)) ::
  (nat_lit 167, ({ cls := .type "code", data := .fields #[.str (Str.ofString "number_of") 396, .str (Str.ofString "number_of") 397, .str (Str.ofString "/claim/cut.py") 398, .int 59 0, .int 2 0, .int 0 0, .int 0 0, .int 3 0, .ref 162, .bool true, .int 181 0, .ref 163, .none, .ref 164, .ref 165, .ref 166, .int 402 0, .int 59 0, .str (Str.ofString "/claim/cut.py") 403] } : Obj)) ::
  (nat_lit 168, (fn "number_of" sNum "vellum.words" 366 167 : Obj)) ::
  (nat_lit 174, ({ cls := .type "code", data := .fields #[.str (Str.ofString "entry_read") 411, .str (Str.ofString "entry_read") 412, .str (Str.ofString "/claim/cut.py") 413, .int 67 0, .int 1 0, .int 0 0, .int 0 0, .int 3 0, .ref 169, .bool true, .int 181 0, .ref 170, .none, .ref 171, .ref 172, .ref 173, .int 415 0, .int 67 0, .str (Str.ofString "/claim/cut.py") 416] } : Obj)) ::
  (nat_lit 175, (fn "entry_read" sER "vellum.notetext" 405 174 : Obj)) ::
  (nat_lit 179, (co "entries_read" 418 419 420 73 1 3 176 181 177 178 421 73 422 : Obj)) ::
  (nat_lit 180, (fn "entries_read" sESR "vellum.notetext" 405 179 : Obj)) ::
  (nat_lit 186, ({ cls := .type "code", data := .fields #[.str (Str.ofString "number_read") 424, .str (Str.ofString "number_read") 425, .str (Str.ofString "/claim/cut.py") 426, .int 77 0, .int 1 0, .int 0 0, .int 0 0, .int 3 0, .ref 181, .bool true, .int 181 0, .ref 182, .none, .ref 183, .ref 184, .ref 185, .int 429 0, .int 77 0, .str (Str.ofString "/claim/cut.py") 430] } : Obj)) ::
  (nat_lit 187, (fn "number_read" sNR "vellum.notetext" 405 186 : Obj)) ::
  (nat_lit 193, ({ cls := .type "code", data := .fields #[.str (Str.ofString "parts_read") 432, .str (Str.ofString "parts_read") 433, .str (Str.ofString "/claim/cut.py") 434, .int 82 0, .int 2 0, .int 0 0, .int 0 0, .int 3 0, .ref 188, .bool true, .int 181 0, .ref 189, .none, .ref 190, .ref 191, .ref 192, .int 438 0, .int 82 0, .str (Str.ofString "/claim/cut.py") 439] } : Obj)) ::
  (nat_lit 194, (fn "parts_read" sPR "vellum.notetext" 405 193 : Obj)) ::
  (nat_lit 198, (co "reading_read" 441 442 443 87 1 3 195 181 196 197 444 87 445 : Obj)) ::
  (nat_lit 199, (fn "reading_read" sRR "vellum.notetext" 405 198 : Obj)) ::
  (nat_lit 203, (co "note_read" 447 448 449 90 1 3 200 181 201 202 450 90 451 : Obj)) ::
  (nat_lit 204, (fn "note_read" sNTR "vellum.notetext" 405 203 : Obj)) ::
  (nat_lit 208, (co "apparatus_read" 453 454 455 93 1 3 205 181 206 207 456 93 457 : Obj)) ::
  (nat_lit 209, (fn "apparatus_read" sAR "vellum.notetext" 405 208 : Obj)) ::
  (nat_lit 222, ({ cls := .type "code", data := .fields #[.str (Str.ofString "_law_draw") 469, .str (Str.ofString "_law_draw") 470, .str (Str.ofString "/claim/cut.py") 471, .int 104 0, .int 3 0, .int 0 0, .int 0 0, .int 3 0, .ref 217, .bool true, .int 181 0, .ref 218, .none, .ref 219, .ref 220, .ref 221, .int 477 0, .int 104 0, .str (Str.ofString "/claim/cut.py") 478] } : Obj)) ::
  (nat_lit 223, (fn "_law_draw" sDraw "law_vellum_k32_texts_that_are_no_apparatus" 459 222 : Obj)) ::
  (nat_lit 227, (co "_law_same" 480 481 482 108 2 3 224 181 225 226 483 108 484 : Obj)) ::
  (nat_lit 228, (fn "_law_same" sSame "law_vellum_k32_texts_that_are_no_apparatus" 459 227 : Obj)) ::
  (nat_lit 234, ({ cls := .type "code", data := .fields #[.str (Str.ofString "_law_word_by") 486, .str (Str.ofString "_law_word_by") 487, .str (Str.ofString "/claim/cut.py") 488, .int 118 0, .int 2 0, .int 0 0, .int 0 0, .int 3 0, .ref 229, .bool true, .int 181 0, .ref 230, .none, .ref 231, .ref 232, .ref 233, .int 493 0, .int 118 0, .str (Str.ofString "/claim/cut.py") 494] } : Obj)) ::
  (nat_lit 235, (fn "_law_word_by" sWordBy "law_vellum_k32_texts_that_are_no_apparatus" 459 234 : Obj)) ::
  (nat_lit 241, ({ cls := .type "code", data := .fields #[.str (Str.ofString "_law_asked") 496, .str (Str.ofString "_law_asked") 497, .str (Str.ofString "/claim/cut.py") 498, .int 123 0, .int 1 0, .int 0 0, .int 0 0, .int 3 0, .ref 236, .bool true, .int 181 0, .ref 237, .none, .ref 238, .ref 239, .ref 240, .int 503 0, .int 123 0, .str (Str.ofString "/claim/cut.py") 504] } : Obj)) ::
  (nat_lit 242, (fn "_law_asked" sAsk "law_vellum_k32_texts_that_are_no_apparatus" 459 241 : Obj)) ::
  (nat_lit 248, ({ cls := .type "code", data := .fields #[.str (Str.ofString "_law_bad_heads") 506, .str (Str.ofString "_law_bad_heads") 507, .str (Str.ofString "/claim/cut.py") 508, .int 135 0, .int 1 0, .int 0 0, .int 0 0, .int 3 0, .ref 243, .bool true, .int 181 0, .ref 244, .none, .ref 245, .ref 246, .ref 247, .int 511 0, .int 135 0, .str (Str.ofString "/claim/cut.py") 512] } : Obj)) ::
  (nat_lit 249, (fn "_law_bad_heads" sBH "law_vellum_k32_texts_that_are_no_apparatus" 459 248 : Obj)) ::
  (nat_lit 255, ({ cls := .type "code", data := .fields #[.str (Str.ofString "_law_bad_lines") 514, .str (Str.ofString "_law_bad_lines") 515, .str (Str.ofString "/claim/cut.py") 516, .int 140 0, .int 2 0, .int 0 0, .int 0 0, .int 3 0, .ref 250, .bool true, .int 181 0, .ref 251, .none, .ref 252, .ref 253, .ref 254, .int 520 0, .int 140 0, .str (Str.ofString "/claim/cut.py") 521] } : Obj)) ::
  (nat_lit 256, (fn "_law_bad_lines" sBL "law_vellum_k32_texts_that_are_no_apparatus" 459 255 : Obj)) ::
  (nat_lit 262, ({ cls := .type "code", data := .fields #[.str (Str.ofString "_law_good") 523, .str (Str.ofString "_law_good") 524, .str (Str.ofString "/claim/cut.py") 525, .int 153 0, .int 2 0, .int 0 0, .int 0 0, .int 3 0, .ref 257, .bool true, .int 181 0, .ref 258, .none, .ref 259, .ref 260, .ref 261, .int 530 0, .int 153 0, .str (Str.ofString "/claim/cut.py") 531] } : Obj)) ::
  (nat_lit 263, (fn "_law_good" sGd "law_vellum_k32_texts_that_are_no_apparatus" 459 262 : Obj)) ::
  (nat_lit 267, (co "_law_line_of" 533 534 535 158 1 3 264 181 265 266 536 158 537 : Obj)) ::
  (nat_lit 268, (fn "_law_line_of" sLO "law_vellum_k32_texts_that_are_no_apparatus" 459 267 : Obj)) ::
  (nat_lit 272, (co "_law_right" 539 540 541 163 1 3 269 181 270 271 542 163 543 : Obj)) ::
  (nat_lit 273, (fn "_law_right" sRight "law_vellum_k32_texts_that_are_no_apparatus" 459 272 : Obj)) ::
  (nat_lit 279, ({ cls := .type "code", data := .fields #[.str (Str.ofString "law") 545, .str (Str.ofString "law") 546, .str (Str.ofString "/claim/cut.py") 547, .int 182 0, .int 1 0, .int 0 0, .int 0 0, .int 3 0, .ref 274, .bool true, .int 181 0, .ref 275, .none, .ref 276, .ref 277, .ref 278, .int 550 0, .int 182 0, .str (Str.ofString "/claim/cut.py") 551] } : Obj)) ::
  (nat_lit 280, (fn "law" sLaw "law_vellum_k32_texts_that_are_no_apparatus" 459 279 : Obj)) ::
  []
noncomputable def view : Program := { PySem.Challenge.pw_vellum_k32_texts_that_are_no_apparatus with main := { (PySem.Challenge.pw_vellum_k32_texts_that_are_no_apparatus).main with body := [top 44] } }
abbrev ad : List Addr := nat_lit 2 :: nat_lit 3 :: nat_lit 23 :: nat_lit 24 :: nat_lit 25 :: nat_lit 36 :: nat_lit 37 :: nat_lit 48 :: nat_lit 49 :: nat_lit 60 :: nat_lit 61 :: nat_lit 72 :: nat_lit 73 :: nat_lit 84 :: nat_lit 85 :: nat_lit 96 :: nat_lit 97 :: nat_lit 108 :: nat_lit 109 :: nat_lit 120 :: nat_lit 121 :: nat_lit 129 :: nat_lit 130 :: nat_lit 136 :: nat_lit 137 :: nat_lit 141 :: nat_lit 142 :: nat_lit 146 :: nat_lit 147 :: nat_lit 153 :: nat_lit 154 :: nat_lit 160 :: nat_lit 161 :: nat_lit 167 :: nat_lit 168 :: nat_lit 174 :: nat_lit 175 :: nat_lit 179 :: nat_lit 180 :: nat_lit 186 :: nat_lit 187 :: nat_lit 193 :: nat_lit 194 :: nat_lit 198 :: nat_lit 199 :: nat_lit 203 :: nat_lit 204 :: nat_lit 208 :: nat_lit 209 :: nat_lit 222 :: nat_lit 223 :: nat_lit 227 :: nat_lit 228 :: nat_lit 234 :: nat_lit 235 :: nat_lit 241 :: nat_lit 242 :: nat_lit 248 :: nat_lit 249 :: nat_lit 255 :: nat_lit 256 :: nat_lit 262 :: nat_lit 263 :: nat_lit 267 :: nat_lit 268 :: nat_lit 272 :: nat_lit 273 :: nat_lit 279 :: nat_lit 280 :: []
theorem ad_hp : ∀ P, ad = (hp P).map (·.1) := fun _ => by kernel_rfl
theorem left : PySem.W.LeftO PySem.Challenge.pw_vellum_k32_texts_that_are_no_apparatus view [Str.ofString "VellumError", Str.ofString "NoRow", Str.ofString "NoPrices", Str.ofString "NoSlips", Str.ofString "NoNotes", Str.ofString "NoLine", Str.ofString "NoName", Str.ofString "TwiceNamed", Str.ofString "TooMany", Str.ofString "readings_of", Str.ofString "column_back", Str.ofString "collation_back", Str.ofString "LETTERS", Str.ofString "FIGURES", Str.ofString "MOST_LETTERS", Str.ofString "MOST_PRICE", Str.ofString "has_only", Str.ofString "is_word", Str.ofString "writes_number", Str.ofString "number_of", Str.ofString "MOST_ROWS", Str.ofString "NO_ENTRY", Str.ofString "entry_read", Str.ofString "entries_read", Str.ofString "number_read", Str.ofString "parts_read", Str.ofString "reading_read", Str.ofString "note_read", Str.ofString "apparatus_read", Str.ofString "_law_cell_at", Str.ofString "_law_draw", Str.ofString "_law_same", Str.ofString "_law_word_by", Str.ofString "_law_asked", Str.ofString "_law_bad_heads", Str.ofString "_law_bad_lines", Str.ofString "_law_good", Str.ofString "_law_line_of", Str.ofString "_law_right"] (fun s => PySem.W.xlAt K32.view [] s && PySem.W.recOk (PySem.W.RowW.records (PySem.W.OpenRow.toRowW PySem.Challenge.rw_vellum_k32_texts_that_are_no_apparatus.row)) s) (PySem.W.Hook.obs (PySem.W.kHook K32.hp K32.ad K32.ad_hp)) (PySem.W.Hook.val (PySem.W.kHook K32.hp K32.ad K32.ad_hp)) 5564 :=
  fun w => by kernel_rfl
theorem said0 : PySem.W.OpenLaw.wellSaid PySem.Challenge.rw_vellum_k32_texts_that_are_no_apparatus = true := by kernel_rfl
end K32
namespace L2
open PySem PySem.Spec PyProof.Rows
abbrev Key := Sum Int Str
def keyIs : Key → Value → Bool
  | .inl k, v => Value.isInt k v
  | .inr x, v => Value.isStrOf x v
def keyH (w : World) : Key → Int
  | .inl k => hashInt k
  | .inr x => hashStr w x
theorem keyIs_shape : ∀ {k : Key} {v : Value}, keyIs k v = true → (∃ i t, k = Sum.inl i ∧ v = Value.int i t) ∨ (∃ x t, k = Sum.inr x ∧ v = Value.str x t)
  | .inl i, v, h => by
    obtain ⟨t, e⟩ := Value.isInt_shape (k := i) (v := v) h
    exact .inl ⟨i, t, rfl, e⟩
  | .inr x, v, h => by
    obtain ⟨t, e⟩ := Value.isStrOf_shape (x := x) (v := v) h
    exact .inr ⟨x, t, rfl, e⟩
theorem keyIs_str (x : Str) (t : Tok) : keyIs (.inr x) (.str x t) = true := by simp [keyIs, Value.isStrOf]
theorem key_ll (a b : Int) : decide ((Sum.inl a : Key) = Sum.inl b) = (a == b) := by
  by_cases e : a = b
  · subst e; simp
  · have h : ¬ (Sum.inl a : Key) = Sum.inl b := fun q => e (Sum.inl.inj q)
    rw [decide_eq_false h]
    exact (beq_eq_false_iff_ne.mpr e).symm
theorem key_rr (a b : Str) : decide ((Sum.inr a : Key) = Sum.inr b) = decide (a = b) := by
  by_cases e : a = b
  · subst e; simp
  · have h : ¬ (Sum.inr a : Key) = Sum.inr b := fun q => e (Sum.inr.inj q)
    rw [decide_eq_false h, decide_eq_false e]
theorem key_lr (a : Int) (b : Str) : decide ((Sum.inl a : Key) = Sum.inr b) = false := decide_eq_false (fun q => nomatch q)
theorem key_rl (a : Str) (b : Int) : decide ((Sum.inr a : Key) = Sum.inl b) = false := decide_eq_false (fun q => nomatch q)
def mixKind (prog : Program) (w : World) : PySem.KeyKind prog w Key where
  is := keyIs
  hash := keyH w
  inj := fun v a b ha hb => by
    rcases keyIs_shape ha with ⟨i, t, rfl, rfl⟩ | ⟨x, t, rfl, rfl⟩
    · rcases keyIs_shape hb with ⟨j, u, rfl, e⟩ | ⟨y, u, rfl, e⟩
      · injection e with e1 _; rw [e1]
      · exact nomatch e
    · rcases keyIs_shape hb with ⟨j, u, rfl, e⟩ | ⟨y, u, rfl, e⟩
      · exact nomatch e
      · injection e with e1 _; rw [e1]
  byValue := fun k v h => by
    rcases keyIs_shape h with ⟨i, t, rfl, rfl⟩ | ⟨x, t, rfl, rfl⟩ <;> rfl
  pyHash := fun hv h => by
    rcases keyIs_shape hv with ⟨i, t, rfl, rfl⟩ | ⟨x, t, rfl, rfl⟩
    · exact wpAny_pyHash_int h
    · exact wpAny_pyHash_str h
  eqBool := fun hu hv h => by
    rcases keyIs_shape hu with ⟨i, t, rfl, rfl⟩ | ⟨x, t, rfl, rfl⟩
    · rcases keyIs_shape hv with ⟨j, u, rfl, rfl⟩ | ⟨y, u, rfl, rfl⟩
      · rw [key_ll] at h; exact wpAny_eqBool_int h
      · rw [key_lr] at h; exact SeqAt.EqAt.int_str i t y u _ _ _ _ h
    · rcases keyIs_shape hv with ⟨j, u, rfl, rfl⟩ | ⟨y, u, rfl, rfl⟩
      · rw [key_rl] at h; exact SeqAt.EqAt.str_int x t j u _ _ _ _ h
      · rw [key_rr] at h; exact wpAny_eqBool_str h
  «strs» := fun k x t v h => by
    rcases keyIs_shape h with ⟨i, u, rfl, e⟩ | ⟨y, u, rfl, e⟩
    · exact nomatch e
    · injection e with e1 _
      subst e1
      cases v <;> rfl
end L2
namespace L2
open PySem PySem.Spec PyProof.Rows
inductive V where
  | non | bl (b : Bool) | int (i : Int) | str (x : Str) | byt (b : Array UInt8) | flt (b : UInt64) | ref (a : Addr) | ty (n : String)
  deriving DecidableEq
def RelV : V → Value → Prop
  | .non, u => u = Value.none
  | .bl b, u => u = Value.bool b
  | .int i, u => ∃ t, u = Value.int i t
  | .str x, u => ∃ t, u = Value.str x t
  | .byt b, u => ∃ t, u = Value.bytes b t
  | .flt b, u => ∃ t, u = Value.float b t
  | .ref a, u => u = Value.ref a
  | .ty n, u => u = Value.type n
abbrev Vals : List V → List Value → Prop := Paired RelV
theorem Vals.length {xs : List V} {us : List Value} (r : Vals xs us) : xs.length = us.length := Paired.length r
theorem Vals.get : ∀ {xs : List V} {us : List Value} {i : Nat} {x : V}, Vals xs us → xs[i]? = some x → ∃ u, us[i]? = some u ∧ RelV x u
  | _, _, _, _, .nil, e => by simp at e
  | _, _, 0, _, .cons r _, e => by simp at e; subst e; exact ⟨_, rfl, r⟩
  | _, _, i + 1, x, .cons _ t, e => by
    obtain ⟨u, h1, h2⟩ := Vals.get (i := i) (x := x) t (by simpa using e)
    exact ⟨u, by simpa using h1, h2⟩
theorem Vals.set {x : V} {u : Value} (r : RelV x u) : ∀ {xs : List V} {us : List Value} (i : Nat), Vals xs us → Vals (xs.set i x) (us.set i u)
  | _, _, _, .nil => .nil
  | _, _, 0, .cons _ t => .cons r t
  | _, _, i + 1, .cons q t => .cons q (Vals.set r i t)
theorem Vals.append : ∀ {xs ys : List V} {us ws : List Value}, Vals xs us → Vals ys ws → Vals (xs ++ ys) (us ++ ws)
  | _, _, _, _, .nil, s => s
  | _, _, _, _, .cons r t, s => .cons r (Vals.append t s)
theorem Vals.take : ∀ {xs : List V} {us : List Value} (n : Nat), Vals xs us → Vals (xs.take n) (us.take n)
  | _, _, 0, _ => .nil
  | _, _, _ + 1, .nil => .nil
  | _, _, n + 1, .cons r t => .cons r (Vals.take n t)
theorem Vals.drop : ∀ {xs : List V} {us : List Value} (n : Nat), Vals xs us → Vals (xs.drop n) (us.drop n)
  | _, _, 0, r => r
  | _, _, _ + 1, .nil => .nil
  | _, _, n + 1, .cons _ t => Vals.drop n t
def RelO : Option V → Option Value → Prop
  | some v, some u => RelV v u
  | none, none => True
  | _, _ => False
def KV {κ : Type} : List (κ × V) → List (κ × Value) → Prop := Paired fun (p : κ × V) (q : κ × Value) => p.1 = q.1 ∧ RelV p.2 q.2
inductive HO where
  /-- a list -/
  | lst (xs : List V)
  /-- a tuple (never changes) -/
  | tup (xs : List V)
  /-- a dict whose keys are ints and texts; one whose keys are tuples of ints and texts (the empty one is both) -/
  | dK (kvs : List (Key × V)) | dT (kvs : List (List Key × V))
  /-- a set of ints: its members, its size -/
  | set (S : Int → Bool) (n : Nat)
  /-- an instance of the class at C, its dict at dx, its attributes -/
  | ins (C dx : Addr) (fs : List (Str × V))
  /-- the dict of the instance at x -/
  | own (x : Addr)
  /-- the dict of an exception -/
  | xd (fs : List (Str × V))
  /-- a bound method, f of x -/
  | met (f x : Addr)
  /-- a range object lo, lo + 1, .. below hi -/
  | rng (lo hi : Int)
  /-- a thing that is known to the object (the script; a dict while a loop walks it): read, never written while it is so -/
  | frz (o : Obj) (u : HO)
  /-- a code object's table -/
  | tbl (ps : Array Value)
  /-- any other thing, by what is true of its one object (a def of one's own: SetO a S n := HO.ext fun h => ..) -/
  | ext (φ : Heap → Prop)
abbrev Hp := Addr → Option HO
def upd (H : Hp) (a : Addr) (o : HO) : Hp := fun b => if b = a then some o else H b
theorem upd_same {H : Hp} {a : Addr} {o : HO} : upd H a o a = some o := by unfold upd; rw [if_pos rfl]
theorem upd_ne {H : Hp} {a b : Addr} {o : HO} (h : b ≠ a) : upd H a o b = H b := by unfold upd; rw [if_neg h]
theorem ne_of {H : Hp} {a b : Addr} {o u : HO} (h : H a = some o) (h' : H b = some u) (d : o ≠ u) : a ≠ b := by
  intro e; subst e; rw [h] at h'; exact d (Option.some.inj h')
theorem ne_of_none {H : Hp} {a b : Addr} {o : HO} (h : H a = some o) (h' : H b = none) : a ≠ b := by
  intro e; subst e; rw [h] at h'; cases h'
section
variable (P : Program) (w : World)
def ObjOk (H : Hp) (h : Heap) (a : Addr) : HO → Prop
  | .lst xs => xs.length ≤ sizeLine ∧ ∃ (its : List Value) (n : Nat), Vals xs its ∧ h.get? a = some { cls := .type "list", data := .seq its.toArray n }
  | .tup xs => xs.length ≤ sizeLine ∧ ∃ its : List Value, Vals xs its ∧ IsTup h a its.toArray
  | .dK kvs => kvs.length ≤ sizeLine ∧ (a == sysModules) = false ∧ ∃ vs, KV kvs vs ∧ h.DictOf (mixKind P w) a vs
  | .dT _ => False
  | .set S n => h.SetOf (intKind P w) a S n
  | .ins C dx fs => H dx = some (.own a) ∧ fs.length ≤ 1000 ∧ dx ≠ a ∧ h.get? a = some (PySem.W.instObj C dx) ∧
      ∃ mA, h.Ns1 dx mA ∧ (∀ f, RelO (fs.lookup f) (mA f)) ∧ PySem.Within mA (fs.map (·.1))
  | .own _ => ∃ o, h.get? a = some o
  | .xd fs => ∃ mA, h.Ns1 a mA ∧ ∀ f, RelO (fs.lookup f) (mA f)
  | .rng lo hi => ∃ t u v, h.get? a = some { cls := .type "range", data := .fields #[.int lo t, .int hi u, .int 1 v] }
  | .frz o u => h.get? a = some o ∧ ObjOk H h a u
  | .tbl ps => h.get? a = some { cls := .none, data := .fields ps }
  | .met f x => h.get? a = some (PySem.W.methodObj (.ref f) (.ref x))
  | .ext φ => φ h ∧ (∃ o, h.get? a = some o) ∧ ∀ h1 h2 : Heap, φ h1 → (∀ o, h1.get? a = some o → h2.get? a = some o) → φ h2
def HOk (H : Hp) (h : Heap) : Prop := ∀ a o, H a = some o → ObjOk P w H h a o
end
section
variable {P : Program} {w : World} {H H' : Hp} {h h' : Heap} {a : Addr} {o : HO}
theorem ObjOk.lt (x : ObjOk P w H h a o) : a < h.objs.size := by
  cases o with
  | lst xs => obtain ⟨_, _, _, _, e⟩ := x; exact Heap.lt_size e
  | tup xs => obtain ⟨_, _, _, p⟩ := x; exact p.lt
  | dK kvs => obtain ⟨_, _, _, _, o, _, _, e, _⟩ := x; exact Heap.lt_size e
  | dT kvs => exact False.elim x
  | set S n => obtain ⟨o, _, _, _, e, _⟩ := x; exact Heap.lt_size e
  | ins C dx fs => obtain ⟨_, _, _, e, _⟩ := x; exact Heap.lt_size e
  | own y => obtain ⟨_, e⟩ := x; exact Heap.lt_size e
  | xd fs => obtain ⟨_, ⟨_, _, _, e, _⟩, _⟩ := x; exact Heap.lt_size e
  | rng lo hi => obtain ⟨_, _, _, e⟩ := x; exact Heap.lt_size e
  | frz ob u => obtain ⟨e, _⟩ := x; exact Heap.lt_size e
  | tbl ps => exact Heap.lt_size (show h.get? a = some _ from x)
  | met f y => exact Heap.lt_size (show h.get? a = some _ from x)
  | ext φ => obtain ⟨_, ⟨_, e⟩, _⟩ := x; exact Heap.lt_size e
theorem ObjOk.stay (x : ObjOk P w H h a o) (k : ∀ b u, (b = a ∨ H b = some (.own a)) → h.get? b = some u → h'.get? b = some u)
    (ho : ∀ b, H b = some (.own a) → H' b = some (.own a)) (ht : ∀ b xs, H b = some (.tup xs) → H' b = some (.tup xs)) : ObjOk P w H' h' a o := by
  induction o with
  | lst xs => obtain ⟨z, its, n, r, e⟩ := x; exact ⟨z, its, n, r, k _ _ (.inl rfl) e⟩
  | tup xs => obtain ⟨z, its, r, ob, e, c⟩ := x; exact ⟨z, its, r, ob, k _ _ (.inl rfl) e, c⟩
  | dK kvs => obtain ⟨z, y, vs, r, ob, es, ep, e, c⟩ := x; exact ⟨z, y, vs, r, ob, es, ep, k _ _ (.inl rfl) e, c⟩
  | dT kvs => exact False.elim x
  | set S n => obtain ⟨ob, es, ep, t, e, c⟩ := x; exact ⟨ob, es, ep, t, k _ _ (.inl rfl) e, c⟩
  | ins C dx fs =>
    obtain ⟨d, z, ne, e, mA, ⟨od, es, ep, e2, c⟩, r⟩ := x
    exact ⟨ho _ d, z, ne, k _ _ (.inl rfl) e, mA, ⟨od, es, ep, k _ _ (.inr d) e2, c⟩, r⟩
  | own y => obtain ⟨ob, e⟩ := x; exact ⟨ob, k _ _ (.inl rfl) e⟩
  | xd fs => obtain ⟨mA, ⟨od, es, ep, e, c⟩, r⟩ := x; exact ⟨mA, ⟨od, es, ep, k _ _ (.inl rfl) e, c⟩, r⟩
  | rng lo hi => obtain ⟨t, u, v, e⟩ := x; exact ⟨t, u, v, k _ _ (.inl rfl) e⟩
  | frz ob u ih => obtain ⟨e, q⟩ := x; exact ⟨k _ _ (.inl rfl) e, ih q⟩
  | tbl ps =>
    have e : h.get? a = some { cls := .none, data := .fields ps } := x
    show h'.get? a = some { cls := .none, data := .fields ps }
    exact k a _ (.inl rfl) e
  | met f y =>
    have e : h.get? a = some (PySem.W.methodObj (.ref f) (.ref y)) := x
    show h'.get? a = some (PySem.W.methodObj (.ref f) (.ref y))
    exact k a _ (.inl rfl) e
  | ext φ => obtain ⟨p, ⟨o, e⟩, st⟩ := x; exact ⟨st _ _ p fun o q => k _ _ (.inl rfl) q, ⟨o, k _ _ (.inl rfl) e⟩, st⟩
theorem HOk.lt (x : HOk P w H h) (e : H a = some o) : a < h.objs.size := (x a o e).lt
theorem HOk.fresh (x : HOk P w H h) (e : h.objs.size ≤ a) : H a = none := by
  cases q : H a with
  | none => rfl
  | some u => exact absurd (Nat.lt_of_lt_of_le (x.lt q) e) (Nat.lt_irrefl _)
theorem HOk.kept (x : HOk P w H h) (k : ∀ b u, h.get? b = some u → h'.get? b = some u) : HOk P w H h' := fun a o e =>
  (x a o e).stay (fun b u _ q => k b u q) (fun _ q => q) fun _ _ q => q
theorem HOk.laid (x : HOk P w H h) (k : ∀ b u, h.get? b = some u → h'.get? b = some u) (hp : h.objs.size ≤ a) (new : ObjOk P w (upd H a o) h' a o) : HOk P w (upd H a o) h' := fun b u e => by
  have hn := x.fresh hp
  by_cases hb : b = a
  · subst hb; rw [upd_same] at e; cases e; exact new
  · rw [upd_ne hb] at e
    exact (x b u e).stay (fun c v _ q => k c v q) (fun c q => by rw [upd_ne (ne_of_none q hn)]; exact q) fun c xs q => by rw [upd_ne (ne_of_none q hn)]; exact q
end
def Rd (H : Hp) (a : Addr) (u : HO) : Prop := H a = some u ∨ ∃ o, H a = some (.frz o u)
theorem Rd.ok {P : Program} {w : World} {H : Hp} {h : Heap} {a : Addr} {u : HO} (r : Rd H a u) (x : HOk P w H h) : ObjOk P w H h a u := by
  rcases r with r | ⟨o, r⟩
  · exact x a u r
  · obtain ⟨_, q⟩ := x a _ r
    exact q
def Mut : Option HO → Prop
  | some (.lst _) => True
  | some (.dK _) => True
  | some (.dT _) => True
  | some (.set _ _) => True
  | some (.ins _ _ _) => True
  | some (.ext _) => True
  | _ => False
section
variable {P : Program} {w : World} {H : Hp} {h h' : Heap} {x e : Addr} {o' : HO}
theorem HOk.write (ok : HOk P w H h) (mu : Mut (H x)) (he : e = x ∨ H e = some (.own x)) (k : ∀ b u, b ≠ e → h.get? b = some u → h'.get? b = some u) (heo : ∃ u, h'.get? e = some u)
    (new : ObjOk P w (upd H x o') h' x o') : HOk P w (upd H x o') h' := fun b u q => by
  have nown : ∀ c y, H c = some (.own y) → c ≠ x := fun c y r z => by subst z; rw [r] at mu; exact mu
  have ntup : ∀ c xs, H c = some (.tup xs) → c ≠ x := fun c xs r z => by subst z; rw [r] at mu; exact mu
  by_cases hb : b = x
  · subst hb; rw [upd_same] at q; cases q; exact new
  · rw [upd_ne hb] at q
    by_cases hbe : b = e
    · have q' : H b = some (.own x) := by
        rcases he with z | z
        · exact absurd (hbe.trans z) hb
        · rw [hbe]; exact z
      rw [q] at q'; cases q'
      obtain ⟨v, hv⟩ := heo
      exact ⟨v, by rw [hbe]; exact hv⟩
    · refine (ok b u q).stay (fun c v hc r => k c v ?_ r) (fun c r => by rw [upd_ne (nown c b r)]; exact r) fun c xs r => by rw [upd_ne (ntup c xs r)]; exact r
      rcases hc with rfl | hc
      · exact hbe
      · rintro rfl
        rcases he with z | z
        · exact nown c b hc z
        · rw [hc] at z; cases z; exact hb rfl
end
structure Un (fs ex : List Addr) (H H' : Hp) (h h' : Heap) : Prop where
  keep : ∀ b o, h.get? b = some o → H b = none → b ∉ fs → b ∉ ex → h'.get? b = some o
  slot : ∀ b o, h.get? b = some o → H b = none → b ∈ fs → b ∉ ex → ∃ sl, h'.get? b = some { o with slots := sl }
  free : ∀ b o, h.get? b = some o → H b = none → b ∉ ex → H' b = none
  there : ∀ b o, h.get? b = some o → b ∉ ex → ∃ o', h'.get? b = some o'
  tups : ∀ b xs, H b = some (.tup xs) → H' b = some (.tup xs)
  frzs : ∀ b o u, H b = some (.frz o u) → H' b = some (.frz o u)
  tbls : ∀ b ps, H b = some (.tbl ps) → ∃ more, H' b = some (.tbl (ps ++ more))
section
variable {fs fs' ex ex' : List Addr} {H H1 H2 : Hp} {h h1 h2 h' : Heap} {a x e : Addr} {o : HO}
theorem Un.any (u : Un fs ex H H1 h h1) {b : Addr} {ob : Obj} (q : h.get? b = some ob) (n : H b = none) (hx : b ∉ ex) : ∃ sl, h1.get? b = some { ob with slots := sl } := by
  by_cases hb : b ∈ fs
  · exact u.slot b ob q n hb hx
  · exact ⟨ob.slots, u.keep b ob q n hb hx⟩
theorem Un.kept (k : ∀ b u, h.get? b = some u → h'.get? b = some u) : Un fs ex H H h h' :=
  ⟨fun b ob q _ _ _ => k b ob q, fun b ob q _ _ _ => ⟨ob.slots, k b ob q⟩, fun _ _ _ n _ => n, fun b ob q _ => ⟨ob, k b ob q⟩, fun _ _ q => q, fun _ _ _ q => q, fun _ ps q => ⟨#[], by rw [q]; simp⟩⟩
theorem Un.refl : Un fs ex H H h h := Un.kept fun _ _ q => q
theorem Un.laid (k : ∀ b u, h.get? b = some u → h'.get? b = some u) (hp : h.objs.size ≤ a) (hn : H a = none) : Un fs ex H (upd H a o) h h' where
  keep := fun b u q _ _ _ => k b u q
  slot := fun b u q _ _ _ => ⟨u.slots, k b u q⟩
  free := fun b u q n _ => by rw [upd_ne (Nat.ne_of_lt (Nat.lt_of_lt_of_le (Heap.lt_size q) hp))]; exact n
  there := fun b u q _ => ⟨u, k b u q⟩
  tups := fun b xs q => by rw [upd_ne (ne_of_none q hn)]; exact q
  frzs := fun b u xs q => by rw [upd_ne (ne_of_none q hn)]; exact q
  tbls := fun b ps q => ⟨#[], by rw [upd_ne (ne_of_none q hn), q]; simp⟩
theorem Un.write (mu : Mut (H x)) (he : e = x ∨ H e = some (.own x)) (k : ∀ b u, b ≠ e → h.get? b = some u → h'.get? b = some u) (heo : ∃ u, h'.get? e = some u) : Un fs ex H (upd H x o) h h' := by
  have hx : ∀ b, H b = none → b ≠ x := fun b n z => by subst z; rw [n] at mu; exact mu
  have hb : ∀ b, H b = none → b ≠ e := fun b n z => by
    subst z
    rcases he with r | r
    · exact hx b n r
    · rw [n] at r; cases r
  have hm : ∀ b u, H b = some u → ¬ Mut (some u) → b ≠ x := fun b u q nm z => by subst z; rw [q] at mu; exact nm mu
  refine ⟨fun b u q n _ _ => k b u (hb b n) q, fun b u q n _ _ => ⟨u.slots, k b u (hb b n) q⟩, fun b u q n _ => by rw [upd_ne (hx b n)]; exact n, fun b u q _ => ?_,
    fun b xs q => by rw [upd_ne (hm b _ q fun z => z)]; exact q, fun b u xs q => by rw [upd_ne (hm b _ q fun z => z)]; exact q, fun b ps q => ⟨#[], by rw [upd_ne (hm b _ q fun z => z), q]; simp⟩⟩
  by_cases hbe : b = e
  · subst hbe; exact heo
  · exact ⟨u, k b u hbe q⟩
end
def trk (h : Heap) (H : Hp) : List Addr := (List.range h.objs.size).filter fun a => (H a).isSome
def hidT (h : Heap) (H : Hp) : Heap := PySem.W.hideAll h (trk h H)
theorem hidT_size (h : Heap) (H : Hp) : (hidT h H).objs.size = h.objs.size := PySem.W.hideAll_size _ _
theorem hidT_get {h : Heap} {H : Hp} {b : Addr} {o : Obj} (e : h.get? b = some o) (n : H b = none) : (hidT h H).get? b = some o :=
  PySem.W.hideAll_get _ e fun hm => by
    have q : (H b).isSome = true := (List.mem_filter.mp hm).2
    rw [n] at q; simp at q
theorem of_hidT {h : Heap} {H : Hp} {b : Addr} {o : Obj} (e : (hidT h H).get? b = some o) : h.get? b = some o ∧ H b = none := by
  have e' : h.get? b = some o := PySem.W.of_hideAll (trk h H) e
  refine ⟨e', ?_⟩
  cases q : H b with
  | none => rfl
  | some x =>
    have hm : b ∈ trk h H := List.mem_filter.mpr ⟨List.mem_range.mpr (Heap.lt_size e'), by simp [q]⟩
    have z : (hidT h H).get? b = none := PySem.W.hideAll_none (trk h H) hm
    rw [z] at e; cases e
end L2
namespace L2
open PySem PySem.Spec PyProof.Rows
structure Mod (K : PySem.W.Frag) (mg : Str → Option Value) (base : Heap) : Prop where
  kin : K.In base
  glob : base.Ns mainGlobals mg
  blt : ∃ mb, base.Ns builtinsNs mb ∧ ∀ x : Str, x ≠ "__name__" → mb x = bootBuiltins x
  nolimit : base.NoLimit
structure Cx where
  prog : Program
  w : World
  K : PySem.W.Frag
  mg : Str → Option Value
  base : Heap
  A : Around
  N : List Str
  s₀ : Shared
  H₀ : Hp
  env : Env
  outer : List Env
  stack : List Env
  ex : List Addr
  fn : Str → Bool
  calm : Bool
  pn : List (Addr × Obj)
  xe : Value → Shared → Prop
def frs (l : List Env) : List Addr := l.filterMap (·.frame)
abbrev Cx.fs (X : Cx) : List Addr := frs X.outer
def Vis (sc : Scope) (x : Str) : Prop := sc.names.lookup x = some .local ∨ sc.names.lookup x = some .cell ∨ sc.names.lookup x = some .free
def Loc (sc : Scope) (x : Str) : Prop := sc.names.lookup x = some .local ∨ sc.names.lookup x = some .cell
def Look (env : Env) (h : Heap) (m : Str → Option Value) (x : Str) (u : Value) : Prop :=
  (env.kindOf x = some .local ∧ m x = some u) ∨ ((env.kindOf x = some .cell ∨ env.kindOf x = some .free) ∧ ∃ c, env.cells.lookup x = some c ∧ h.IsCell c (some u))
structure Cx.Ok (X : Cx) : Prop where
  mod : Mod X.K X.mg X.base
  kind : X.env.scope.kind = .function
  glob : X.env.globals = mainGlobals
  blt : X.env.builtins = builtinsNs
  above : X.s₀.heap.objs.size ≤ X.env.locals
  inj : ∀ x y c, X.env.cells.lookup x = some c → X.env.cells.lookup y = some c → x = y
  has : ∀ x, (X.env.kindOf x = some .cell ∨ X.env.kindOf x = some .free) → ∃ c, X.env.cells.lookup x = some c
  cab : ∀ x c, X.fn x = true → X.env.cells.lookup x = some c → X.s₀.heap.objs.size ≤ c
  hd : X.calm = true → X.A.handled = none
  frames : X.A.frames = some X.stack
  stk : X.stack = X.outer ∨ (X.stack = X.env :: X.outer ∧ X.env.frame = some X.env.locals)
  exf : ∀ b ∈ X.ex, b ≠ X.env.locals ∧ ∀ x c, X.env.cells.lookup x = some c → c ≠ b
  bs : ∀ b o, X.base.get? b = some o → X.s₀.heap.get? b = some o ∧ X.H₀ b = none
  bsz : X.base.objs.size ≤ X.s₀.heap.objs.size
  noex : ∀ b o, X.base.get? b = some o → b ∉ X.ex
  exfs : ∀ b ∈ X.ex, b ∉ X.fs
  funs : X.s₀.heap.FunFrames X.base X.outer
  frf : ∀ b ∈ X.fs, X.H₀ b = none
structure Inv (X : Cx) (pins : List (Addr × Obj)) (σ : List (Option V)) (H : Hp) (s : Shared) : Prop where
  ok : X.Ok
  os : s.os = X.s₀.os
  bare : AllBare s.gens
  base : Un X.fs X.ex X.H₀ H X.s₀.heap s.heap
  loc : ∃ m, s.heap.Ns X.env.locals m ∧ ∀ (i : Nat) (x : Str) (v : V), X.N[i]? = some x → σ[i]? = some (some v) → Vis X.env.scope x → ∃ u, RelV v u ∧ Look X.env s.heap m x u
  cell : ∀ x c, X.env.cells.lookup x = some c → ∃ v, s.heap.IsCell c v
  free : H X.env.locals = none
  freeC : ∀ x c, X.env.cells.lookup x = some c → H c = none
  pin : ∀ p ∈ X.pn ++ pins, s.heap.get? p.1 = some p.2 ∧ H p.1 = none ∧ p.1 ≠ X.env.locals ∧ p.1 ∉ X.fs ∧ ∀ v, p.2.data ≠ .cell v
  hok : HOk X.prog X.w H s.heap
  len : σ.length = X.N.length
section
variable {X : Cx} {pins : List (Addr × Obj)} {σ : List (Option V)} {H H' : Hp} {s : Shared} {h' : Heap}
theorem Cx.Ok.nofr (ok : X.Ok) {b : Addr} {o : Obj} (e : X.base.get? b = some o) : b ∉ X.fs := fun hb => by
  have := (ok.funs.mem hb).1
  rw [e] at this; cases this
theorem Inv.bs (I : Inv X pins σ H s) : ∀ b o, X.base.get? b = some o → s.heap.get? b = some o ∧ H b = none := fun b o e =>
  ⟨I.base.keep b o (I.ok.bs b o e).1 (I.ok.bs b o e).2 (I.ok.nofr e) (I.ok.noex b o e), I.base.free b o (I.ok.bs b o e).1 (I.ok.bs b o e).2 (I.ok.noex b o e)⟩
theorem Inv.bk (I : Inv X pins σ H s) : ∀ b o, X.base.get? b = some o → s.heap.get? b = some o := fun b o e => (I.bs b o e).1
theorem Inv.mod (I : Inv X pins σ H s) : Mod X.K X.mg X.base := I.ok.mod
theorem Inv.kIn (I : Inv X pins σ H s) : X.K.In s.heap := I.ok.mod.kin.keeps I.bk
theorem Inv.lt (I : Inv X pins σ H s) : X.env.locals < s.heap.objs.size := let ⟨_, hn, _⟩ := I.loc; hn.lt
theorem Inv.sz (I : Inv X pins σ H s) : X.s₀.heap.objs.size ≤ s.heap.objs.size := Nat.le_trans I.ok.above (Nat.le_of_lt I.lt)
theorem Inv.nofs (I : Inv X pins σ H s) {a : Addr} (h : s.heap.objs.size ≤ a) : a ∉ X.fs := fun hb => by
  obtain ⟨_, o, ho, _⟩ := I.ok.funs.mem hb
  exact absurd (Nat.lt_of_lt_of_le (Heap.lt_size ho) (Nat.le_trans I.sz h)) (Nat.lt_irrefl _)
theorem Inv.cne (I : Inv X pins σ H s) : ∀ x c, X.env.cells.lookup x = some c → c ≠ X.env.locals := fun x c e z => by
  obtain ⟨v, o, ho, hd⟩ := I.cell x c e
  obtain ⟨m, ⟨o', es, ep, ho', hd', _⟩, _⟩ := I.loc
  rw [z, ho'] at ho; cases ho; rw [hd'] at hd; cases hd
theorem Inv.funs (I : Inv X pins σ H s) : s.heap.FunFrames X.base X.outer := by
  have all : ∀ (l : List Env), (∀ b ∈ frs l, b ∈ X.fs) → X.s₀.heap.FunFrames X.base l → s.heap.FunFrames X.base l := by
    intro l
    induction l with
    | nil => intro _ _; trivial
    | cons env r ih =>
      intro hs hl
      obtain ⟨hk, ⟨L, o, hf, hn, ho, hd⟩, hr⟩ := hl
      have hL : L ∈ X.fs := hs L (by unfold frs; rw [List.filterMap_cons, hf]; exact List.mem_cons_self)
      obtain ⟨sl, e⟩ := I.base.slot L o ho (I.ok.frf L hL) hL fun z => I.ok.exfs L z hL
      exact ⟨hk, ⟨L, _, hf, hn, e, hd⟩, ih (fun b hb => hs b (by unfold frs; rw [List.filterMap_cons, hf]; exact List.mem_cons_of_mem _ hb)) hr⟩
  exact all X.outer (fun _ hb => hb) I.ok.funs
theorem Inv.stack (I : Inv X pins σ H s) : s.heap.FunFrames X.base X.stack := by
  rcases I.ok.stk with e | ⟨e, hf⟩
  · rw [e]; exact I.funs
  · rw [e]
    obtain ⟨m, hn, _⟩ := I.loc
    refine .cons (by rw [I.ok.kind]; decide) hf hn ?_ I.funs
    exact Heap.get?_none_of_le (Nat.le_trans I.ok.bsz I.ok.above)
theorem Inv.stkSub (I : Inv X pins σ H s) : ∀ b ∈ frs X.stack, b ∈ X.env.locals :: X.fs := fun b hb => by
  rcases I.ok.stk with e | ⟨e, hf⟩
  · rw [e] at hb; exact List.mem_cons_of_mem _ hb
  · rw [e] at hb
    unfold frs at hb
    rw [List.filterMap_cons, hf] at hb
    exact hb
theorem Inv.stkFree (I : Inv X pins σ H s) : ∀ b ∈ frs X.stack, H b = none := fun b hb => by
  rcases List.mem_cons.mp (I.stkSub b hb) with e | hb
  · rw [e]; exact I.free
  · obtain ⟨_, o, ho, _⟩ := I.ok.funs.mem hb
    exact I.base.free b o ho (I.ok.frf b hb) fun z => I.ok.exfs b z hb
theorem Inv.step {g' : Array GenState} {t' : Nat} {d' : Drawn} {ch : List Addr} (I : Inv X pins σ H s)
    (hch : ∀ b ∈ ch, (b ∈ X.ex ∨ X.s₀.heap.objs.size ≤ b) ∧ b ≠ X.env.locals ∧ (∀ x c, X.env.cells.lookup x = some c → c ≠ b) ∧ ∀ p ∈ X.pn ++ pins, p.1 ≠ b)
    (keep : ∀ b o, b ≠ X.env.locals → b ∉ X.fs → b ∉ ch → s.heap.get? b = some o → H b = none → h'.get? b = some o)
    (slot : ∀ b o, b ≠ X.env.locals → b ∈ X.fs → b ∉ ch → s.heap.get? b = some o → H b = none → ∃ sl, h'.get? b = some { o with slots := sl }) (free : ∀ b o, b ∉ ch → s.heap.get? b = some o → H b = none → H' b = none)
    (there : ∀ b o, b ∉ ch → s.heap.get? b = some o → ∃ o', h'.get? b = some o')
    (tups : ∀ b xs, H b = some (.tup xs) → H' b = some (.tup xs)) (frzs : ∀ b o u, H b = some (.frz o u) → H' b = some (.frz o u)) (tbls : ∀ b ps, H b = some (.tbl ps) → ∃ more, H' b = some (.tbl (ps ++ more)))
    (ns : ∀ m, s.heap.Ns X.env.locals m → h'.Ns X.env.locals m) (hok : HOk X.prog X.w H' h') (hg : AllBare g') :
    Inv X pins σ H' { s with heap := h', gens := g', drawn := d', toks := t' } := by
  have neL : ∀ b o, X.s₀.heap.get? b = some o → b ≠ X.env.locals := fun b o e => Nat.ne_of_lt (Nat.lt_of_lt_of_le (Heap.lt_size e) I.ok.above)
  have neC : ∀ b o, X.s₀.heap.get? b = some o → b ∉ X.ex → b ∉ ch := fun b o e hx hb => by
    rcases (hch b hb).1 with z | z
    · exact hx z
    · exact absurd (Nat.lt_of_lt_of_le (Heap.lt_size e) z) (Nat.lt_irrefl _)
  have cellK : ∀ x c, X.env.cells.lookup x = some c → ∀ v, s.heap.IsCell c v → h'.IsCell c v := fun x c e v ⟨o, ho, hd⟩ => by
    have nch : c ∉ ch := fun z => (hch c z).2.2.1 x c e rfl
    by_cases hc : c ∈ X.fs
    · obtain ⟨sl, q⟩ := slot c o (I.cne x c e) hc nch ho (I.freeC x c e)
      exact ⟨_, q, hd⟩
    · exact ⟨o, keep c o (I.cne x c e) hc nch ho (I.freeC x c e), hd⟩
  refine ⟨I.ok, I.os, hg, ⟨fun b o e n hb hx => ?_, fun b o e n hb hx => ?_, fun b o e n hx => ?_, fun b o e hx => ?_, fun b xs e => tups b xs (I.base.tups b xs e), fun b o xs e => frzs b o xs (I.base.frzs b o xs e), fun b ps e => ?_⟩, ?_, fun x c e => ?_, ?_, fun x c e => ?_, fun p hp => ?_, hok, I.len⟩
  · exact keep b o (neL b o e) hb (neC b o e hx) (I.base.keep b o e n hb hx) (I.base.free b o e n hx)
  · obtain ⟨sl, e1⟩ := I.base.slot b o e n hb hx
    obtain ⟨sl', e2⟩ := slot b _ (neL b o e) hb (neC b o e hx) e1 (I.base.free b o e n hx)
    exact ⟨sl', e2⟩
  · obtain ⟨o', e1⟩ := I.base.there b o e hx
    exact free b o' (neC b o e hx) e1 (I.base.free b o e n hx)
  · obtain ⟨o', e1⟩ := I.base.there b o e hx
    exact there b o' (neC b o e hx) e1
  · obtain ⟨m1, e1⟩ := I.base.tbls b ps e
    obtain ⟨m2, e2⟩ := tbls b _ e1
    exact ⟨m1 ++ m2, by rw [e2, Array.append_assoc]⟩
  · obtain ⟨m, hn, hl⟩ := I.loc
    refine ⟨m, ns m hn, fun i x v e1 e2 e3 => ?_⟩
    obtain ⟨u, r, l⟩ := hl i x v e1 e2 e3
    refine ⟨u, r, ?_⟩
    rcases l with l | ⟨k, c, e, z⟩
    · exact .inl l
    · exact .inr ⟨k, c, e, cellK x c e _ z⟩
  · obtain ⟨v, z⟩ := I.cell x c e
    exact ⟨v, cellK x c e v z⟩
  · obtain ⟨m, ⟨o, _, _, ho, _⟩, _⟩ := I.loc
    exact free _ o (fun z => (hch _ z).2.1 rfl) ho I.free
  · obtain ⟨v, o, ho, hd⟩ := I.cell x c e
    exact free c o (fun z => (hch c z).2.2.1 x c e rfl) ho (I.freeC x c e)
  · obtain ⟨e, n, ne, nf, d⟩ := I.pin p hp
    have nch : p.1 ∉ ch := fun z => (hch p.1 z).2.2.2 p hp rfl
    exact ⟨keep p.1 p.2 ne nf nch e n, free p.1 p.2 nch e n, ne, nf, d⟩
theorem Inv.un {t' : Nat} (I : Inv X pins σ H s) (u : Un X.fs [] H H' s.heap h') (hok : HOk X.prog X.w H' h') : Inv X pins σ H' { s with heap := h', toks := t' } := by
  obtain ⟨m, ⟨o, es, ep, ho, r⟩, _⟩ := id I.loc
  obtain ⟨sl, hL⟩ := u.any ho I.free (by simp)
  exact I.step (g' := s.gens) (d' := s.drawn) (ch := []) (fun _ z => nomatch z) (fun b o _ hb _ e n => u.keep b o e n hb (by simp)) (fun b o _ hb _ e n => u.slot b o e n hb (by simp)) (fun b o _ e n => u.free b o e n (by simp)) (fun b o _ e => u.there b o e (by simp)) u.tups u.frzs u.tbls (fun m' hm => by
    obtain ⟨o', es', ep', ho', r'⟩ := hm
    rw [ho] at ho'; cases ho'
    exact ⟨_, es', ep', hL, r'⟩) hok I.bare
theorem Inv.call {g' : Array GenState} {t' : Nat} {d' : Drawn} {ch : List Addr} (I : Inv X pins σ H s) (u : Un (frs X.stack) ch H H' s.heap h') (hok : HOk X.prog X.w H' h') (hg : AllBare g')
    (hch : ∀ b ∈ ch, (b ∈ X.ex ∨ X.s₀.heap.objs.size ≤ b) ∧ b ≠ X.env.locals ∧ (∀ x c, X.env.cells.lookup x = some c → c ≠ b) ∧ ∀ p ∈ X.pn ++ pins, p.1 ≠ b) :
    Inv X pins σ H' { s with heap := h', gens := g', drawn := d', toks := t' } := by
  obtain ⟨m, ⟨o, es, ep, ho, r⟩, _⟩ := id I.loc
  obtain ⟨sl, hL⟩ := u.any ho I.free fun z => (hch _ z).2.1 rfl
  exact I.step (ch := ch) hch (fun b o hL hb hc e n => u.keep b o e n (fun z => (List.mem_cons.mp (I.stkSub b z)).elim hL hb) hc) (fun b o _ _ hc e n => u.any e n hc) (fun b o hc e n => u.free b o e n hc) (fun b o hc e => u.there b o e hc) u.tups u.frzs u.tbls (fun m' hm => by
    obtain ⟨o', es', ep', ho', r'⟩ := hm
    rw [ho] at ho'; cases ho'
    exact ⟨_, es', ep', hL, r'⟩) hok hg
theorem Inv.turned {t' : Nat} {it : Addr} (I : Inv X pins σ H s) (k : ∀ b o, b ≠ it → s.heap.get? b = some o → h'.get? b = some o) (hn : H it = none) (hL : it ≠ X.env.locals)
    (h1 : it ∈ X.ex ∨ X.s₀.heap.objs.size ≤ it) (h2 : ∀ x c, X.env.cells.lookup x = some c → c ≠ it) (h3 : ∀ p ∈ X.pn ++ pins, p.1 ≠ it) : Inv X pins σ H { s with heap := h', toks := t' } := by
  have nit : ∀ b u, H b = some u → b ≠ it := fun b u e z => by rw [z, hn] at e; cases e
  refine I.step (g' := s.gens) (d' := s.drawn) (ch := [it]) (fun b hb => ?_) (fun b o _ _ hc e _ => k b o (fun z => hc (by simp [z])) e) (fun b o _ _ hc e _ => ⟨o.slots, k b o (fun z => hc (by simp [z])) e⟩) (fun _ _ _ _ n => n)
    (fun b o hc e => ⟨o, k b o (fun z => hc (by simp [z])) e⟩) (fun _ _ e => e) (fun _ _ _ e => e) (fun b ps e => ⟨#[], by rw [e]; simp⟩) (fun m hm => ?_) (fun b u e => ?_) I.bare
  · have e : b = it := by simpa using hb
    subst e
    exact ⟨h1, hL, h2, h3⟩
  · obtain ⟨o, es, ep, ho, r⟩ := hm
    exact ⟨o, es, ep, k _ o (Ne.symm hL) ho, r⟩
  · refine (I.hok b u e).stay (fun c v hc q => k c v ?_ q) (fun _ q => q) fun _ _ q => q
    rcases hc with z | z
    · rw [z]; exact nit b u e
    · exact nit c _ z
theorem Inv.tok (I : Inv X pins σ H s) (t : Nat) : Inv X pins σ H { s with toks := t } := I.un (h' := s.heap) (t' := t) Un.refl I.hok
theorem Inv.kept {t' : Nat} (I : Inv X pins σ H s) (k : ∀ b u, s.heap.get? b = some u → h'.get? b = some u) : Inv X pins σ H { s with heap := h', toks := t' } := I.un (Un.kept k) (I.hok.kept k)
theorem Inv.laid {a : Addr} {o : HO} {t' : Nat} (I : Inv X pins σ H s) (k : ∀ b u, s.heap.get? b = some u → h'.get? b = some u) (hp : s.heap.objs.size ≤ a) (new : ObjOk X.prog X.w (upd H a o) h' a o) :
    Inv X pins σ (upd H a o) { s with heap := h', toks := t' } := I.un (Un.laid k hp (I.hok.fresh hp)) (I.hok.laid k hp new)
theorem Inv.write {x e : Addr} {o : HO} {t' : Nat} (I : Inv X pins σ H s) (mu : Mut (H x)) (he : e = x ∨ H e = some (.own x)) (k : ∀ b u, b ≠ e → s.heap.get? b = some u → h'.get? b = some u) (heo : ∃ u, h'.get? e = some u)
    (new : ObjOk X.prog X.w (upd H x o) h' x o) : Inv X pins σ (upd H x o) { s with heap := h', toks := t' } := I.un (Un.write mu he k heo) (I.hok.write mu he k heo new)
theorem Inv.pins_of {pins' : List (Addr × Obj)} (I : Inv X pins σ H s) (h : ∀ p ∈ pins', s.heap.get? p.1 = some p.2 ∧ H p.1 = none ∧ p.1 ≠ X.env.locals ∧ p.1 ∉ X.fs ∧ ∀ v, p.2.data ≠ .cell v) : Inv X pins' σ H s :=
  ⟨I.ok, I.os, I.bare, I.base, I.loc, I.cell, I.free, I.freeC, fun p hp => (List.mem_append.mp hp).elim (fun z => I.pin p (List.mem_append_left _ z)) (h p), I.hok, I.len⟩
theorem nodup_ix {N : List Str} (hN : N.Nodup) {i j : Nat} {x : Str} (a : N[i]? = some x) (b : N[j]? = some x) : i = j := by
  obtain ⟨h1, e1⟩ := List.getElem?_eq_some_iff.mp a
  obtain ⟨h2, e2⟩ := List.getElem?_eq_some_iff.mp b
  exact (List.getElem_inj hN).mp (e1.trans e2.symm)
theorem store_ok2 {M : Model} {A : Around} {E : Value → Shared → Prop} {i : Nat} {x : Str} {v : V} {u : Value} {Q : Unit → Shared → Prop} (I : Inv X pins σ H s) (hN : X.N.Nodup) (hi : X.N[i]? = some x) (hx : Loc X.env.scope x) (r : RelV v u)
    (h : ∀ s', Inv X pins (σ.set i (some v)) H s' → (∃ a, Heap.SameBut a s.heap s'.heap ∧ (a = X.env.locals ∨ X.env.cells.lookup x = some a)) → Q () s') (hf : X.fn x = true ∨ X.env.scope.names.lookup x = some .local := by first | exact .inl rfl | exact .inr rfl | assumption) : wpAny M A (storeName X.env x u) Q E s := by
  obtain ⟨m, hn, hl⟩ := id I.loc
  have hcls : (X.env.scope.kind == .class || (X.env.scope.kind == .module && X.env.locals != X.env.globals)) = false := by rw [I.ok.kind]; rfl
  have hiσ : i < σ.length := by rw [I.len]; exact (List.getElem?_eq_some_iff.mp hi).1
  have cne := I.cne
  have tracked : ∀ {a : Addr} {h' : Heap}, (∃ o, s.heap.get? a = some o ∧ H a = none) → Heap.SameBut a s.heap h' → HOk X.prog X.w H h' := fun {a h'} ha hs b ob e => by
    obtain ⟨_, _, hfree⟩ := ha
    refine (I.hok b ob e).stay (fun c w' hc q => (hs.2 c ?_).trans q) (fun _ q => q) fun _ _ q => q
    rintro rfl
    rcases hc with rfl | hc
    · rw [hfree] at e; cases e
    · rw [hfree] at hc; cases hc
  rcases hx with hk | hk
  · refine wpAny_storeName_local hk hn (fun h' hn' hs => ?_) hcls
    obtain ⟨oL, _, _, hoL, _⟩ := id hn
    refine h _ ⟨I.ok, I.os, I.bare, ⟨fun b o e n hb hx => ?_, fun b o e n hb hx => ?_, I.base.free, fun b o e hx => ?_, I.base.tups, I.base.frzs, I.base.tbls⟩, ⟨_, hn', fun j y v' e1 e2 e3 => ?_⟩, fun y c e => ?_, I.free, I.freeC, fun p hp => ?_, tracked ⟨oL, hoL, I.free⟩ hs, by simpa using I.len⟩ ⟨_, hs, .inl rfl⟩
    · exact (hs.2 b (Nat.ne_of_lt (Nat.lt_of_lt_of_le (Heap.lt_size e) I.ok.above))).trans (I.base.keep b o e n hb hx)
    · obtain ⟨sl, e1⟩ := I.base.slot b o e n hb hx
      exact ⟨sl, (hs.2 b (Nat.ne_of_lt (Nat.lt_of_lt_of_le (Heap.lt_size e) I.ok.above))).trans e1⟩
    · obtain ⟨o', e1⟩ := I.base.there b o e hx
      exact ⟨o', (hs.2 b (Nat.ne_of_lt (Nat.lt_of_lt_of_le (Heap.lt_size e) I.ok.above))).trans e1⟩
    · by_cases hj : j = i
      · subst hj
        rw [hi] at e1; cases e1
        rw [List.getElem?_set_self hiσ] at e2
        cases e2
        exact ⟨u, r, .inl ⟨hk, by simp⟩⟩
      · rw [List.getElem?_set_ne (Ne.symm hj)] at e2
        obtain ⟨u', r', q⟩ := hl j y v' e1 e2 e3
        refine ⟨u', r', ?_⟩
        rcases q with ⟨k, e⟩ | ⟨k, c, e, z⟩
        · refine .inl ⟨k, ?_⟩
          have : y ≠ x := fun e => hj (nodup_ix hN e1 (e ▸ hi))
          simp [this, e]
        · exact .inr ⟨k, c, e, z.sameBut hs (cne y c e)⟩
    · obtain ⟨w', z⟩ := I.cell y c e
      exact ⟨w', z.sameBut hs (cne y c e)⟩
    · obtain ⟨e, n, ne, nf, d⟩ := I.pin p hp
      exact ⟨(hs.2 p.1 ne).trans e, n, ne, nf, d⟩
  · have hfn : X.fn x = true := by
      rcases hf with z | z
      · exact z
      · rw [z] at hk; cases hk
    obtain ⟨c, hc⟩ := I.ok.has x (.inl hk)
    obtain ⟨w', z⟩ := I.cell x c hc
    refine wpAny_storeName_cell I.ok.kind hk hc z (fun h' hc' hs => ?_)
    obtain ⟨oc, hoc, hocd⟩ := id z
    refine h { s with heap := h' } ⟨I.ok, I.os, I.bare, ⟨fun b o e n hb hx => ?_, fun b o e n hb hx => ?_, I.base.free, fun b o e hx => ?_, I.base.tups, I.base.frzs, I.base.tbls⟩, ⟨m, hn.sameBut hs (Ne.symm (cne x c hc)), fun j y v' e1 e2 e3 => ?_⟩, fun y c' e => ?_, I.free, I.freeC, fun p hp => ?_, tracked ⟨oc, hoc, I.freeC x c hc⟩ hs, by simpa using I.len⟩ ⟨c, hs, .inr hc⟩
    · exact (hs.2 b (Nat.ne_of_lt (Nat.lt_of_lt_of_le (Heap.lt_size e) (I.ok.cab x c hfn hc)))).trans (I.base.keep b o e n hb hx)
    · obtain ⟨sl, e1⟩ := I.base.slot b o e n hb hx
      exact ⟨sl, (hs.2 b (Nat.ne_of_lt (Nat.lt_of_lt_of_le (Heap.lt_size e) (I.ok.cab x c hfn hc)))).trans e1⟩
    · obtain ⟨o', e1⟩ := I.base.there b o e hx
      exact ⟨o', (hs.2 b (Nat.ne_of_lt (Nat.lt_of_lt_of_le (Heap.lt_size e) (I.ok.cab x c hfn hc)))).trans e1⟩
    · by_cases hj : j = i
      · subst hj
        rw [hi] at e1; cases e1
        rw [List.getElem?_set_self hiσ] at e2
        cases e2
        exact ⟨u, r, .inr ⟨.inl hk, c, hc, hc'⟩⟩
      · rw [List.getElem?_set_ne (Ne.symm hj)] at e2
        obtain ⟨u', r', q⟩ := hl j y v' e1 e2 e3
        refine ⟨u', r', ?_⟩
        rcases q with q | ⟨k, c', e, z'⟩
        · exact .inl q
        · refine .inr ⟨k, c', e, z'.sameBut hs ?_⟩
          rintro rfl
          exact hj (nodup_ix hN e1 (I.ok.inj _ _ _ e hc ▸ hi))
    · by_cases hcc : c' = c
      · subst hcc; exact ⟨_, hc'⟩
      · obtain ⟨w2, z2⟩ := I.cell y c' e
        exact ⟨w2, z2.sameBut hs hcc⟩
    · obtain ⟨e, n, ne, nf, d⟩ := I.pin p hp
      refine ⟨(hs.2 p.1 ?_).trans e, n, ne, nf, d⟩
      intro q
      rw [q, hoc] at e
      have q' : oc = p.2 := Option.some.inj e
      exact d w' (by rw [← q']; exact hocd)
theorem store_ok {M : Model} {A : Around} {E : Value → Shared → Prop} {i : Nat} {x : Str} {v : V} {u : Value} {Q : Unit → Shared → Prop} (I : Inv X pins σ H s) (hN : X.N.Nodup) (hi : X.N[i]? = some x) (hx : Loc X.env.scope x) (r : RelV v u)
    (h : ∀ s', Inv X pins (σ.set i (some v)) H s' → Q () s') (hf : X.fn x = true ∨ X.env.scope.names.lookup x = some .local := by first | exact .inl rfl | exact .inr rfl | assumption) : wpAny M A (storeName X.env x u) Q E s :=
  store_ok2 I hN hi hx r (fun s' I' _ => h s' I') hf
theorem Inv.call' {s' : Shared} {ch : List Addr} (I : Inv X pins σ H s) (ho : s'.os = s.os) (u : Un (frs X.stack) ch H H' s.heap s'.heap) (hok : HOk X.prog X.w H' s'.heap) (hg : AllBare s'.gens)
    (hch : ∀ b ∈ ch, (b ∈ X.ex ∨ X.s₀.heap.objs.size ≤ b) ∧ b ≠ X.env.locals ∧ (∀ x c, X.env.cells.lookup x = some c → c ≠ b) ∧ ∀ p ∈ X.pn ++ pins, p.1 ≠ b) : Inv X pins σ H' s' := by
  obtain ⟨h', g', d', t', o'⟩ := s'
  have e : o' = s.os := ho
  subst e
  exact I.call (g' := g') (t' := t') (d' := d') u hok hg hch
end
abbrev XK := Value → Option Addr → Hp → Prop
abbrev St := List (Option V)
abbrev VK := V → Hp → Prop
abbrev TE := St → Hp → VK → Prop
abbrev TT := St → Hp → (Bool → Hp → Prop) → Prop
abbrev TA := St → Hp → (List V → Hp → Prop) → Prop
structure Ends where
  nx : St → Hp → Prop
  rt : VK
  bk : St → Hp → Prop := fun _ _ => False
  ct : St → Hp → Prop := fun _ _ => False
abbrev TS := Ends → St → Hp → Prop
def EP (X : Cx) (pins : List (Addr × Obj)) (σ : St) (Q : VK) (u : Value) (s' : Shared) : Prop := ∃ v H', Inv X pins σ H' s' ∧ RelV v u ∧ Q v H'
def TP (X : Cx) (pins : List (Addr × Obj)) (σ : St) (Q : Bool → Hp → Prop) (b : Bool) (s' : Shared) : Prop := ∃ H', Inv X pins σ H' s' ∧ Q b H'
def AP (X : Cx) (pins : List (Addr × Obj)) (σ : St) (Q : List V → Hp → Prop) (us : List Value) (s' : Shared) : Prop := ∃ vs H', Inv X pins σ H' s' ∧ Vals vs us ∧ Q vs H'
def SP (X : Cx) (pins : List (Addr × Obj)) (D : Ends) (f : Flow) (s' : Shared) : Prop :=
  match f with
  | .next => ∃ σ' H', Inv X pins σ' H' s' ∧ D.nx σ' H'
  | .brk => ∃ σ' H', Inv X pins σ' H' s' ∧ D.bk σ' H'
  | .cont => ∃ σ' H', Inv X pins σ' H' s' ∧ D.ct σ' H'
  | .ret u => ∃ v σ' H', Inv X pins σ' H' s' ∧ RelV v u ∧ D.rt v H'
def PE (X : Cx) (e : Expr) (t : TE) : Prop :=
  ∀ (pins : List (Addr × Obj)) (s : Shared) (σ : St) (H : Hp) (Q : VK), Inv X pins σ H s → t σ H Q → wpAny (model X.prog X.w) X.A (eval e X.env) (EP X pins σ Q) X.xe s
def PT (X : Cx) (e : Expr) (t : TT) : Prop :=
  ∀ (pins : List (Addr × Obj)) (s : Shared) (σ : St) (H : Hp) (Q : Bool → Hp → Prop), Inv X pins σ H s → t σ H Q → wpAny (model X.prog X.w) X.A (isTrue e X.env (eval e X.env)) (TP X pins σ Q) X.xe s
def PW (X : Cx) (e : Expr) (t : TT) : Prop :=
  ∀ (whole : Sem Value) (pins : List (Addr × Obj)) (s : Shared) (σ : St) (H : Hp) (Q : Bool → Hp → Prop), Inv X pins σ H s → t σ H Q → wpAny (model X.prog X.w) X.A (isTrue e X.env whole) (TP X pins σ Q) X.xe s
theorem PW.pt {X : Cx} {e : Expr} {t : TT} (h : PW X e t) : PT X e t := h _
def PA (X : Cx) (es : List Expr) (t : TA) : Prop :=
  ∀ (pos : Pos) (pins : List (Addr × Obj)) (s : Shared) (σ : St) (H : Hp) (Q : List V → Hp → Prop), Inv X pins σ H s → t σ H Q → wpAny (model X.prog X.w) X.A (spliced (backTo pos (starEach es X.env))) (AP X pins σ Q) X.xe s
def PS (X : Cx) (st : Stmt) (t : TS) : Prop :=
  ∀ (pins : List (Addr × Obj)) (s : Shared) (σ : St) (H : Hp) (D : Ends), Inv X pins σ H s → t D σ H → wpAny (model X.prog X.w) X.A (exec st X.env) (SP X pins D) X.xe s
def PSs (X : Cx) (st : List Stmt) (t : TS) : Prop :=
  ∀ (pins : List (Addr × Obj)) (s : Shared) (σ : St) (H : Hp) (D : Ends), Inv X pins σ H s → t D σ H → wpAny (model X.prog X.w) X.A (execs st X.env) (SP X pins D) X.xe s
theorem thn {α : Type} {t : Sem α} {Q Q' : α → Shared → Prop} {M : Model} {A : Around} {E : Value → Shared → Prop} {s : Shared} (h : wpAny M A t Q E s) (hQ : ∀ a s, Q a s → Q' a s) : wpAny M A t Q' E s := wpAny_mono h hQ fun _ _ x => x
end L2
namespace L2
open PySem PySem.Spec PyProof.Rows
section
variable {X : Cx}
def tVar (i : Nat) : TE := fun σ H Q => ∃ v, σ[i]? = some (some v) ∧ Q v H
def tC (v : V) : TE := fun _ H Q => Q v H
theorem pe_var {i : Nat} {x : Str} {pos : Pos} (hN : X.N[i]? = some x) (hv : Vis X.env.scope x) (hd : (x == ("__debug__" : Str)) = false := by decide) (hcd : (x == ("__classdict__" : Str)) = false := by decide) : PE X (.Name x pos) (tVar i) := by
  intro pins s σ H Q I h
  obtain ⟨v, e, h⟩ := h
  obtain ⟨m, hn, hl⟩ := I.loc
  obtain ⟨u, r, l⟩ := hl i x v hN e hv
  have fin : EP X pins σ Q u s := ⟨v, H, I, r, h⟩
  rcases l with ⟨hk, hm⟩ | ⟨hk, c, hc, hcell⟩
  · exact wpAny_Name (wpAny_loadName_local I.ok.kind hk hn hm fin) hd
  · rcases hk with hk | hk
    · exact wpAny_Name (wpAny_loadName_cell I.ok.kind hk hc hcell fin) hd
    · exact wpAny_Name (wpAny_loadName_free I.ok.kind hk hc hcell fin hcd) hd
theorem pe_int {i j pos} : PE X (.Constant (.int i) j pos) (tC (.int i)) := fun _ _ _ H _ I h => wpAny_Constant_int ⟨.int i, H, I.tok _, ⟨_, rfl⟩, h⟩
theorem pe_bl {b j pos} : PE X (.Constant (.bool b) j pos) (tC (.bl b)) := fun _ _ _ H _ I h => Constant_bool ⟨.bl b, H, I, rfl, h⟩
theorem pe_non {j pos} : PE X (.Constant .none j pos) (tC .non) := fun _ _ _ H _ I h => Constant_none ⟨.non, H, I, rfl, h⟩
theorem pe_str {x j pos} : PE X (.Constant (.str x) j pos) (tC (.str x)) := fun _ _ _ H _ I h => Calls.Constant_str ⟨.str x, H, I.tok _, ⟨_, rfl⟩, h⟩
def Gl (X : Cx) (x : Str) : Prop := X.env.kindOf x = some .globalImplicit
theorem ld_glob {E : Value → Shared → Prop} {pins : List (Addr × Obj)} {s : Shared} {σ : St} {H : Hp} {x : Str} {u : Value} {pos : Pos} {Q : Value → Shared → Prop} (I : Inv X pins σ H s) (hg : Gl X x) (hm : X.mg x = some u) (h : Q u s)
    (hd : (x == ("__debug__" : Str)) = false := by decide) : wpAny (model X.prog X.w) X.A (eval (.Name x pos) X.env) Q E s :=
  Calls.Name_function_global I.ok.kind hg (Calls.loadGlobal_global (by rw [I.ok.glob]; exact I.mod.glob.keeps I.bk) hm h) hd
theorem ld_blt {E : Value → Shared → Prop} {pins : List (Addr × Obj)} {s : Shared} {σ : St} {H : Hp} {x : Str} {u : Value} {pos : Pos} {Q : Value → Shared → Prop} (I : Inv X pins σ H s) (hg : Gl X x) (hm : X.mg x = none) (hv : bootBuiltins x = some u) (h : Q u s)
    (hn : x ≠ "__name__" := by decide) (hd : (x == ("__debug__" : Str)) = false := by decide) : wpAny (model X.prog X.w) X.A (eval (.Name x pos) X.env) Q E s := by
  obtain ⟨mb, h1, h2⟩ := I.mod.blt
  exact Calls.Name_function_global I.ok.kind hg (Calls.loadGlobal_builtin (by rw [I.ok.glob]; exact I.mod.glob.keeps I.bk) hm (by rw [I.ok.blt]; exact h1.keeps I.bk) ((h2 x hn).trans hv) h) hd
theorem pe_glob {x : Str} {v : V} {u : Value} {pos : Pos} (hg : Gl X x) (hm : X.mg x = some u) (r : RelV v u) (hd : (x == ("__debug__" : Str)) = false := by decide) : PE X (.Name x pos) (tC v) :=
  fun _ _ _ H _ I h => ld_glob I hg hm ⟨v, H, I, r, h⟩ hd
theorem pe_bltn {x : Str} {v : V} {u : Value} {pos : Pos} (hg : Gl X x) (hm : X.mg x = none) (hv : bootBuiltins x = some u) (r : RelV v u) (hn : x ≠ "__name__" := by decide) (hd : (x == ("__debug__" : Str)) = false := by decide) : PE X (.Name x pos) (tC v) :=
  fun _ _ _ H _ I h => ld_blt I hg hm hv ⟨v, H, I, r, h⟩ hn hd
variable {a b : Expr} {ta tb : TE} {pos : Pos}
def tB (t : TE) : TT := fun σ H Q => t σ H fun x H1 => ∃ c, x = .bl c ∧ Q c H1
theorem pt_val {e : Expr} {t : TE} (h : PE X e t) (he : ∀ whole, isTrue e X.env whole = (do let v ← whole; standAt e.pos; holding [v] (truthy v)) := by intro _; rfl) : PT X e (tB t) := by
  intro pins s σ H Q I hw
  refine isTrue_plain (thn (h pins s σ H _ I hw) fun v s1 ⟨x, H1, I1, r1, q1⟩ => ?_) (he _)
  obtain ⟨d, rfl, q⟩ := q1
  cases r1
  exact wpAny_truthy_bool ⟨H1, I1, q⟩
variable {tA tB' : TT} {rest : List Expr}
def tOr (t u : TT) : TT := fun σ H Q => t σ H fun c H1 => if c = true then Q true H1 else u σ H1 Q
def tNot (t : TT) : TT := fun σ H Q => t σ H fun c H1 => Q (!c) H1
theorem pw_or1 (ha : PT X a tA) : PW X (.BoolOp .Or [a] pos) tA := by
  intro wh pins s σ H Q I h
  refine isTrue_or (thn (ha pins s σ H Q I h) fun c s1 e => ?_)
  cases c with
  | false => exact isTrue_or_nil e
  | true => exact e
theorem pw_or (ha : PT X a tA) (hb : PW X (.BoolOp .Or (b :: rest) pos) tB') : PW X (.BoolOp .Or (a :: b :: rest) pos) (tOr tA tB') := by
  intro wh pins s σ H Q I h
  refine isTrue_or (thn (ha pins s σ H _ I h) fun c s1 ⟨H1, I1, q1⟩ => ?_)
  cases c with
  | true => exact ⟨H1, I1, q1⟩
  | false => exact hb wh pins s1 σ H1 Q I1 q1
theorem pt_not (ha : PT X a tA) : PT X (.UnaryOp .Not a pos) (tNot tA) := by
  intro pins s σ H Q I h
  exact isTrue_not (ha pins s σ H (fun c H1 => Q (!c) H1) I h)
def tAndV (ta tb : TE) : TE := fun σ H Q => ta σ H fun x H1 => ∃ c, x = .bl c ∧ if c = true then tb σ H1 Q else Q (.bl false) H1
def tOrV (ta tb : TE) : TE := fun σ H Q => ta σ H fun x H1 => ∃ c, x = .bl c ∧ if c = true then Q (.bl true) H1 else tb σ H1 Q
def tNotV (ta : TE) : TE := fun σ H Q => ta σ H fun x H1 => ∃ c, x = .bl c ∧ Q (.bl (!c)) H1
theorem pe_one {op} {t : TE} (h : PE X a t) : PE X (.BoolOp op [a] pos) t := fun pins s σ H Q I hw => BoolOp_one (h pins s σ H Q I hw)
theorem pe_and (ha : PE X a ta) (hb : PE X (.BoolOp .And (b :: rest) pos) tb) : PE X (.BoolOp .And (a :: b :: rest) pos) (tAndV ta tb) := by
  intro pins s σ H Q I h
  refine BoolOp_and (thn (ha pins s σ H _ I h) fun v s1 ⟨x, H1, I1, r1, q1⟩ => ?_)
  obtain ⟨c, rfl, q1⟩ := q1
  cases r1
  refine wpAny_truthy_bool ?_
  cases c with
  | true => exact hb pins s1 σ H1 Q I1 q1
  | false => exact ⟨.bl false, H1, I1, rfl, q1⟩
theorem pe_or (ha : PE X a ta) (hb : PE X (.BoolOp .Or (b :: rest) pos) tb) : PE X (.BoolOp .Or (a :: b :: rest) pos) (tOrV ta tb) := by
  intro pins s σ H Q I h
  refine BoolOp_or (thn (ha pins s σ H _ I h) fun v s1 ⟨x, H1, I1, r1, q1⟩ => ?_)
  obtain ⟨c, rfl, q1⟩ := q1
  cases r1
  refine wpAny_truthy_bool ?_
  cases c with
  | false => exact hb pins s1 σ H1 Q I1 q1
  | true => exact ⟨.bl true, H1, I1, rfl, q1⟩
theorem pe_not (ha : PE X a ta) : PE X (.UnaryOp .Not a pos) (tNotV ta) := by
  intro pins s σ H Q I h
  refine UnaryOp_ (thn (ha pins s σ H _ I h) fun v s1 ⟨x, H1, I1, r1, q1⟩ => ?_)
  obtain ⟨c, rfl, q1⟩ := q1
  cases r1
  exact not_of (wpAny_truthy_bool ⟨.bl (!c), H1, I1, rfl, q1⟩)
def tIf (t : TT) (ta tb : TE) : TE := fun σ H Q => t σ H fun c H1 => if c = true then ta σ H1 Q else tb σ H1 Q
theorem pe_ifExp {c : Expr} (hc : PT X c tA) (ha : PE X a ta) (hb : PE X b tb) : PE X (.IfExp c a b pos) (tIf tA ta tb) := by
  intro pins s σ H Q I h
  refine wpAny_IfExp (thn (hc pins s σ H _ I h) fun d s1 ⟨H1, I1, q1⟩ => ?_)
  cases d with
  | true => exact ha pins s1 σ H1 Q I1 q1
  | false => exact hb pins s1 σ H1 Q I1 q1
end
end L2
namespace L2
open PySem PySem.Spec PyProof.Rows
def SqL (K : PySem.W.Frag) (H : Hp) (a : Addr) (xs : List V) : Prop :=
  Rd H a (.lst xs) ∨
    ∃ (o : Obj) (its : Array Value) (n : Nat), K.lookup a = some o ∧ o.cls = .type "list" ∧ o.dict = none ∧ o.data = .seq its n ∧ its.size ≤ sizeLine ∧ Vals xs its.toList
def SqT (K : PySem.W.Frag) (H : Hp) (a : Addr) (xs : List V) : Prop :=
  Rd H a (.tup xs) ∨
    ∃ (o : Obj) (its : Array Value) (n : Nat), K.lookup a = some o ∧ o.cls = .type "tuple" ∧ o.data = .seq its n ∧ its.size ≤ sizeLine ∧ Vals xs its.toList
def absV : Value → Option V
  | .none => some .non
  | .bool b => some (.bl b)
  | .int i _ => some (.int i)
  | .str x _ => some (.str x)
  | .bytes b _ => some (.byt b)
  | .float b _ => some (.flt b)
  | .ref a => some (.ref a)
  | .type n => some (.ty n)
  | _ => none
theorem RelV.abs {x : V} {u : Value} (r : RelV x u) : absV u = some x := by
  cases x with
  | non => cases r; rfl
  | bl _ => cases r; rfl
  | int _ => obtain ⟨t, rfl⟩ := r; rfl
  | str _ => obtain ⟨t, rfl⟩ := r; rfl
  | byt _ => obtain ⟨t, rfl⟩ := r; rfl
  | flt _ => obtain ⟨t, rfl⟩ := r; rfl
  | ref _ => cases r; rfl
  | ty _ => cases r; rfl
theorem RelV.inj {x y : V} {u : Value} (r : RelV x u) (q : RelV y u) : x = y := Option.some.inj (r.abs.symm.trans q.abs)
theorem Vals.inj : ∀ {xs ys : List V} {us : List Value}, Vals xs us → Vals ys us → xs = ys
  | _, _, _, .nil, .nil => rfl
  | _, _, _, .cons r t, .cons r' t' => by rw [r.inj r', Vals.inj t t']
section
variable {X : Cx} {pins : List (Addr × Obj)} {σ : St} {H : Hp} {s : Shared} {a : Addr} {xs ys : List V}
theorem SqL.of {K : PySem.W.Frag} (h : H a = some (.lst xs)) : SqL K H a xs := .inl (.inl h)
theorem SqT.of {K : PySem.W.Frag} (h : H a = some (.tup xs)) : SqT K H a xs := .inl (.inl h)
theorem Inv.list (I : Inv X pins σ H s) (h : SqL X.K H a xs) : ∃ its : List Value, Vals xs its ∧ PlainL s.heap a its.toArray ∧ xs.length ≤ sizeLine := by
  rcases h with h | ⟨o, its, n, hk, hc, hd, hs, hz, r⟩
  · obtain ⟨z, its, n, r, e⟩ := h.ok I.hok
    exact ⟨its, r, ⟨_, n, e, rfl, rfl, rfl⟩, z⟩
  · refine ⟨its.toList, r, ⟨o, n, I.kIn a o hk, hc, hd, by simpa using hs⟩, ?_⟩
    have e := r.length
    simp only [Array.length_toList] at e
    omega
theorem Inv.tuple (I : Inv X pins σ H s) (h : SqT X.K H a xs) : ∃ its : List Value, Vals xs its ∧ IsTup s.heap a its.toArray ∧ xs.length ≤ sizeLine := by
  rcases h with h | ⟨o, its, n, hk, hc, hs, hz, r⟩
  · obtain ⟨z, its, r, p⟩ := h.ok I.hok
    exact ⟨its, r, p, z⟩
  · refine ⟨its.toList, r, ⟨o, I.kIn a o hk, hc, n, by simpa using hs⟩, ?_⟩
    have e := r.length
    simp only [Array.length_toList] at e
    omega
theorem Inv.list_inj (I : Inv X pins σ H s) (h : SqL X.K H a xs) (h' : SqL X.K H a ys) : xs = ys := by
  obtain ⟨its, r, ⟨o, n, e, _, _, d⟩, _⟩ := I.list h
  obtain ⟨its', r', ⟨o', n', e', _, _, d'⟩, _⟩ := I.list h'
  rw [e] at e'; cases e'
  rw [d] at d'
  injection d' with d1 _
  have : its = its' := by simpa using congrArg Array.toList d1
  subst this
  exact r.inj r'
theorem Inv.tuple_inj (I : Inv X pins σ H s) (h : SqT X.K H a xs) (h' : SqT X.K H a ys) : xs = ys := by
  obtain ⟨its, r, ⟨o, e, _, n, d⟩, _⟩ := I.tuple h
  obtain ⟨its', r', ⟨o', e', _, n', d'⟩, _⟩ := I.tuple h'
  rw [e] at e'; cases e'
  rw [d] at d'
  injection d' with d1 _
  have : its = its' := by simpa using congrArg Array.toList d1
  subst this
  exact r.inj r'
end
abbrev Cx.wish (X : Cx) (E : Value → Shared → Prop) : Cx := { X with xe := E }
abbrev Cx.nox (X : Cx) : Cx := X.wish fun _ _ => False
theorem Cx.Ok.wish {X : Cx} (ok : X.Ok) (E : Value → Shared → Prop) : (X.wish E).Ok :=
  ⟨ok.mod, ok.kind, ok.glob, ok.blt, ok.above, ok.inj, ok.has, ok.cab, ok.hd, ok.frames, ok.stk, ok.exf, ok.bs, ok.bsz, ok.noex, ok.exfs, ok.funs, ok.frf⟩
theorem Cx.Ok.unwish {X : Cx} {E : Value → Shared → Prop} (ok : (X.wish E).Ok) : X.Ok :=
  ⟨ok.mod, ok.kind, ok.glob, ok.blt, ok.above, ok.inj, ok.has, ok.cab, ok.hd, ok.frames, ok.stk, ok.exf, ok.bs, ok.bsz, ok.noex, ok.exfs, ok.funs, ok.frf⟩
section
variable {X : Cx} {pins : List (Addr × Obj)} {σ : St} {H : Hp} {s : Shared} {E : Value → Shared → Prop}
theorem Inv.wish (I : Inv X pins σ H s) (E : Value → Shared → Prop) : Inv (X.wish E) pins σ H s := ⟨I.ok.wish E, I.os, I.bare, I.base, I.loc, I.cell, I.free, I.freeC, I.pin, I.hok, I.len⟩
theorem Inv.unwish (I : Inv (X.wish E) pins σ H s) : Inv X pins σ H s := ⟨I.ok.unwish, I.os, I.bare, I.base, I.loc, I.cell, I.free, I.freeC, I.pin, I.hok, I.len⟩
theorem SP.unwish {D : Ends} {f : Flow} {s' : Shared} (h : SP (X.wish E) pins D f s') : SP X pins D f s' := by
  cases f with
  | next => obtain ⟨σ', H', I, q⟩ := h; exact ⟨σ', H', I.unwish, q⟩
  | brk => obtain ⟨σ', H', I, q⟩ := h; exact ⟨σ', H', I.unwish, q⟩
  | cont => obtain ⟨σ', H', I, q⟩ := h; exact ⟨σ', H', I.unwish, q⟩
  | ret u => obtain ⟨v, σ', H', I, r, q⟩ := h; exact ⟨v, σ', H', I.unwish, r, q⟩
theorem PSs.nox {st : List Stmt} {t : TS} (h : PSs X.nox st t) : PSs X st t := fun pins s σ H D I hw =>
  wpAny_mono (h pins s σ H D (I.wish _) hw) (fun _ _ q => q.unwish) fun _ _ z => False.elim z
end
section
variable {X : Cx} {st : Stmt} {rest : List Stmt} {t u : TS} {e : Expr} {te : TE} {pos : Pos}
def tNext : TS := fun D σ H => D.nx σ H
def tSeq (t u : TS) : TS := fun D σ H => t { D with nx := u D } σ H
theorem pss_nil : PSs X [] tNext := fun _ _ σ H _ I h => wpAny_execs_nil ⟨σ, H, I, h⟩
theorem pss_cons (h1 : PS X st t) (h2 : PSs X rest u) : PSs X (st :: rest) (tSeq t u) := by
  intro pins s σ H D I h
  refine wpAny_execs_cons (thn (h1 pins s σ H { D with nx := u D } I h) fun f s1 q => ?_)
  cases f with
  | next =>
    obtain ⟨σ', H', I', q⟩ := q
    exact h2 pins s1 σ' H' D I' q
  | ret v => exact q
  | brk => exact q
  | cont => exact q
theorem pss_one (h1 : PS X st t) : PSs X [st] t := by
  intro pins s σ H D I h
  refine wpAny_execs_cons (thn (h1 pins s σ H D I h) fun f s1 q => ?_)
  cases f with
  | next => exact wpAny_execs_nil q
  | ret v => exact q
  | brk => exact q
  | cont => exact q
theorem Inv.quiet {pins : List (Addr × Obj)} {σ : St} {H : Hp} {s : Shared} (I : Inv X pins σ H s) : interactive X.env = false := by simp [interactive, I.ok.kind]
def tDrop (te : TE) : TS := fun D σ H => te σ H fun _ H1 => D.nx σ H1
theorem ps_expr (he : PE X e te) (hs : swapsWith e none pos.line X.env = pure false := by rfl) : PS X (.Expr e pos) (tDrop te) := by
  intro pins s σ H D I h
  exact wpAny_Expr_any (thn (he pins s σ H _ I h) fun v s1 ⟨x, H1, I1, r1, q1⟩ => ⟨σ, H1, I1, q1⟩) I.quiet hs
def tRet (te : TE) : TS := fun D σ H => te σ H D.rt
theorem ps_ret (he : PE X e te) : PS X (.Return (some e) pos) (tRet te) := by
  intro pins s σ H D I h
  exact wpAny_Return_some (thn (he pins s σ H _ I h) fun v s1 ⟨x, H1, I1, r1, q1⟩ => ⟨x, σ, H1, I1, r1, q1⟩)
def tIfS (c : TT) (t u : TS) : TS := fun D σ H => c σ H fun b H1 => if b = true then t D σ H1 else u D σ H1
theorem ps_if {c : Expr} {a b : List Stmt} {tc : TT} (hc : PT X c tc) (ha : PSs X a t) (hb : PSs X b u) : PS X (.If c a b pos) (tIfS tc t u) := by
  intro pins s σ H D I h
  refine wpAny_If (thn (hc pins s σ H _ I h) fun d s1 ⟨H1, I1, q1⟩ => ?_)
  cases d with
  | true => exact ha pins s1 σ H1 D I1 q1
  | false => exact hb pins s1 σ H1 D I1 q1
def tNever : TS := fun _ _ _ => False
theorem pss_never {sts : List Stmt} : PSs X sts tNever := fun _ _ _ _ _ _ h => h.elim
end
abbrev TG := V → St → Hp → (St → Hp → Prop) → Prop
abbrev TGs := List V → St → Hp → (St → Hp → Prop) → Prop
def PG (X : Cx) (target : Expr) (t : TG) : Prop :=
  ∀ (pins : List (Addr × Obj)) (s : Shared) (σ : St) (H : Hp) (v : V) (u : Value) (Q : St → Hp → Prop), Inv X pins σ H s → RelV v u → t v σ H Q →
    wpAny (model X.prog X.w) X.A (assign target X.env u) (fun _ s' => ∃ σ' H', Inv X pins σ' H' s' ∧ Q σ' H') X.xe s
def PGs (X : Cx) (ts : List Expr) (t : TGs) : Prop :=
  ∀ (pins : List (Addr × Obj)) (s : Shared) (σ : St) (H : Hp) (vs : List V) (us : List Value) (Q : St → Hp → Prop), Inv X pins σ H s → Vals vs us → t vs σ H Q →
    wpAny (model X.prog X.w) X.A (assignInOrder ((assignEach ts X.env).map (·.2)) us) (fun _ s' => ∃ σ' H', Inv X pins σ' H' s' ∧ Q σ' H') X.xe s
abbrev TSet := V → V → V → Hp → (Hp → Prop) → Prop
def PSet (X : Cx) (t : TSet) : Prop :=
  ∀ (pins : List (Addr × Obj)) (s : Shared) (σ : St) (H : Hp) (o i v : V) (ov iv u : Value) (Q : Hp → Prop), Inv X pins σ H s → RelV o ov → RelV i iv → RelV v u → t o i v H Q →
    wpAny (model X.prog X.w) X.A (setItem ov iv u) (fun _ s' => ∃ H', Inv X pins σ H' s' ∧ Q H') X.xe s
section
variable {X : Cx} {pos : Pos}
def gName (i : Nat) : TG := fun v σ H Q => Q (σ.set i (some v)) H
theorem pg_name {i : Nat} {x : Str} (hN : X.N.Nodup) (hi : X.N[i]? = some x) (hx : Loc X.env.scope x) (hf : X.fn x = true ∨ X.env.scope.names.lookup x = some .local := by first | exact .inl rfl | exact .inr rfl | assumption) : PG X (.Name x pos) (gName i) := by
  intro pins s σ H v u Q I r h
  exact wpAny_assign_Name (store_ok I hN hi hx r (fun s' I' => ⟨_, H, I', h⟩) hf)
def gNil : TGs := fun vs σ H Q => vs = [] ∧ Q σ H
def gCons (t : TG) (u : TGs) : TGs := fun vs σ H Q => ∃ v r, vs = v :: r ∧ t v σ H fun σ' H' => u r σ' H' Q
theorem pgs_nil : PGs X [] gNil := by
  intro pins s σ H vs us Q I r h
  obtain ⟨e, h⟩ := h
  subst e
  cases r
  exact assignInOrder_nil ⟨σ, H, I, h⟩
theorem pgs_cons {e : Expr} {es : List Expr} {t : TG} {u : TGs} (h1 : PG X e t) (h2 : PGs X es u)
    (hs : (assignEach (e :: es) X.env).map (·.2) = assign e X.env :: (assignEach es X.env).map (·.2) := by rfl) : PGs X (e :: es) (gCons t u) := by
  intro pins s σ H vs us Q I r h
  obtain ⟨v, vr, e1, h⟩ := h
  subst e1
  cases r with
  | cons r rr =>
    rw [hs]
    refine assignInOrder_cons (thn (h1 pins s σ H _ _ _ I r h) fun _ s1 ⟨σ1, H1, I1, q1⟩ => ?_)
    exact h2 pins s1 σ1 H1 _ _ Q I1 rr q1
def gTup (K : PySem.W.Frag) (n : Nat) (t : TGs) : TG := fun v σ H Q => ∃ a xs, v = .ref a ∧ SqT K H a xs ∧ xs.length = n ∧ t xs σ H Q
theorem pg_tup {es : List Expr} {k : Nat} {t : TGs} {n : Nat} (hc : X.calm = true) (h : PGs X es t)
    (hn : (assignEach es X.env).length = n := by rfl) (hst : (assignEach es X.env).findIdx? (·.1) = none := by rfl) : PG X (.Tuple es k pos) (gTup X.K n t) := by
  intro pins s σ H v u Q I r hw
  obtain ⟨a, xs, e1, hq, hl, hw⟩ := hw
  subst e1
  cases r
  obtain ⟨its, rv, ht, hz⟩ := I.tuple hq
  refine assign_Tuple_tuple (I.ok.hd hc) ht (by simp [hn, ← hl, rv.length]) hst fun h' hx => ?_
  have I1 : Inv X pins σ H { s with heap := h' } := I.kept (t' := s.toks) fun b o e => hx b o (Nat.ne_of_lt (Heap.lt_size e)) e
  exact h pins _ σ H xs _ Q I1 (by simpa using rv) hw
def gSub (to ti : TE) (t : TSet) : TG := fun v σ H Q => to σ H fun o H1 => ti σ H1 fun i H2 => t o i v H2 fun H3 => Q σ H3
theorem pg_sub {o i : Expr} {to ti : TE} {t : TSet} (ho : PE X o to) (hi : PE X i ti) (hs : PSet X t)
    (ha : ∀ v, assign (.Subscript o i pos) X.env v = (do
      let ov ← holding [v] (eval o X.env)
      let iv ← holding [v, ov] (eval i X.env)
      standAt pos
      holding [v, ov, iv] (setItem ov iv v)
      release [v, ov, iv] []) := by intro _; rfl) : PG X (.Subscript o i pos) (gSub to ti t) := by
  intro pins s σ H v u Q I r h
  rw [ha]
  refine wpAny_bind (wpAny_holding (thn (ho pins s σ H _ I h) fun ov s1 ⟨x, H1, I1, r1, q1⟩ => ?_))
  refine wpAny_bind (wpAny_holding (thn (hi pins s1 σ H1 _ I1 q1) fun iv s2 ⟨y, H2, I2, r2, q2⟩ => ?_))
  refine wpAny_bind (wpAny_standAt (wpAny_bind (wpAny_holding (thn (hs pins s2 σ H2 x y v ov iv u _ I2 r1 r2 r q2) fun _ s3 ⟨H3, I3, q3⟩ => ?_))))
  exact wpAny_release ⟨σ, H3, I3, q3⟩
def tAsg (te : TE) (g : TG) : TS := fun D σ H => te σ H fun x H1 => g x σ H1 D.nx
theorem ps_asg {tg e : Expr} {te : TE} {g : TG} (he : PE X e te) (hg : PG X tg g) (hs : swapsWithSole [tg] e pos.line X.env = pure false := by rfl) (hw : swappedStores [tg] e X.env = pure none := by rfl)
    (h1 : (assignEach [tg] X.env).map (·.2) = [assign tg X.env] := by rfl) : PS X (.Assign [tg] e pos) (tAsg te g) := by
  intro pins s σ H D I h
  refine wpAny_Assign_stores (thn (he pins s σ H _ I h) fun v s1 ⟨x, H1, I1, r1, q1⟩ => ?_) hs hw
  rw [h1]
  exact thn (hg pins s1 σ H1 x v _ I1 r1 q1) fun _ s2 q => q
theorem ps_set {i : Nat} {x : Str} {e : Expr} {te : TE} {pos' : Pos} (hN : X.N.Nodup) (hi : X.N[i]? = some x) (hx : Loc X.env.scope x) (he : PE X e te) (hs : swapsWith e (some (.Name x pos')) pos.line X.env = pure false := by rfl) (hf : X.fn x = true ∨ X.env.scope.names.lookup x = some .local := by first | exact .inl rfl | exact .inr rfl | assumption) :
    PS X (.Assign [.Name x pos'] e pos) (tAsg te (gName i)) := by
  intro pins s σ H D I h
  refine wpAny_Assign_Name (thn (he pins s σ H _ I h) fun v s1 ⟨y, H1, I1, r1, q1⟩ => ?_) hs
  exact store_ok I1 hN hi hx r1 (fun s2 I2 => ⟨_, H1, I2, q1⟩) hf
end
section
variable {X : Cx} {pos : Pos}
end
structure It where
  go : Nat → Hp → Prop
  yld : Nat → Hp → V → Hp → Prop
  stop : Nat → Hp → Prop
def FpOk (X : Cx) (pins : List (Addr × Obj)) (H : Hp) (b : Addr) : Prop :=
  H b = none ∧ b ≠ X.env.locals ∧ b ∉ X.fs ∧ (b ∈ X.ex ∨ X.s₀.heap.objs.size ≤ b) ∧ (∀ x c, X.env.cells.lookup x = some c → c ≠ b) ∧ ∀ p ∈ X.pn ++ pins, p.1 ≠ b
theorem Inv.fpOk {X : Cx} {pins : List (Addr × Obj)} {σ : St} {H H' : Hp} {s : Shared} {b : Addr} (I : Inv X pins σ H s) (hb : s.heap.objs.size ≤ b) (hn : H' b = none) : FpOk X pins H' b := by
  refine ⟨hn, Nat.ne_of_gt (Nat.lt_of_lt_of_le I.lt hb), I.nofs hb, .inr (Nat.le_trans I.sz hb), fun x c e z => ?_, fun p hp z => ?_⟩
  · obtain ⟨v, q⟩ := I.cell x c e
    exact absurd (Nat.lt_of_lt_of_le q.lt (by rw [z]; exact hb)) (Nat.lt_irrefl _)
  · exact absurd (Nat.lt_of_lt_of_le (Heap.lt_size (I.pin p hp).1) (by rw [z]; exact hb)) (Nat.lt_irrefl _)
structure Turn (P : Program) (w : World) (K : PySem.W.Frag) (tg : Expr) (J : It) (fp : List Addr) (it : Addr) (tn : Nat → Heap → Prop) : Prop where
  mem : it ∈ fp
  obj : ∀ i h, tn i h → ∀ b ∈ fp, ∃ o, h.get? b = some o ∧ ∀ v, o.data ≠ .cell v
  keep : ∀ i h h', tn i h → (∀ b ∈ fp, ∀ o, h.get? b = some o → h'.get? b = some o) → tn i h'
  item : ∀ (X : Cx), X.prog = P → X.w = w → X.K = K → X.calm = true → ∀ (i : Nat) (pins : List (Addr × Obj)) (s : Shared) (σ : St) (H : Hp) (E : Value → Shared → Prop), Inv X pins σ H s → (∀ b ∈ fp, FpOk X pins H b) → tn i s.heap → J.go i H →
    wpAny (model P w) X.A (pyNext (.ref it)) (fun r s1 => ∃ u, r = some u ∧
      wpAny (model P w) X.A (letOwnedTupleGo tg (.ref it) u) (fun _ s2 => ∃ x H', Inv X pins σ H' s2 ∧ RelV x u ∧ J.yld i H x H' ∧ tn (i + 1) s2.heap ∧ ∀ b ∈ fp, H' b = none) E s1) E s
  done : ∀ (X : Cx), X.prog = P → X.w = w → X.K = K → X.calm = true → ∀ (i : Nat) (pins : List (Addr × Obj)) (s : Shared) (σ : St) (H : Hp) (E : Value → Shared → Prop), Inv X pins σ H s → (∀ b ∈ fp, FpOk X pins H b) → tn i s.heap → J.stop i H →
    wpAny (model P w) X.A (pyNext (.ref it)) (fun r s1 => r = none ∧ Inv X pins σ H s1) E s
  self : ∀ (A : Around) (i : Nat) (s : Shared) (Q : Value → Shared → Prop) (E : Value → Shared → Prop), tn i s.heap → Q (.ref it) s → wpAny (model P w) A (pyIter (.ref it)) Q E s
abbrev TI := St → Hp → (It → Hp → Prop) → Prop
def PIE (X : Cx) (pins : List (Addr × Obj)) (σ : St) (tg : Expr) (R : It → Hp → Prop) (itv : Value) (s2 : Shared) : Prop :=
  ∃ (it : Addr) (fp : List Addr) (tn : Nat → Heap → Prop) (J : It) (H' : Hp), itv = .ref it ∧ Inv X pins σ H' s2 ∧ Turn X.prog X.w X.K tg J fp it tn ∧ tn 0 s2.heap ∧ (∀ b ∈ fp, FpOk X pins H' b) ∧ R J H'
def PI (X : Cx) (tg iter : Expr) (wi : TI) : Prop :=
  ∀ (pins : List (Addr × Obj)) (s : Shared) (σ : St) (H : Hp) (R : It → Hp → Prop), Inv X pins σ H s → wi σ H R →
    wpAny (model X.prog X.w) X.A (eval iter X.env) (fun v s1 => wpAny (model X.prog X.w) X.A (pyIter v) (PIE X pins σ tg R) X.xe s1) X.xe s
theorem go_of {M : Model} {A : Around} {E : Value → Shared → Prop} {s : Shared} {tg : Expr} {it : Addr} {u : Value} {o : Obj} {n : String} {vs : Array Value} {Q : Unit → Shared → Prop} (ho : s.heap.get? it = some o) (hc : o.cls = .type n) (hd : o.data = .fields vs)
    (hn : ["enumerate", "zip", "dict_itemiterator", "dict_reverseitemiterator", "odict_iterator", "itertools.zip_longest", "itertools.pairwise"].contains n = false) (hQ : Q () s) : wpAny M A (letOwnedTupleGo tg (.ref it) u) Q E s := by
  unfold letOwnedTupleGo
  cases tg <;> first
    | exact wpAny_pure hQ
    | (cases u <;> first
        | exact wpAny_pure hQ
        | (refine wpAny_bind (wpAny_load ho ?_)
           rw [hc, hd]
           show wpAny M A (if (["enumerate", "zip", "dict_itemiterator", "dict_reverseitemiterator", "odict_iterator", "itertools.zip_longest", "itertools.pairwise"].contains n && vs[0]? == some (rawInt _)) = true then _ else _) Q E s
           rw [if_neg (by intro h; rw [hn, Bool.false_and] at h; cases h)]
           exact wpAny_pure hQ))
def Itl (K : PySem.W.Frag) (a : Addr) : It :=
  ⟨fun i H => ∃ xs x, SqL K H a xs ∧ xs[i]? = some x, fun i H x H' => H' = H ∧ ∀ xs, SqL K H a xs → xs[i]? = some x, fun i H => ∃ xs, SqL K H a xs ∧ xs.length ≤ i⟩
def Itt (K : PySem.W.Frag) (a : Addr) : It :=
  ⟨fun i H => ∃ xs x, SqT K H a xs ∧ xs[i]? = some x, fun i H x H' => H' = H ∧ ∀ xs, SqT K H a xs → xs[i]? = some x, fun i H => ∃ xs, SqT K H a xs ∧ xs.length ≤ i⟩
def Itr (lo : Int) (n : Nat) : It := ⟨fun i _ => i < n, fun i H x H' => H' = H ∧ x = .int (lo + i), fun i _ => n ≤ i⟩
theorem turn_list {P : Program} {w : World} {K : PySem.W.Frag} {tg : Expr} (a it : Addr) : Turn P w K tg (Itl K a) [it] it (fun i h => h.IsListIter it a i) where
  mem := by simp
  obj := fun i h st b hb => by
    have e : b = it := by simpa using hb
    subst e
    obtain ⟨o, e, c, d⟩ := st
    exact ⟨o, e, fun v z => by rw [d] at z; cases z⟩
  keep := fun i h h' st k => st.at fun o e => k it (by simp) o e
  item := by
    intro X hP hw hK hc i pins s σ H E I hf st hg
    subst hP hw hK
    obtain ⟨xs, x, hq, hx⟩ := hg
    obtain ⟨its, rv, p, hz⟩ := I.list hq
    obtain ⟨u, hu, ru⟩ := rv.get hx
    obtain ⟨f0, f1, f2, f3, f4, f5⟩ := hf it (by simp)
    refine wpAny_pyNext_list_item st p.isList (x := u) (by simpa using hu) fun h' st' sb => ?_
    have I1 : Inv X pins σ H { s with heap := h' } := I.turned (t' := s.toks) (fun b o hb e => (sb.2 b hb).trans e) f0 f1 f3 f4 f5
    obtain ⟨o, e, c, d⟩ := id st'
    exact ⟨u, rfl, go_of (s := { s with heap := h' }) e c d (by decide) ⟨x, H, I1, ru, ⟨rfl, fun ys hy => by rw [I.list_inj hy hq]; exact hx⟩, st', fun b hb => (hf b hb).1⟩⟩
  done := by
    intro X hP hw hK hc i pins s σ H E I hf st hg
    subst hP hw hK
    obtain ⟨xs, hq, hx⟩ := hg
    obtain ⟨its, rv, p, hz⟩ := I.list hq
    obtain ⟨f0, f1, f2, f3, f4, f5⟩ := hf it (by simp)
    have hl := rv.length
    exact wpAny_pyNext_list_end (I.ok.hd hc) st p.isList (by simp; omega) fun h' eb => ⟨rfl, I.turned (t' := s.toks) (fun b o hb e => eb b o hb e) f0 f1 f3 f4 f5⟩
  self := fun _ _ _ _ _ st h => wpAny_pyIter_listiter st h
theorem turn_tuple {P : Program} {w : World} {K : PySem.W.Frag} {tg : Expr} (a it : Addr) : Turn P w K tg (Itt K a) [it] it (fun i h => h.IsTupleIter it a i) where
  mem := by simp
  obj := fun i h st b hb => by
    have e : b = it := by simpa using hb
    subst e
    obtain ⟨o, e, c, d⟩ := st
    exact ⟨o, e, fun v z => by rw [d] at z; cases z⟩
  keep := fun i h h' st k => st.at fun o e => k it (by simp) o e
  item := by
    intro X hP hw hK hc i pins s σ H E I hf st hg
    subst hP hw hK
    obtain ⟨xs, x, hq, hx⟩ := hg
    obtain ⟨its, rv, p, hz⟩ := I.tuple hq
    obtain ⟨u, hu, ru⟩ := rv.get hx
    obtain ⟨f0, f1, f2, f3, f4, f5⟩ := hf it (by simp)
    refine wpAny_pyNext_tuple_item st (show s.heap.IsTuple a its.toArray from p) (x := u) (by simpa using hu) fun h' st' sb => ?_
    have I1 : Inv X pins σ H { s with heap := h' } := I.turned (t' := s.toks) (fun b o hb e => (sb.2 b hb).trans e) f0 f1 f3 f4 f5
    obtain ⟨o, e, c, d⟩ := id st'
    exact ⟨u, rfl, go_of (s := { s with heap := h' }) e c d (by decide) ⟨x, H, I1, ru, ⟨rfl, fun ys hy => by rw [I.tuple_inj hy hq]; exact hx⟩, st', fun b hb => (hf b hb).1⟩⟩
  done := by
    intro X hP hw hK hc i pins s σ H E I hf st hg
    subst hP hw hK
    obtain ⟨xs, hq, hx⟩ := hg
    obtain ⟨its, rv, p, hz⟩ := I.tuple hq
    obtain ⟨f0, f1, f2, f3, f4, f5⟩ := hf it (by simp)
    have hl := rv.length
    exact wpAny_pyNext_tuple_end (I.ok.hd hc) st (show s.heap.IsTuple a its.toArray from p) (by simp; omega) fun h' eb => ⟨rfl, I.turned (t' := s.toks) (fun b o hb e => eb b o hb e) f0 f1 f3 f4 f5⟩
  self := fun _ _ _ _ _ st h => wpAny_pyIter_tupleiter st h
theorem turn_range {P : Program} {w : World} {K : PySem.W.Frag} {tg : Expr} (it : Addr) (lo : Int) (n : Nat) : Turn P w K tg (Itr lo n) [it] it (fun i h => IsRangeIter h it (lo + (i : Nat) * 1) ((n : Int) - (i : Nat)) 1) where
  mem := by simp
  obj := fun i h st b hb => by
    have e : b = it := by simpa using hb
    subst e
    exact ⟨_, st, fun v z => by
      have z' : Data.fields _ = Data.cell v := z
      cases z'⟩
  keep := fun i h h' st k => k it (by simp) _ st
  item := by
    intro X hP hw hK hc i pins s σ H E I hf st hg
    subst hP hw hK
    obtain ⟨f0, f1, f2, f3, f4, f5⟩ := hf it (by simp)
    have W := Walks.range (prog := X.prog) (w := X.w) (I.ok.hd hc) it lo 1 n
    refine W.item i s _ _ hg st fun v h' tk hv st' kk => ?_
    obtain ⟨t, rfl⟩ := hv
    have I1 : Inv X pins σ H { s with heap := h', toks := tk } := I.turned (fun b o hb e => kk b o (by simpa using hb) e) f0 f1 f3 f4 f5
    refine ⟨_, rfl, go_of (s := { s with heap := h', toks := tk }) (n := "range_iterator") st' rfl rfl (by decide) ⟨.int (lo + i), H, I1, ⟨t, ?_⟩, ⟨rfl, rfl⟩, st', fun b hb => (hf b hb).1⟩⟩
    rw [Int.mul_one]
  done := by
    intro X hP hw hK hc i pins s σ H E I hf st hg
    subst hP hw hK
    obtain ⟨f0, f1, f2, f3, f4, f5⟩ := hf it (by simp)
    exact wpAny_pyNext_range_end (I.ok.hd hc) st (by have : n ≤ i := hg; omega) fun h' eb => ⟨rfl, I.turned (t' := s.toks) (fun b o hb e => eb b o hb e) f0 f1 f3 f4 f5⟩
  self := fun _ _ _ _ _ st h => wpAny_pyIter_rangeiter st h
end L2
namespace L2
open PySem PySem.Spec PyProof.Rows
section
variable {X : Cx} {tg : Expr}
def iList (K : PySem.W.Frag) (tl : TE) : TI := fun σ H R => tl σ H fun x H1 => ∃ a, x = .ref a ∧ (∃ xs, SqL K H1 a xs) ∧ R (Itl K a) H1
def iTup (K : PySem.W.Frag) (tl : TE) : TI := fun σ H R => tl σ H fun x H1 => ∃ a, x = .ref a ∧ (∃ xs, SqT K H1 a xs) ∧ R (Itt K a) H1
theorem pi_list {l : Expr} {tl : TE} (hl : PE X l tl) : PI X tg l (iList X.K tl) := by
  intro pins s σ H R I h
  refine thn (hl pins s σ H _ I h) fun v s1 ⟨x, H1, I1, r1, q1⟩ => ?_
  obtain ⟨a, e, ⟨xs, hq⟩, q⟩ := q1
  subst e
  cases r1
  obtain ⟨its, rv, p, hz⟩ := I1.list hq
  refine wpAny_pyIter_list p.isList ?_
  refine ⟨s1.heap.objs.size, [s1.heap.objs.size], _, _, H1, rfl, I1.kept (t' := s1.toks) fun b o e => Heap.get?_push_of_some _ e, turn_list a _, ⟨_, Heap.get?_push_size _ rfl, rfl, rfl⟩, fun b hb => ?_, q⟩
  have e : b = s1.heap.objs.size := by simpa using hb
  subst e
  exact I1.fpOk (Nat.le_refl _) (I1.hok.fresh (Nat.le_refl _))
theorem pi_tup {l : Expr} {tl : TE} (hl : PE X l tl) : PI X tg l (iTup X.K tl) := by
  intro pins s σ H R I h
  refine thn (hl pins s σ H _ I h) fun v s1 ⟨x, H1, I1, r1, q1⟩ => ?_
  obtain ⟨a, e, ⟨xs, hq⟩, q⟩ := q1
  subst e
  cases r1
  obtain ⟨its, rv, p, hz⟩ := I1.tuple hq
  refine wpAny_pyIter_tuple (show s1.heap.IsTuple a its.toArray from p) ?_
  refine ⟨s1.heap.objs.size, [s1.heap.objs.size], _, _, H1, rfl, I1.kept (t' := s1.toks) fun b o e => Heap.get?_push_of_some _ e, turn_tuple a _, ⟨_, Heap.get?_push_size _ rfl, rfl, rfl⟩, fun b hb => ?_, q⟩
  have e : b = s1.heap.objs.size := by simpa using hb
  subst e
  exact I1.fpOk (Nat.le_refl _) (I1.hok.fresh (Nat.le_refl _))
theorem range_it {pins : List (Addr × Obj)} {σ : St} {H : Hp} {s : Shared} {R : It → Hp → Prop} {E : Value → Shared → Prop} {lo hi : Int} {t u v : Tok} {tk : Nat} (I : Inv X pins σ H s) (h1 : -(2 ^ 62) ≤ lo) (h2 : lo < 2 ^ 62) (h3 : -(2 ^ 62) ≤ hi) (h4 : hi < 2 ^ 62)
    (q : R (Itr lo (hi - lo).toNat) H) : wpAny (model X.prog X.w) X.A (pyIter (.ref s.heap.objs.size)) (PIE X pins σ tg R) E { s with heap := s.heap.push { cls := .type "range", data := .fields #[.int lo t, .int hi u, .int 1 v] }, toks := tk } := by
  refine wpAny_pyIter_range (IsRange.new ..) (small_one h1 h2 h3 h4) ?_
  have I1 : Inv X pins σ H { s with heap := s.heap.push { cls := .type "range", data := .fields #[.int lo t, .int hi u, .int 1 v] }, toks := tk } := I.kept fun b o e => Heap.get?_push_of_some _ e
  refine ⟨(s.heap.push { cls := .type "range", data := .fields #[.int lo t, .int hi u, .int 1 v] }).objs.size, [(s.heap.push { cls := .type "range", data := .fields #[.int lo t, .int hi u, .int 1 v] }).objs.size], _, _, H, rfl,
    I1.kept (t' := tk) fun b o e => Heap.get?_push_of_some _ e, turn_range _ lo (hi - lo).toNat, ?_, fun b hb => ?_, q⟩
  · have e1 : lo + ((0 : Nat) : Int) * 1 = lo := by simp
    have e2 : (((hi - lo).toNat : Nat) : Int) - ((0 : Nat) : Int) = Builtin.Range.rangeSize lo hi 1 := by rw [rangeSize_one]; split <;> omega
    show IsRangeIter _ _ (lo + ((0 : Nat) : Int) * 1) ((((hi - lo).toNat : Nat) : Int) - ((0 : Nat) : Int)) 1
    rw [e1, e2]
    exact Heap.get?_push_size _ rfl
  · have e : b = (s.heap.push { cls := .type "range", data := .fields #[.int lo t, .int hi u, .int 1 v] }).objs.size := by simpa using hb
    subst e
    exact I1.fpOk (Nat.le_refl _) (I1.hok.fresh (Nat.le_refl _))
def iRng1 (ta : TA) : TI := fun σ H R => ta σ H fun vs H1 => ∃ j : Int, vs = [.int j] ∧ -(2 ^ 62) ≤ j ∧ j < 2 ^ 62 ∧ R (Itr 0 j.toNat) H1
theorem pi_range1 {a : Expr} {ta : TA} {p pos : Pos} (hg : Gl X "range") (hm : X.mg "range" = none) (ha : PA X [a] ta) (hs : starEach [a] X.env = [(false, eval a X.env)] := by rfl) : PI X tg (.Call (.Name "range" p) [a] [] pos) (iRng1 ta) := by
  intro pins s σ H R I h
  refine Call_ (ld_blt I hg hm boot_range (PyProof.Rows.callWith_type1 (thn (ha pos pins s σ H _ I h) fun us s1 ⟨vs, H1, I1, r1, q1⟩ => ?_) hs rfl))
  obtain ⟨j, e, q1, q2, q⟩ := q1
  subst e
  cases r1 with
  | cons r rr =>
    cases rr
    obtain ⟨t, rfl⟩ := r
    exact call_range_1 (range_it I1 (by omega) (by omega) q1 q2 (by simpa using q))
def tFor (wi : TI) (g : TG) (tb : TS) : TS := fun D σ H => wi σ H fun J H1 => ∃ W : Nat → Nat → St → Hp → Prop, (∃ m, W 0 m σ H1) ∧ ∀ i m σ H, W i m σ H →
  (J.stop i H ∧ D.nx σ H) ∨ (J.go i H ∧ ∃ N : St → Hp → Prop, (∀ σ' H', N σ' H' → ∃ m', m' < m ∧ W (i + 1) m' σ' H') ∧ ∀ x H', J.yld i H x H' → g x σ H' fun σ2 H2 => tb { D with nx := N, ct := N, bk := D.nx } σ2 H2)
def pinsAt (fp : List Addr) (h : Heap) : List (Addr × Obj) := fp.filterMap fun b => (h.get? b).map fun o => (b, o)
theorem mem_pinsAt {fp : List Addr} {h : Heap} {b : Addr} {o : Obj} (hb : b ∈ fp) (e : h.get? b = some o) : (b, o) ∈ pinsAt fp h := List.mem_filterMap.mpr ⟨b, hb, by rw [e]; rfl⟩
theorem of_pinsAt {fp : List Addr} {h : Heap} {p : Addr × Obj} (hp : p ∈ pinsAt fp h) : p.1 ∈ fp ∧ h.get? p.1 = some p.2 := by
  obtain ⟨b, hb, e⟩ := List.mem_filterMap.mp hp
  cases q : h.get? b with
  | none => rw [q] at e; cases e
  | some o =>
    rw [q] at e
    have e' : (b, o) = p := Option.some.inj e
    subst e'
    exact ⟨hb, q⟩
theorem Inv.pinned {pins : List (Addr × Obj)} {σ : St} {H : Hp} {s : Shared} {fp : List Addr} (I : Inv X pins σ H s) (hf : ∀ b ∈ fp, FpOk X pins H b) (ho : ∀ b ∈ fp, ∃ o, s.heap.get? b = some o ∧ ∀ v, o.data ≠ .cell v) : Inv X (pins ++ pinsAt fp s.heap) σ H s :=
  I.pins_of fun p hp => (List.mem_append.mp hp).elim (fun z => I.pin p (List.mem_append_right _ z)) fun z => by
    obtain ⟨hb, e⟩ := of_pinsAt z
    obtain ⟨f0, f1, f2, _⟩ := hf p.1 hb
    obtain ⟨o, e', d⟩ := ho p.1 hb
    rw [e] at e'; cases e'
    exact ⟨e, f0, f1, f2, d⟩
theorem Inv.unpinned {pins pl : List (Addr × Obj)} {σ : St} {H : Hp} {s : Shared} (I : Inv X (pins ++ pl) σ H s) : Inv X pins σ H s := I.pins_of fun p hp => I.pin p (List.mem_append_right _ (List.mem_append_left _ hp))
theorem ps_for {iter : Expr} {body : List Stmt} {wi : TI} {g : TG} {tb : TS} {pos : Pos} (hp : PassesOwn (model X.prog X.w) X.A X.env X.xe) (hc : X.calm = true) (hi : PI X tg iter wi) (hg : PG X tg g) (hb : PSs X body tb)
    (hs : ∀ x, foldedSetIterable iter X.env x = pure x := by intro _; rfl) : PS X (.For tg iter body [] pos) (tFor wi g tb) := by
  intro pins s σ H D I h
  refine wpAny_For (thn (hi pins s σ H _ I h) fun v s1 h1 => thn h1 fun itv s2 h2 => ?_) hs
  obtain ⟨it, fp, tn, J, H2, e, I2, T, st2, f2, W, ⟨m0, w0⟩, turn⟩ := h2
  subst e
  -- what stays true of the iterator's objects through the loop
  have stat : ∀ {H' : Hp}, (∀ b ∈ fp, H' b = none) → ∀ b ∈ fp, FpOk X pins H' b := fun hn b hb => ⟨hn b hb, (f2 b hb).2⟩
  refine codeAny_forLoop_any (fun n s' => ∃ i σ' H', Inv X pins σ' H' s' ∧ tn i s'.heap ∧ (∀ b ∈ fp, H' b = none) ∧ W i n σ' H') ?_ m0 ⟨0, σ, H2, I2, st2, fun b hb => (f2 b hb).1, w0⟩
  rintro n s3 ⟨i, σ3, H3, I3, st3, fr3, w3⟩
  rcases turn i n σ3 H3 w3 with ⟨stop, qn⟩ | ⟨go, N, hN, step⟩
  · refine wpAny_passesOwn hp (thn (T.done X rfl rfl rfl hc i pins s3 σ3 H3 X.xe I3 (stat fr3) st3 stop) fun r s4 ⟨hr, I4⟩ => ?_)
    subst hr
    exact wpAny_execs_nil ⟨σ3, H3, I4, qn⟩
  · refine wpAny_passesOwn hp (thn (T.item X rfl rfl rfl hc i pins s3 σ3 H3 X.xe I3 (stat fr3) st3 go) fun r s4 ⟨u, hr, h4⟩ => ?_)
    subst hr
    refine wpAny_passesOwn hp (thn h4 fun _ s5 ⟨x, H5, I5, r5, y5, st5, fr5⟩ => ?_)
    have I5' := I5.pinned (stat fr5) (T.obj _ _ st5)
    refine wpAny_passesOwn hp (thn (hg _ s5 σ3 H5 x u _ I5' r5 (step x H5 y5)) fun _ s6 ⟨σ6, H6, I6, q6⟩ => ?_)
    refine wpAny_passesOwn hp (thn (hb _ s6 σ6 H6 _ I6 q6) fun f s7 q7 => ?_)
    have again : ∀ {σ7 : St} {H7 : Hp}, Inv X (pins ++ pinsAt fp s5.heap) σ7 H7 s7 → N σ7 H7 → ∃ m, m < n ∧ ∃ i σ' H', Inv X pins σ' H' s7 ∧ tn i s7.heap ∧ (∀ b ∈ fp, H' b = none) ∧ W i m σ' H' := fun {σ7 H7} I7 n7 => by
      obtain ⟨m', hm, w7⟩ := hN σ7 H7 n7
      refine ⟨m', hm, i + 1, σ7, H7, I7.unpinned, T.keep _ _ _ st5 fun b hb o e => (I7.pin (b, o) (List.mem_append_right _ (List.mem_append_right _ (mem_pinsAt hb e)))).1, fun b hb => ?_, w7⟩
      obtain ⟨o, e, d⟩ := T.obj _ _ st5 b hb
      exact (I7.pin (b, o) (List.mem_append_right _ (List.mem_append_right _ (mem_pinsAt hb e)))).2.1
    cases f with
    | next => obtain ⟨σ7, H7, I7, n7⟩ := q7; exact again I7 n7
    | cont => obtain ⟨σ7, H7, I7, n7⟩ := q7; exact again I7 n7
    | brk => obtain ⟨σ7, H7, I7, q7⟩ := q7; exact ⟨σ7, H7, I7.unpinned, q7⟩
    | ret v => obtain ⟨x7, σ7, H7, I7, r7, q7⟩ := q7; exact ⟨x7, σ7, H7, I7.unpinned, r7, q7⟩
end
theorem for_list {K : PySem.W.Frag} {a : Addr} {xs : List V} {g : TG} {tb : TS} {D : Ends} {σ : St} {H : Hp} (Pv : Nat → St → Hp → Prop) (h0 : Pv 0 σ H) (hl : ∀ i σ H, i ≤ xs.length → Pv i σ H → SqL K H a xs)
    (hs : ∀ i x σ H, xs[i]? = some x → Pv i σ H → g x σ H fun σ2 H2 => tb { D with nx := Pv (i + 1), ct := Pv (i + 1), bk := D.nx } σ2 H2) (hd : ∀ σ H, Pv xs.length σ H → D.nx σ H) :
    ∃ W : Nat → Nat → St → Hp → Prop, (∃ m, W 0 m σ H) ∧ ∀ i m σ H, W i m σ H →
      ((Itl K a).stop i H ∧ D.nx σ H) ∨ ((Itl K a).go i H ∧ ∃ N : St → Hp → Prop, (∀ σ' H', N σ' H' → ∃ m', m' < m ∧ W (i + 1) m' σ' H') ∧ ∀ x H', (Itl K a).yld i H x H' → g x σ H' fun σ2 H2 => tb { D with nx := N, ct := N, bk := D.nx } σ2 H2) := by
  refine ⟨fun i m σ H => m = xs.length - i ∧ i ≤ xs.length ∧ Pv i σ H, ⟨xs.length, by simp, Nat.zero_le _, h0⟩, ?_⟩
  rintro i m σ H ⟨rfl, hi, p⟩
  have q := hl i σ H hi p
  by_cases hlt : i < xs.length
  · refine .inr ⟨⟨xs, xs[i], q, by simp [hlt]⟩, Pv (i + 1), fun σ' H' p' => ⟨xs.length - (i + 1), by omega, rfl, hlt, p'⟩, fun x H' y => ?_⟩
    obtain ⟨e, y⟩ := y
    subst e
    exact hs i x σ _ (y xs q) p
  · have e : i = xs.length := by omega
    subst e
    exact .inl ⟨⟨xs, q, Nat.le_refl _⟩, hd σ H p⟩
theorem for_tup {K : PySem.W.Frag} {a : Addr} {xs : List V} {g : TG} {tb : TS} {D : Ends} {σ : St} {H : Hp} (Pv : Nat → St → Hp → Prop) (h0 : Pv 0 σ H) (hl : ∀ i σ H, i ≤ xs.length → Pv i σ H → SqT K H a xs)
    (hs : ∀ i x σ H, xs[i]? = some x → Pv i σ H → g x σ H fun σ2 H2 => tb { D with nx := Pv (i + 1), ct := Pv (i + 1), bk := D.nx } σ2 H2) (hd : ∀ σ H, Pv xs.length σ H → D.nx σ H) :
    ∃ W : Nat → Nat → St → Hp → Prop, (∃ m, W 0 m σ H) ∧ ∀ i m σ H, W i m σ H →
      ((Itt K a).stop i H ∧ D.nx σ H) ∨ ((Itt K a).go i H ∧ ∃ N : St → Hp → Prop, (∀ σ' H', N σ' H' → ∃ m', m' < m ∧ W (i + 1) m' σ' H') ∧ ∀ x H', (Itt K a).yld i H x H' → g x σ H' fun σ2 H2 => tb { D with nx := N, ct := N, bk := D.nx } σ2 H2) := by
  refine ⟨fun i m σ H => m = xs.length - i ∧ i ≤ xs.length ∧ Pv i σ H, ⟨xs.length, by simp, Nat.zero_le _, h0⟩, ?_⟩
  rintro i m σ H ⟨rfl, hi, p⟩
  have q := hl i σ H hi p
  by_cases hlt : i < xs.length
  · refine .inr ⟨⟨xs, xs[i], q, by simp [hlt]⟩, Pv (i + 1), fun σ' H' p' => ⟨xs.length - (i + 1), by omega, rfl, hlt, p'⟩, fun x H' y => ?_⟩
    obtain ⟨e, y⟩ := y
    subst e
    exact hs i x σ _ (y xs q) p
  · have e : i = xs.length := by omega
    subst e
    exact .inl ⟨⟨xs, q, Nat.le_refl _⟩, hd σ H p⟩
theorem for_range {lo : Int} {n : Nat} {g : TG} {tb : TS} {D : Ends} {σ : St} {H : Hp} (Pv : Nat → St → Hp → Prop) (h0 : Pv 0 σ H)
    (hs : ∀ i σ H, i < n → Pv i σ H → g (.int (lo + i)) σ H fun σ2 H2 => tb { D with nx := Pv (i + 1), ct := Pv (i + 1), bk := D.nx } σ2 H2) (hd : ∀ σ H, Pv n σ H → D.nx σ H) :
    ∃ W : Nat → Nat → St → Hp → Prop, (∃ m, W 0 m σ H) ∧ ∀ i m σ H, W i m σ H →
      ((Itr lo n).stop i H ∧ D.nx σ H) ∨ ((Itr lo n).go i H ∧ ∃ N : St → Hp → Prop, (∀ σ' H', N σ' H' → ∃ m', m' < m ∧ W (i + 1) m' σ' H') ∧ ∀ x H', (Itr lo n).yld i H x H' → g x σ H' fun σ2 H2 => tb { D with nx := N, ct := N, bk := D.nx } σ2 H2) := by
  refine ⟨fun i m σ H => m = n - i ∧ i ≤ n ∧ Pv i σ H, ⟨n, by simp, Nat.zero_le _, h0⟩, ?_⟩
  rintro i m σ H ⟨rfl, hi, p⟩
  by_cases hlt : i < n
  · refine .inr ⟨hlt, Pv (i + 1), fun σ' H' p' => ⟨n - (i + 1), by omega, rfl, hlt, p'⟩, fun x H' y => ?_⟩
    obtain ⟨e, y⟩ := y
    subst e y
    exact hs i σ _ hlt p
  · have e : i = n := by omega
    subst e
    exact .inl ⟨Nat.le_refl _, hd σ H p⟩
end L2
namespace L2
open PySem PySem.Spec PyProof.Rows
abbrev R2 := V → V → Hp → VK → Prop
def OpR (X : Cx) (f : Value → Value → Sem Value) (r : R2) : Prop :=
  ∀ (pins : List (Addr × Obj)) (s : Shared) (σ : St) (H : Hp) (x y : V) (v u : Value) (Q : VK), Inv X pins σ H s → RelV x v → RelV y u → r x y H Q →
    wpAny (model X.prog X.w) X.A (f v u) (EP X pins σ Q) X.xe s
def UnR (X : Cx) (f : Value → Sem Value) (r : V → Hp → VK → Prop) : Prop :=
  ∀ (pins : List (Addr × Obj)) (s : Shared) (σ : St) (H : Hp) (x : V) (v : Value) (Q : VK), Inv X pins σ H s → RelV x v → r x H Q →
    wpAny (model X.prog X.w) X.A (f v) (EP X pins σ Q) X.xe s
def CallR (X : Cx) (f : Value) (r : List V → Hp → VK → Prop) : Prop :=
  ∀ (pins : List (Addr × Obj)) (s : Shared) (σ : St) (H : Hp) (xs : List V) (us : List Value) (Q : VK), Inv X pins σ H s → Vals xs us → r xs H Q →
    wpAny (model X.prog X.w) X.A (call f us) (EP X pins σ Q) X.xe s
def tOp (r : R2) (ta tb : TE) : TE := fun σ H Q => ta σ H fun x H1 => tb σ H1 fun y H2 => r x y H2 Q
def tUn (r : V → Hp → VK → Prop) (ta : TE) : TE := fun σ H Q => ta σ H fun x H1 => r x H1 Q
def rI (C : Int → Int → Prop) (g : Int → Int → V) : R2 := fun x y H Q => ∃ i j, x = .int i ∧ y = .int j ∧ C i j ∧ Q (g i j) H
def rI0 (g : Int → Int → V) : R2 := fun x y H Q => ∃ i j, x = .int i ∧ y = .int j ∧ Q (g i j) H
def rU (g : Int → V) : V → Hp → VK → Prop := fun x H Q => ∃ i, x = .int i ∧ Q (g i) H
section
variable {X : Cx} {a b c : Expr} {ta tb tc : TE} {pos : Pos}
theorem binT (ha : PE X a ta) (hb : PE X b tb) {pins : List (Addr × Obj)} {s : Shared} {σ : St} {H : Hp} {R : V → V → Hp → Prop} (I : Inv X pins σ H s)
    (h : ta σ H fun x H1 => tb σ H1 fun y H2 => R x y H2) {Q : Value → Shared → Prop} {f : Value → Value → Sem Value}
    (hf : ∀ v u s2 x y H2, Inv X pins σ H2 s2 → RelV x v → RelV y u → R x y H2 → wpAny (model X.prog X.w) X.A (f v u) Q X.xe s2) :
    wpAny (model X.prog X.w) X.A (eval a X.env) (fun v s₁ => wpAny (model X.prog X.w) X.A (eval b X.env) (fun u s₂ => wpAny (model X.prog X.w) X.A (f v u) Q X.xe s₂) X.xe s₁) X.xe s := by
  refine thn (ha pins s σ H _ I h) fun v s1 ⟨x, H1, I1, r1, q1⟩ => ?_
  refine thn (hb pins s1 σ H1 _ I1 q1) fun u s2 ⟨y, H2, I2, r2, q2⟩ => ?_
  exact hf v u s2 x y H2 I2 r1 r2 q2
theorem pe_op {op : Operator} {r : R2} (ho : OpR X (binaryOp op) r) (ha : PE X a ta) (hb : PE X b tb) : PE X (.BinOp a op b pos) (tOp r ta tb) := by
  intro pins s σ H Q I h
  exact wpAny_BinOp (binT ha hb I h fun v u s2 x y H2 I2 rx ry q => ho pins s2 σ H2 x y v u Q I2 rx ry q)
theorem pe_un {op : UnaryOp} {r : V → Hp → VK → Prop} (ho : UnR X (unaryOp op) r) (ha : PE X a ta) : PE X (.UnaryOp op a pos) (tUn r ta) := by
  intro pins s σ H Q I h
  exact UnaryOp_ (thn (ha pins s σ H _ I h) fun v s1 ⟨x, H1, I1, r1, q1⟩ => ho pins s1 σ H1 x v Q I1 r1 q1)
theorem opI {f : Value → Value → Sem Value} {C : Int → Int → Prop} {g : Int → Int → Int}
    (rule : ∀ (i j : Int) (t u : Tok) (s : Shared) (Q : Value → Shared → Prop) (E : Value → Shared → Prop), C i j → Q (.int (g i j) s.toks) { s with toks := s.toks + 1 } → wpAny (model X.prog X.w) X.A (f (.int i t) (.int j u)) Q E s) :
    OpR X f (rI C fun i j => .int (g i j)) := by
  intro pins s σ H x y v u Q I rx ry h
  obtain ⟨i, j, rfl, rfl, hc, q⟩ := h
  obtain ⟨t, rfl⟩ := rx
  obtain ⟨t', rfl⟩ := ry
  exact rule i j t t' s _ _ hc ⟨.int (g i j), H, I.tok _, ⟨_, rfl⟩, q⟩
theorem opI0 {f : Value → Value → Sem Value} {g : Int → Int → Int}
    (rule : ∀ (i j : Int) (t u : Tok) (s : Shared) (Q : Value → Shared → Prop) (E : Value → Shared → Prop), Q (.int (g i j) s.toks) { s with toks := s.toks + 1 } → wpAny (model X.prog X.w) X.A (f (.int i t) (.int j u)) Q E s) :
    OpR X f (rI0 fun i j => .int (g i j)) := by
  intro pins s σ H x y v u Q I rx ry h
  obtain ⟨i, j, rfl, rfl, q⟩ := h
  obtain ⟨t, rfl⟩ := rx
  obtain ⟨t', rfl⟩ := ry
  exact rule i j t t' s _ _ ⟨.int (g i j), H, I.tok _, ⟨_, rfl⟩, q⟩
theorem opB0 {f : Value → Value → Sem Value} {g : Int → Int → Bool}
    (rule : ∀ (i j : Int) (t u : Tok) (s : Shared) (Q : Value → Shared → Prop) (E : Value → Shared → Prop), Q (.bool (g i j)) s → wpAny (model X.prog X.w) X.A (f (.int i t) (.int j u)) Q E s) :
    OpR X f (rI0 fun i j => .bl (g i j)) := by
  intro pins s σ H x y v u Q I rx ry h
  obtain ⟨i, j, rfl, rfl, q⟩ := h
  obtain ⟨t, rfl⟩ := rx
  obtain ⟨t', rfl⟩ := ry
  exact rule i j t t' s _ _ ⟨.bl (g i j), H, I, rfl, q⟩
def CDiv (i j : Int) : Prop := 0 < j ∧ j < 1073741824
def CMul (i j : Int) : Prop := (-(2 ^ 64) < i ∧ i < 2 ^ 64) ∨ (-(2 ^ 64) < j ∧ j < 2 ^ 64)
theorem CMul.ok {i j : Int} (h : CMul i j) : IntMulOk i j := by
  rcases h with ⟨h1, h2⟩ | ⟨h1, h2⟩
  · exact .of_left (intBits_le_64 h1 h2)
  · exact .of_right (intBits_le_64 h1 h2)
theorem op_add : OpR X (binaryOp .Add) (rI0 fun i j => .int (i + j)) := opI0 fun _ _ _ _ _ _ _ q => add_int q
theorem op_mul : OpR X (binaryOp .Mult) (rI CMul fun i j => .int (i * j)) := opI fun _ _ _ _ _ _ _ hc q => mul_int q hc.ok
theorem op_fdiv : OpR X (binaryOp .FloorDiv) (rI CDiv fun i j => .int (i / j)) := opI fun i j _ _ _ _ _ hc q => by
  have h1 : (0 : Int) < j := hc.1
  have h2 : j < 1073741824 := hc.2
  exact floordiv_int (by omega) (by rw [Int.fdiv_eq_ediv_of_nonneg i (by omega)]; exact q) (.inl (PyProof.noPylong_small (by omega)))
theorem op_mod : OpR X (binaryOp .Mod) (rI (fun _ j => 0 < j) fun i j => .int (i % j)) := opI fun i j _ _ _ _ _ hc q => by
  have h1 : (0 : Int) < j := hc
  exact mod_int' (by omega) (by rw [Int.fmod_eq_emod_of_nonneg i (by omega)]; exact q)
theorem unI {f : Value → Sem Value} {g : Int → Int}
    (rule : ∀ (i : Int) (t : Tok) (s : Shared) (Q : Value → Shared → Prop) (E : Value → Shared → Prop), Q (.int (g i) s.toks) { s with toks := s.toks + 1 } → wpAny (model X.prog X.w) X.A (f (.int i t)) Q E s) :
    UnR X f (rU fun i => .int (g i)) := by
  intro pins s σ H x v Q I rx h
  obtain ⟨i, rfl, q⟩ := h
  obtain ⟨t, rfl⟩ := rx
  exact rule i t s _ _ ⟨.int (g i), H, I.tok _, ⟨_, rfl⟩, q⟩
theorem un_neg : UnR X (unaryOp .USub) (rU fun i => .int (-i)) := unI fun _ _ _ _ _ q => neg_int q
end
def scal : V → V → Bool
  | .non, .non => true | .non, .int _ => true | .int _, .non => true | .non, .bl _ => true | .bl _, .non => true | .non, .str _ => true | .str _, .non => true
  | .int _, .int _ => true | .bl _, .bl _ => true | .str _, .str _ => true | .byt _, .byt _ => true
  | .int _, .str _ => true | .str _, .int _ => true | .bl _, .str _ => true | .str _, .bl _ => true
  | _, _ => false
def rEq : R2 := fun x y H Q => scal x y = true ∧ Q (.bl (decide (x = y))) H
def rNe : R2 := fun x y H Q => scal x y = true ∧ Q (.bl (!decide (x = y))) H
theorem dec_int {i j : Int} : decide (V.int i = V.int j) = (i == j) := by
  rw [Bool.eq_iff_iff]
  simp
theorem dec_bl {i j : Bool} : decide (V.bl i = V.bl j) = (i == j) := by
  rw [Bool.eq_iff_iff]
  simp
theorem dec_str {i j : Str} : decide (V.str i = V.str j) = (i == j) := by
  rw [Bool.eq_iff_iff]
  simp
theorem dec_byt {i j : Array UInt8} : decide (V.byt i = V.byt j) = (i.toList == j.toList) := by
  rw [Bool.eq_iff_iff]
  cases i
  cases j
  simp
section
variable {X : Cx} {a b c : Expr} {ta tb tc : TE} {pos : Pos}
theorem fin_bl {pins : List (Addr × Obj)} {σ : St} {H : Hp} {s : Shared} {Q : VK} {k k' : Bool} (I : Inv X pins σ H s) (q : Q (.bl k) H) (e : k = k') : EP X pins σ Q (.bool k') s := by
  subst e
  exact ⟨.bl k, H, I, rfl, q⟩
theorem op_eq : OpR X (compareOp .Eq) rEq := by
  intro pins s σ H x y v u Q I rx ry h
  obtain ⟨hs, q⟩ := h
  cases x with
  | non =>
    cases rx
    cases y with
    | non => cases ry; exact PySem.EqNone.eq_none_none (fin_bl I q (by simp))
    | bl j => cases ry; exact PySem.EqNone.eq_none_bool (fin_bl I q (by simp))
    | int j => obtain ⟨t', rfl⟩ := ry; exact PySem.EqNone.eq_none_int (fin_bl I q (by simp))
    | str j => obtain ⟨t', rfl⟩ := ry; exact PySem.EqNone.eq_none_str (fin_bl I q (by simp))
    | _ => exact absurd (show false = true from hs) Bool.false_ne_true
  | bl i =>
    cases rx
    cases y with
    | non => cases ry; exact PySem.EqNone.eq_bool_none (fin_bl I q (by simp))
    | bl j => cases ry; exact eq_bool (fin_bl I q dec_bl)
    | str j => obtain ⟨t', rfl⟩ := ry; exact PySem.EqMixed.eq_bool_str (fin_bl I q (by simp))
    | _ => exact absurd (show false = true from hs) Bool.false_ne_true
  | int i =>
    obtain ⟨t, rfl⟩ := rx
    cases y with
    | non => cases ry; exact PySem.EqNone.eq_int_none (fin_bl I q (by simp))
    | int j => obtain ⟨t', rfl⟩ := ry; exact eq_int (fin_bl I q dec_int)
    | str j => obtain ⟨t', rfl⟩ := ry; exact PySem.EqMixed.eq_int_str (fin_bl I q (by simp))
    | _ => exact absurd (show false = true from hs) Bool.false_ne_true
  | str i =>
    obtain ⟨t, rfl⟩ := rx
    cases y with
    | non => cases ry; exact PySem.EqNone.eq_str_none (fin_bl I q (by simp))
    | bl j => cases ry; exact PySem.EqMixed.eq_str_bool (fin_bl I q (by simp))
    | int j => obtain ⟨t', rfl⟩ := ry; exact PySem.EqMixed.eq_str_int (fin_bl I q (by simp))
    | str j => obtain ⟨t', rfl⟩ := ry; exact eq_str (fin_bl I q dec_str)
    | _ => exact absurd (show false = true from hs) Bool.false_ne_true
  | byt i =>
    obtain ⟨t, rfl⟩ := rx
    cases y with
    | byt j => obtain ⟨t', rfl⟩ := ry; exact PySem.W.eq_bytes (fin_bl I q dec_byt)
    | _ => exact absurd (show false = true from hs) Bool.false_ne_true
  | _ => cases y <;> exact absurd (show false = true from hs) Bool.false_ne_true
theorem op_ne : OpR X (compareOp .NotEq) rNe := by
  intro pins s σ H x y v u Q I rx ry h
  obtain ⟨hs, q⟩ := h
  cases x with
  | non =>
    cases rx
    cases y with
    | non => cases ry; exact PySem.EqNone.ne_none_none (fin_bl I q (by simp))
    | bl j => cases ry; exact PySem.EqNone.ne_none_bool (fin_bl I q (by simp))
    | int j => obtain ⟨t', rfl⟩ := ry; exact PySem.EqNone.ne_none_int (fin_bl I q (by simp))
    | str j => obtain ⟨t', rfl⟩ := ry; exact PySem.EqNone.ne_none_str (fin_bl I q (by simp))
    | _ => exact absurd (show false = true from hs) Bool.false_ne_true
  | bl i =>
    cases rx
    cases y with
    | non => cases ry; exact PySem.EqNone.ne_bool_none (fin_bl I q (by simp))
    | bl j => cases ry; exact ne_bool (fin_bl I q (congrArg not dec_bl))
    | str j => obtain ⟨t', rfl⟩ := ry; exact PySem.EqMixed.ne_bool_str (fin_bl I q (by simp))
    | _ => exact absurd (show false = true from hs) Bool.false_ne_true
  | int i =>
    obtain ⟨t, rfl⟩ := rx
    cases y with
    | non => cases ry; exact PySem.EqNone.ne_int_none (fin_bl I q (by simp))
    | int j => obtain ⟨t', rfl⟩ := ry; exact ne_int (fin_bl I q (congrArg not dec_int))
    | str j => obtain ⟨t', rfl⟩ := ry; exact PySem.EqMixed.ne_int_str (fin_bl I q (by simp))
    | _ => exact absurd (show false = true from hs) Bool.false_ne_true
  | str i =>
    obtain ⟨t, rfl⟩ := rx
    cases y with
    | non => cases ry; exact PySem.EqNone.ne_str_none (fin_bl I q (by simp))
    | bl j => cases ry; exact PySem.EqMixed.ne_str_bool (fin_bl I q (by simp))
    | int j => obtain ⟨t', rfl⟩ := ry; exact PySem.EqMixed.ne_str_int (fin_bl I q (by simp))
    | str j => obtain ⟨t', rfl⟩ := ry; exact ne_str (fin_bl I q (congrArg not dec_str))
    | _ => exact absurd (show false = true from hs) Bool.false_ne_true
  | byt i =>
    obtain ⟨t, rfl⟩ := rx
    cases y with
    | byt j => obtain ⟨t', rfl⟩ := ry; exact PySem.W.ne_bytes (fin_bl I q (congrArg not dec_byt))
    | _ => exact absurd (show false = true from hs) Bool.false_ne_true
  | _ => cases y <;> exact absurd (show false = true from hs) Bool.false_ne_true
theorem op_lt : OpR X (compareOp .Lt) (rI0 fun i j => .bl (decide (i < j))) := opB0 fun _ _ _ _ _ _ _ q => lt_int q
theorem op_le : OpR X (compareOp .LtE) (rI0 fun i j => .bl (decide (i ≤ j))) := opB0 fun _ _ _ _ _ _ _ q => le_int q
theorem op_gt : OpR X (compareOp .Gt) (rI0 fun i j => .bl (decide (j < i))) := opB0 fun _ _ _ _ _ _ _ q => gt_int q
theorem op_in_str : OpR X (compareOp .In) (fun x y H Q => ∃ i j, x = .str i ∧ y = .str j ∧ Q (.bl (!(Builtin.Str.occurrences j i 0 j.length 1).isEmpty)) H) := by
  intro pins s σ H x y v u Q I rx ry h
  obtain ⟨i, j, rfl, rfl, q⟩ := h
  obtain ⟨t, rfl⟩ := rx
  obtain ⟨t', rfl⟩ := ry
  exact in_str (fin_bl I q rfl)
theorem op_isN : OpR X (compareOp .Is) (fun x y H Q => y = .non ∧ Q (.bl (decide (x = .non))) H) := by
  intro pins s σ H x y v u Q I rx ry h
  obtain ⟨rfl, q⟩ := h
  cases ry
  refine is_none_gen (fin_bl I q ?_)
  cases x <;> first
    | (cases rx; rfl)
    | (obtain ⟨t, rfl⟩ := rx; rfl)
theorem op_notN : OpR X (compareOp .IsNot) (fun x y H Q => y = .non ∧ Q (.bl (!decide (x = .non))) H) := by
  intro pins s σ H x y v u Q I rx ry h
  obtain ⟨rfl, q⟩ := h
  cases ry
  refine isnot_none_gen (fin_bl I q ?_)
  cases x <;> first
    | (cases rx; rfl)
    | (obtain ⟨t, rfl⟩ := rx; rfl)
theorem nomark (b : Expr) {op : CmpOp} (h : op ≠ .In := by decide) (h2 : op ≠ .NotIn := by decide) : behindInMarks op b = false := by
  have e1 : (op == CmpOp.In) = false := by cases op <;> first | rfl | exact absurd rfl h
  have e2 : (op == CmpOp.NotIn) = false := by cases op <;> first | rfl | exact absurd rfl h2
  cases b <;> simp [behindInMarks, e1, e2]
theorem pe_cmpR {op : CmpOp} {r : R2} (ho : OpR X (compareOp op) r) (ha : PE X a ta) (hb : PE X b tb) (hm : behindInMarks op b = false) : PE X (.Compare a [op] [b] pos) (tOp r ta tb) := by
  intro pins s σ H Q I h
  exact wpAny_Compare1 (binT ha hb I h fun v u s2 x y H2 I2 rx ry q => ho pins s2 σ H2 x y v u Q I2 rx ry q) hm
def tTest (t : TE) : TT := fun σ H Q => t σ H fun x H' => ∃ k, x = .bl k ∧ Q k H'
theorem pt_cmpR {op : CmpOp} {r : R2} (ho : OpR X (compareOp op) r) (ha : PE X a ta) (hb : PE X b tb) (hm : behindInMarks op b = false) : PT X (.Compare a [op] [b] pos) (tTest (tOp r ta tb)) := by
  intro pins s σ H Q I h
  refine wpAny_isTrue_Compare1 (thn (ha pins s σ H _ I h) fun v s1 ⟨x, H1, I1, r1, q1⟩ => thn (hb pins s1 σ H1 _ I1 q1) fun u s2 ⟨y, H2, I2, r2, q2⟩ =>
    thn (ho pins s2 σ H2 x y v u _ I2 r1 r2 q2) fun c s3 ⟨z, H3, I3, r3, k, e, q3⟩ => ?_) hm
  subst e
  cases r3
  exact wpAny_truthy_bool ⟨H3, I3, q3⟩
def tChain (r r' : R2) (ta tb tc : TE) : TE := fun σ H Q => ta σ H fun x H1 => tb σ H1 fun y H2 => r x y H2 fun z H3 => ∃ k, z = .bl k ∧
  (if k = true then tc σ H3 fun w' H4 => r' y w' H4 Q else Q (.bl false) H3)
theorem pe_chain {op op' : CmpOp} {r r' : R2} (ho : OpR X (compareOp op) r) (ho' : OpR X (compareOp op') r') (ha : PE X a ta) (hb : PE X b tb) (hc : PE X c tc)
    (hm : lastMarks [op, op'] [b, c] = false := by with_unfolding_all rfl) : PE X (.Compare a [op, op'] [b, c] pos) (tChain r r' ta tb tc) := by
  intro pins s σ H Q I h
  refine Compare_chain (thn (ha pins s σ H _ I h) fun v s1 ⟨x, H1, I1, r1, q1⟩ => chain_link (thn (hb pins s1 σ H1 _ I1 q1) fun u s2 ⟨y, H2, I2, r2, q2⟩ =>
    thn (ho pins s2 σ H2 x y v u _ I2 r1 r2 q2) fun d s3 ⟨z, H3, I3, r3, k, e, q3⟩ => ?_)) hm
  subst e
  cases r3
  refine wpAny_truthy_bool ?_
  cases k with
  | false => exact ite_ff ⟨.bl false, H3, I3, rfl, q3⟩
  | true => exact ite_tt (chain_last (thn (hc pins s3 σ H3 _ I3 q3) fun w' s4 ⟨z', H4, I4, r4, q4⟩ => ho' pins s4 σ H4 y z' u w' Q I4 r2 r4 q4))
theorem pt_chain {op op' : CmpOp} {r r' : R2} (ho : OpR X (compareOp op) r) (ho' : OpR X (compareOp op') r') (ha : PE X a ta) (hb : PE X b tb) (hc : PE X c tc)
    (hm : lastMarks [op, op'] [b, c] = false := by with_unfolding_all rfl) : PT X (.Compare a [op, op'] [b, c] pos) (tTest (tChain r r' ta tb tc)) := by
  intro pins s σ H Q I h
  refine isTrue_chain (thn (ha pins s σ H _ I h) fun v s1 ⟨x, H1, I1, r1, q1⟩ => test_link (thn (hb pins s1 σ H1 _ I1 q1) fun u s2 ⟨y, H2, I2, r2, q2⟩ =>
    thn (ho pins s2 σ H2 x y v u _ I2 r1 r2 q2) fun d s3 ⟨z, H3, I3, r3, k, e, q3⟩ => ?_)) hm
  subst e
  cases r3
  refine wpAny_truthy_bool ?_
  cases k with
  | false =>
    obtain ⟨k', e', q'⟩ := q3
    cases e'
    exact ite_ff ⟨H3, I3, q'⟩
  | true =>
    refine ite_tt (test_last (thn (hc pins s3 σ H3 _ I3 q3) fun w' s4 ⟨z', H4, I4, r4, q4⟩ => thn (ho' pins s4 σ H4 y z' u w' _ I4 r2 r4 q4) fun d' s5 ⟨z2, H5, I5, r5, k2, e2, q5⟩ => ?_))
    subst e2
    cases r5
    exact wpAny_truthy_bool ⟨H5, I5, q5⟩
theorem line63 : (sizeLine : Nat) < 2 ^ 63 := by rw [sizeLine_eq]; decide
theorem op_add_str : OpR X (binaryOp .Add) (fun x y H Q => ∃ i j, x = .str i ∧ y = .str j ∧ i.length + j.length ≤ sizeLine ∧ Q (.str (i ++ j)) H) := by
  intro pins s σ H x y v u Q I rx ry h
  obtain ⟨i, j, rfl, rfl, hz, q⟩ := h
  obtain ⟨t, rfl⟩ := rx
  obtain ⟨t', rfl⟩ := ry
  exact add_str (fun t' tk => ⟨.str (i ++ j), H, I.tok _, ⟨_, rfl⟩, q⟩) hz
theorem vals1 {x : V} {us : List Value} (r : Vals [x] us) : ∃ u, us = [u] ∧ RelV x u := by
  cases r with
  | cons r1 r2 => cases r2; exact ⟨_, rfl, r1⟩
theorem vals2 {x y : V} {us : List Value} (r : Vals [x, y] us) : ∃ u w', us = [u, w'] ∧ RelV x u ∧ RelV y w' := by
  cases r with
  | cons r1 r2 =>
    cases r2 with
    | cons r3 r4 => cases r4; exact ⟨_, _, rfl, r1, r3⟩
theorem call_int1 : CallR X (.type "int") (fun xs H Q => (∃ i, xs = [.int i] ∧ Q (.int i) H) ∨ ∃ k, xs = [.bl k] ∧ Q (.int (if k then 1 else 0)) H) := by
  intro pins s σ H xs us Q I r h
  rcases h with ⟨i, rfl, q⟩ | ⟨k, rfl, q⟩
  · obtain ⟨u, rfl, t, rfl⟩ := vals1 r
    exact call_int_int ⟨.int i, H, I, ⟨_, rfl⟩, q⟩
  · obtain ⟨u, rfl, r1⟩ := vals1 r
    cases r1
    exact call_int_bool ⟨.int (if k then 1 else 0), H, I.tok _, ⟨_, rfl⟩, q⟩
theorem call_str_int : CallR X (.type "str") (fun xs H Q => ∃ i, xs = [.int i] ∧ i.natAbs.log2 < 1920 ∧ Q (.str (toString i)) H) := by
  intro pins s σ H xs us Q I r h
  obtain ⟨i, rfl, hz, q⟩ := h
  obtain ⟨u, rfl, t, rfl⟩ := vals1 r
  exact PySem.P.str_of_int hz ⟨.str _, H, I.tok _, ⟨_, rfl⟩, q⟩
end
end L2
namespace L2
open PySem PySem.Spec PyProof.Rows
structure ObjM (h : Heap) (x dx C : Addr) (mA : Str → Option Value) : Prop where
  obj : h.get? x = some (PySem.W.instObj C dx)
  ns : h.Ns1 dx mA
  ne : dx ≠ x
theorem lookIn_ns {h : Heap} {dx : Addr} {mA : Str → Option Value} (n : h.Ns1 dx mA) : ∃ od, h.get? dx = some od ∧ ∀ name, PySem.W.lookIn name od = some (mA name) := by
  obtain ⟨o, es, ep, ho, hd, hk, _, hm⟩ := n
  refine ⟨o, ho, fun name => ?_⟩
  have e := hm name
  unfold nsFind findBy at e
  rw [← Array.find?_toList] at e
  unfold PySem.W.lookIn
  rw [hd]
  dsimp only
  split
  · rename_i y q
    rw [q] at e
    exact congrArg some e
  · rename_i q
    rw [q] at e
    have a : es.toList.any (·.refKey) = false := by
      rw [List.any_eq_false]
      intro y hy
      obtain ⟨z, t, hkey⟩ := hk y (Array.mem_toList_iff.mp hy)
      simp [DictEntry.refKey, hkey]
    have a' : ¬ es.toList.any (·.refKey) = true := by rw [a]; exact Bool.false_ne_true
    rw [if_neg a']
    exact congrArg some e
theorem ObjM.look {h : Heap} {x dx C : Addr} {mA : Str → Option Value} (I : ObjM h x dx C mA) : ∃ od, PySem.W.InstAt h x (PySem.W.instObj C dx) C (some od) ∧ ∀ name, PySem.W.lookIn name od = some (mA name) :=
  let ⟨od, ho, hl⟩ := lookIn_ns I.ns
  ⟨od, ⟨I.obj, rfl, rfl, ho⟩, hl⟩
section
variable {prog : Program} {w : World} {A : Around} {E : Value → Shared → Prop} {s : Shared} {K : PySem.W.Frag} {x dx C f : Addr} {mA : Str → Option Value} {name : Str} {v : Value}
end
section
variable {P : Program} {w : World} {H H' : Hp} {h h' : Heap} {a C dx : Addr} {fs fs' : List (Str × V)}
theorem ins_get (hok : HOk P w H h) (e : H a = some (.ins C dx fs)) : ∃ mA, ObjM h a dx C mA ∧ (∀ f, RelO (fs.lookup f) (mA f)) ∧ PySem.Within mA (fs.map (·.1)) ∧ fs.length ≤ 1000 ∧ H dx = some (.own a) := by
  obtain ⟨d, z, ne, ob, mA, n, r, q⟩ := (show ObjOk P w H h a (.ins C dx fs) from hok a _ e)
  exact ⟨mA, ⟨ob, n, ne⟩, r, q, z, d⟩
end
structure Cls (K : PySem.W.Frag) (C : Addr) : Prop where
  pg : PySem.W.plainGet K C Str.empty = true
  hd : PySem.W.hasDictIn K C = true
  po : PySem.W.plainOver K C = true
  sa : PySem.W.findIn K (.ref C) "__setattr__" = some (some (.builtin "object.__setattr__"))
theorem Cls.get {K : PySem.W.Frag} {C : Addr} (c : Cls K C) (f : Str) : PySem.W.plainGet K C f = true := c.pg
section
variable {X : Cx} {pins : List (Addr × Obj)} {σ : St} {H : Hp} {s : Shared} {a C dx : Addr} {fs : List (Str × V)} {f : Str} {v : V} {A : Around} {E : Value → Shared → Prop}
end
section
variable {X : Cx} {o e value : Expr} {f : Str} {pos pos' tpos : Pos} {ta tv : TE}
end
section
variable {X : Cx} {pins : List (Addr × Obj)} {σ : St} {H : Hp} {s : Shared} {A : Around} {E : Value → Shared → Prop} {Q : Value → Shared → Prop} {c : Value} {b : Bool}
inductive TyOf (K : PySem.W.Frag) (H : Hp) : V → Value → Prop where
  | non : TyOf K H .non (.type "NoneType")
  | bl (x : Bool) : TyOf K H (.bl x) (.type "bool")
  | int (i : Int) : TyOf K H (.int i) (.type "int")
  | str (x : Str) : TyOf K H (.str x) (.type "str")
  | flt (x : UInt64) : TyOf K H (.flt x) (.type "float")
  | lst {a : Addr} {xs : List V} (e : H a = some (.lst xs)) : TyOf K H (.ref a) (.type "list")
  | frz {a : Addr} {o : Obj} {xs : List V} (e : H a = some (.frz o (.lst xs))) : TyOf K H (.ref a) (.type "list")
  | tup {a : Addr} {xs : List V} (e : H a = some (.tup xs)) : TyOf K H (.ref a) (.type "tuple")
  | dK {a : Addr} {kvs : List (Key × V)} (e : H a = some (.dK kvs)) : TyOf K H (.ref a) (.type "dict")
  | dT {a : Addr} {kvs : List (List Key × V)} (e : H a = some (.dT kvs)) : TyOf K H (.ref a) (.type "dict")
  | ins {a C dx : Addr} {fs : List (Str × V)} (e : H a = some (.ins C dx fs)) (cl : Cls K C) (ha : PySem.W.findIn K (.ref C) "__class__" = some (some (.builtin "object.__class__")))
      (hn : PySem.W.specialIn K (.builtin "object.__class__") "__get__" = some (some (.builtin "getset_descriptor.__get__"))) (htk : PySem.W.takesIn K (.builtin "object.__class__") = some true)
      (hm : PySem.W.mroIn K C (.type "object") = some true) : TyOf K H (.ref a) (.ref C)
theorem isinst_ok {x : V} {u t : Value} (I : Inv X pins σ H s) (rx : RelV x u) (ty : TyOf X.K H x t) (e : PySem.W.kitOne X.K t c = some b) (h : ∀ tk, Q (.bool b) { s with toks := tk }) :
    wpAny (model X.prog X.w) A (call (.builtin "isinstance") [u, c]) Q E s := by
  cases ty with
  | non => cases (show u = Value.none from rx); exact PySem.W.kia_one PySem.W.kitx_none I.kIn True.intro e (fun z => nomatch z) h
  | bl y => cases (show u = Value.bool y from rx); exact PySem.W.kia_one PySem.W.kitx_bool I.kIn True.intro e (fun z => nomatch z) h
  | int i => obtain ⟨t, q⟩ := (show ∃ t, u = Value.int i t from rx); cases q; exact PySem.W.kia_one PySem.W.kitx_int I.kIn True.intro e (fun z => nomatch z) h
  | str y => obtain ⟨t, q⟩ := (show ∃ t, u = Value.str y t from rx); cases q; exact PySem.W.kia_one PySem.W.kitx_str I.kIn True.intro e (fun z => nomatch z) h
  | flt y => obtain ⟨t, q⟩ := (show ∃ t, u = Value.float y t from rx); cases q; exact PySem.W.kia_one PySem.W.kitx_float I.kIn True.intro e (fun z => nomatch z) h
  | @lst a xs ea =>
    cases (show u = Value.ref a from rx)
    obtain ⟨_, _, n, _, h1⟩ := (show ObjOk X.prog X.w H s.heap a (.lst xs) from I.hok a _ ea)
    exact PySem.W.kia_one PySem.W.kitx_list I.kIn ⟨_, h1, rfl⟩ e (fun z => nomatch z) h
  | @frz a ob xs ea =>
    cases (show u = Value.ref a from rx)
    obtain ⟨_, _, _, n, _, h1⟩ := (show ObjOk X.prog X.w H s.heap a (.frz ob (.lst xs)) from I.hok a _ ea)
    exact PySem.W.kia_one PySem.W.kitx_list I.kIn ⟨_, h1, rfl⟩ e (fun z => nomatch z) h
  | @tup a xs ea =>
    cases (show u = Value.ref a from rx)
    obtain ⟨_, _, _, p⟩ := (show ObjOk X.prog X.w H s.heap a (.tup xs) from I.hok a _ ea)
    obtain ⟨o, h1, h2, _⟩ := p
    exact PySem.W.kia_one PySem.W.kitx_tuple I.kIn ⟨o, h1, h2⟩ e (fun z => nomatch z) h
  | @dK a kvs ea =>
    cases (show u = Value.ref a from rx)
    obtain ⟨_, _, vs, _, p⟩ := (show ObjOk X.prog X.w H s.heap a (.dK kvs) from I.hok a _ ea)
    obtain ⟨o, es, ep, h1, h2, _⟩ := p
    exact PySem.W.kia_one PySem.W.kitx_dict I.kIn ⟨o, h1, h2.1⟩ e (fun z => nomatch z) h
  | @dT a kvs ea => exact False.elim (show ObjOk X.prog X.w H s.heap a (.dT kvs) from I.hok a _ ea)
  | @ins a C dx fs ea cl ha hn htk hm =>
    cases (show u = Value.ref a from rx)
    obtain ⟨mA, O, _⟩ := ins_get I.hok ea
    obtain ⟨od, J, _⟩ := O.look
    exact PySem.W.kia_one (PySem.W.kitx_own (cl.get _) cl.hd ha hn htk hm) I.kIn J e (fun z => nomatch z) h
end
end L2
namespace L2
open PySem PySem.Spec PyProof.Rows
structure Room (k : Nat) (A : Around) : Prop where
  hd : A.handled = none
  dp : A.depth + 3 * k + 5 < recursionLimit
  un : A.units + 16 * k + 200 < cLine
theorem Room.mono {j k : Nat} {A : Around} (r : Room k A) (h : j ≤ k) : Room j A := ⟨r.hd, by have := r.dp; omega, by have := r.un; omega⟩
theorem Room.deeper {k : Nat} {A : Around} (r : Room (k + 1) A) (env : Env) : Room k (A.deeper env) :=
  ⟨r.hd, by have := r.dp; show A.depth + 1 + 3 * k + 5 < _; omega, by have := r.un; show A.units + 3 + 16 * k + 200 < _; omega⟩
theorem Room.depth {k : Nat} {A : Around} (r : Room k A) : A.depth < recursionLimit := by have := r.dp; omega
theorem Room.units {k : Nat} {A : Around} (r : Room k A) : A.units + 64 < cLine := by have := r.un; omega
def tNil : TA := fun _ H Q => Q [] H
def tCons (ta : TE) (tr : TA) : TA := fun σ H Q => ta σ H fun x H1 => tr σ H1 fun xs H2 => Q (x :: xs) H2
section
variable {X : Cx} {e : Expr} {es : List Expr} {te : TE} {t : TA} {pos : Pos}
theorem pa_nil : PA X [] tNil := fun _ _ _ _ H Q I h => Calls.spliced_nil ⟨[], H, I, .nil, h⟩
theorem pa_cons (ha : PE X e te) (hr : PA X es t) (hs : starEach (e :: es) X.env = (false, eval e X.env) :: starEach es X.env := by rfl) : PA X (e :: es) (tCons te t) := by
  intro pos pins s σ H Q I h
  rw [hs]
  show wpAny _ _ (spliced ((false, eval e X.env) :: backTo pos (starEach es X.env))) _ _ s
  refine Calls.spliced_cons (thn (ha pins s σ H _ I h) fun u s1 ⟨x, H1, I1, r1, q1⟩ => ?_)
  exact thn (hr pos pins s1 σ H1 _ I1 q1) fun us s2 ⟨xs, H2, I2, r2, q2⟩ => ⟨x :: xs, H2, I2, .cons r1 r2, q2⟩
def tTup (t : TA) : TE := fun σ H Q => t σ H fun xs H1 => xs.length ≤ sizeLine ∧ ∀ p, H1 p = none → Q (.ref p) (upd H1 p (.tup xs))
def tLst (t : TA) : TE := fun σ H Q => t σ H fun xs H1 => xs.length ≤ sizeLine ∧ ∀ p, H1 p = none → Q (.ref p) (upd H1 p (.lst xs))
theorem pe_tup {x1} (h : PA X es t) : PE X (.Tuple es x1 pos) (tTup t) := by
  intro pins s σ H Q I hq
  refine wpAny_Tuple_spliced (thn (h pos pins s σ H _ I hq) fun us s1 ⟨xs, H1, I1, r, z, q⟩ => ⟨by rw [← r.length]; exact z, ?_⟩)
  have hf : H1 s1.heap.objs.size = none := I1.hok.fresh (Nat.le_refl _)
  refine ⟨.ref s1.heap.objs.size, upd H1 s1.heap.objs.size (.tup xs), I1.laid (t' := s1.toks) (fun b u e => Heap.get?_push_of_some _ e) (Nat.le_refl _) ?_, rfl, q _ hf⟩
  exact ⟨z, us, r, ⟨_, Heap.get?_push_size _ rfl, rfl, _, rfl⟩⟩
theorem pe_lst (h : PA X es t) : PE X (.List es pos) (tLst t) := by
  intro pins s σ H Q I hq
  refine wpAny_List_spliced (thn (h pos pins s σ H _ I hq) fun us s1 ⟨xs, H1, I1, r, z, q⟩ => ⟨by rw [← r.length]; exact z, ?_⟩)
  have hf : H1 s1.heap.objs.size = none := I1.hok.fresh (Nat.le_refl _)
  refine ⟨.ref s1.heap.objs.size, upd H1 s1.heap.objs.size (.lst xs), I1.laid (t' := s1.toks) (fun b u e => Heap.get?_push_of_some _ e) (Nat.le_refl _) ?_, rfl, q _ hf⟩
  exact ⟨z, us, 0, r, Heap.get?_push_size _ rfl⟩
end
abbrev Sp := List V → Hp → VK → XK → Prop
abbrev CXT := List Env → Hp → Shared → XK → Value → Shared → Prop
structure Env0 (P : Program) (w : World) (K : PySem.W.Frag) (mg : Str → Option Value) (base : Heap) (A : Around) (outer : List Env) (s : Shared) (H : Hp) : Prop where
  frames : A.frames = some outer
  mod : Mod K mg base
  bs : ∀ b o, base.get? b = some o → s.heap.get? b = some o ∧ H b = none
  bsz : base.objs.size ≤ s.heap.objs.size
  funs : s.heap.FunFrames base outer
  frf : ∀ b ∈ frs outer, H b = none
  hok : HOk P w H s.heap
  bare : AllBare s.gens
def CE (outer : List Env) (P : Program) (w : World) (H : Hp) (s : Shared) (Q : VK) (u : Value) (s' : Shared) : Prop :=
  ∃ v H', s'.os = s.os ∧ AllBare s'.gens ∧ Un (frs outer) [] H H' s.heap s'.heap ∧ HOk P w H' s'.heap ∧ RelV v u ∧ Q v H'
def CR (CX : CXT) (outer : List Env) (P : Program) (w : World) (H : Hp) (s : Shared) (Q : VK) (E : XK) (r : Result) (s' : Shared) : Prop :=
  match r with
  | .ok (.ret u) => CE outer P w H s Q u s'
  | .ok _ => False
  | .error e => CX outer H s E e s'
structure FnOk (P : Program) (w : World) (K : PySem.W.Frag) (mg : Str → Option Value) (base : Heap) (CX : CXT) (k : Nat) (f : Addr) (fd : FuncData) (ps : List Str) (sp : Sp) : Prop where
  len : ∀ vs H Q E, sp vs H Q E → vs.length = ps.length
  run : ∀ (A : Around) (outer : List Env) (s : Shared) (H : Hp) (args : Args) (us : List Value) (vs : List V) (Q : VK) (E : XK), Room k A → Env0 P w K mg base A outer s H → BindsTo s fd args (ps.zip us) → Vals vs us → sp vs H Q E →
    codeAny (model P w) A (.call (.ref f) args) (CR CX outer P w H s Q E) s
theorem FnOk.mono {P : Program} {w : World} {K : PySem.W.Frag} {mg : Str → Option Value} {base : Heap} {CX : CXT} {j k : Nat} {f : Addr} {fd : FuncData} {ps : List Str} {sp : Sp} (F : FnOk P w K mg base CX j f fd ps sp) (h : j ≤ k) :
    FnOk P w K mg base CX k f fd ps sp := ⟨F.len, fun A outer s H args us vs Q E hr => F.run A outer s H args us vs Q E (hr.mono h)⟩
section
variable {X : Cx} {pins : List (Addr × Obj)} {σ : St} {H : Hp} {s s' : Shared}
theorem Inv.env0 (I : Inv X pins σ H s) : Env0 X.prog X.w X.K X.mg X.base X.A X.stack s H :=
  ⟨I.ok.frames, I.ok.mod, I.bs, Nat.le_trans I.ok.bsz I.sz, I.stack, I.stkFree, I.hok, I.bare⟩
theorem Inv.after {Q : VK} {u : Value} (I : Inv X pins σ H s) (h : CE X.stack X.prog X.w H s Q u s') : EP X pins σ Q u s' := by
  obtain ⟨v, H', os, bare, un, hok, r, q⟩ := h
  obtain ⟨hh, g, d, t, os'⟩ := s'
  obtain rfl : os' = s.os := os
  exact ⟨v, H', I.call (h' := hh) (g' := g) (d' := d) (t' := t) (ch := []) un hok bare (fun b z => absurd z (by simp)), r, q⟩
end
def tCall (sp : Sp) (dvs : List V) (E : XK) (t : TA) : TE := fun σ H Q => t σ H fun vs H1 => sp (vs ++ dvs) H1 Q E
def Binds (K : PySem.W.Frag) (fd : FuncData) (ps : List Str) (ds : List Value) : Prop :=
  ∀ (s : Shared) (us : List Value), K.In s.heap → (us ++ ds).length = ps.length → BindsTo s fd ⟨us, []⟩ (ps.zip (us ++ ds))
theorem Binds.all {K : PySem.W.Frag} {fd : FuncData} {ps : List Str} (h : ∀ us : List Value, us.length = ps.length → bindArgs fd ⟨us, []⟩ = pure (ps.zip us)) : Binds K fd ps [] := fun s us _ hl => by
  rw [List.append_nil] at hl ⊢
  exact .of_eq (h us hl)
def Passes (CX : CXT) (X : Cx) (E : XK) : Prop := ∀ (pins : List (Addr × Obj)) (σ : St) (H : Hp) (s : Shared) (e : Value) (s' : Shared), Inv X pins σ H s → CX X.stack H s E e s' → X.xe e s'
section
variable {X : Cx} {CX : CXT} {k : Nat} {f C : Addr} {fd : FuncData} {ps : List Str} {sp : Sp} {dvs : List V} {ds : List Value} {E : XK} {x m : Str} {p pos apos : Pos} {e o : Expr} {es : List Expr} {ta : TE} {t : TA}
theorem run_fn {pins : List (Addr × Obj)} {σ : St} {H : Hp} {s : Shared} {Q : VK} {us : List Value} {vs : List V} (F : FnOk X.prog X.w X.K X.mg X.base CX k f fd ps sp) (hr : Room k X.A) (hb : Binds X.K fd ps ds) (hd : Vals dvs ds) (hx : Passes CX X E)
    (I : Inv X pins σ H s) (r : Vals vs us) (h : sp (vs ++ dvs) H Q E) : wpAny (model X.prog X.w) X.A (call (.ref f) us) (EP X pins σ Q) X.xe s := by
  have r2 : Vals (vs ++ dvs) (us ++ ds) := r.append hd
  have hl : (us ++ ds).length = ps.length := by rw [← r2.length]; exact F.len _ _ _ _ h
  refine wpAny_call (codeAny_mono (F.run X.A X.stack s H ⟨us, []⟩ (us ++ ds) (vs ++ dvs) Q E hr I.env0 (hb s us I.kIn hl) r2 h) fun r s' hq => ?_)
  cases r with
  | error e => exact hx pins σ H s e s' I hq
  | ok fl =>
    cases fl with
    | ret u => exact I.after hq
    | next => exact False.elim hq
    | brk => exact False.elim hq
    | cont => exact False.elim hq
theorem pe_call (F : FnOk X.prog X.w X.K X.mg X.base CX k f fd ps sp) (hr : Room k X.A) (hg : Gl X x) (hm : X.mg x = some (.ref f)) (hk : PySem.W.keepIn X.K (.ref f) = true) (hb : Binds X.K fd ps ds) (hd : Vals dvs ds) (hx : Passes CX X E)
    (ha : PA X (e :: es) t) (hdb : (x == ("__debug__" : Str)) = false := by decide) (he : starEach (e :: es) X.env = (false, eval e X.env) :: starEach es X.env := by rfl) (hpl : (backTo pos (starEach es X.env)).any (·.1) = false := by rfl) :
    PE X (.Call (.Name x p) (e :: es) [] pos) (tCall sp dvs E t) := by
  intro pins s σ H Q I h
  refine wpAny_Call_Name_kw (ld_glob I hg hm ?_ hdb)
  refine PySem.W.callWith_K (h₀ := X.base) I.ok.mod.kin hk (thn (ha pos pins s σ H _ I h) fun us s1 ⟨vs, H1, I1, r, q⟩ => ⟨I1.kIn, ?_⟩) he hpl
  exact run_fn F hr hb hd hx I1 r q
end
section
variable {X : Cx} {CX : CXT} {k : Nat} {f C : Addr} {fd : FuncData} {ps ks : List Str} {sp : Sp} {E : XK} {x m : Str} {p pos apos kpos : Pos} {e o : Expr} {es : List Expr} {kws : List Keyword} {te ta : TE} {t tk : TA} {nm : Option Str}
variable {g : List Value → List Value → List Value} {gV : List V → List V → List V}
end
structure FnScope (N P : List Str) (sc : Scope) : Prop where
  kind : sc.kind = .function
  co : sc.isCoroutine = false
  gen : sc.isGenerator = false
  nd : N.Nodup
  pre : N.take P.length = P
  par : ∀ x ∈ P, sc.names.lookup x = some .local ∨ sc.names.lookup x = some .cell
  nofree : ∀ y ∈ sc.names, y.2 ≠ .free
theorem bindL_out {kindOf : Str → Option NameKind} {x : Str} : ∀ {binds : List (Str × Value)} {m : Str → Option Value}, (∀ v, (x, v) ∉ binds) → bindL kindOf binds m x = m x
  | [], _, _ => rfl
  | (n, v) :: r, m, h => by
    unfold bindL
    rw [bindL_out fun w hw => h w (List.mem_cons_of_mem _ hw)]
    split
    · have : x ≠ n := by rintro rfl; exact h v List.mem_cons_self
      simp [this]
    · rfl
theorem bindC_out {kindOf : Str → Option NameKind} {x : Str} : ∀ {binds : List (Str × Value)} {m : Str → Option Value}, (∀ v, (x, v) ∉ binds) → bindC kindOf binds m x = m x
  | [], _, _ => rfl
  | (n, v) :: r, m, h => by
    unfold bindC
    rw [bindC_out fun w hw => h w (List.mem_cons_of_mem _ hw)]
    split
    · rfl
    · have : x ≠ n := by rintro rfl; exact h v List.mem_cons_self
      simp [this]
theorem bindL_get {kindOf : Str → Option NameKind} {x : Str} {v : Value} : ∀ {P : List Str} {vs : List Value} {i : Nat} {m : Str → Option Value}, P.Nodup → P[i]? = some x → vs[i]? = some v → kindOf x = some .local →
    bindL kindOf (P.zip vs) m x = some v
  | [], _, _, _, _, h, _, _ => by simp at h
  | _ :: _, [], _, _, _, _, h, _ => by simp at h
  | p :: P, w :: vs, 0, m, nd, h1, h2, hk => by
    simp at h1 h2; subst h1; subst h2
    show bindL kindOf ((p, w) :: P.zip vs) m p = _
    unfold bindL
    rw [bindL_out fun v hv => (List.nodup_cons.mp nd).1 (List.of_mem_zip hv).1, if_pos hk]
    simp
  | p :: P, w :: vs, i + 1, m, nd, h1, h2, hk => by
    show bindL kindOf ((p, w) :: P.zip vs) m x = _
    unfold bindL
    exact bindL_get (i := i) (List.nodup_cons.mp nd).2 (by simpa using h1) (by simpa using h2) hk
theorem bindC_get {kindOf : Str → Option NameKind} {x : Str} {v : Value} : ∀ {P : List Str} {vs : List Value} {i : Nat} {m : Str → Option Value}, P.Nodup → P[i]? = some x → vs[i]? = some v → kindOf x ≠ some .local →
    bindC kindOf (P.zip vs) m x = some v
  | [], _, _, _, _, h, _, _ => by simp at h
  | _ :: _, [], _, _, _, _, h, _ => by simp at h
  | p :: P, w :: vs, 0, m, nd, h1, h2, hk => by
    simp at h1 h2; subst h1; subst h2
    show bindC kindOf ((p, w) :: P.zip vs) m p = _
    unfold bindC
    rw [bindC_out fun v hv => (List.nodup_cons.mp nd).1 (List.of_mem_zip hv).1, if_neg hk]
    simp
  | p :: P, w :: vs, i + 1, m, nd, h1, h2, hk => by
    show bindC kindOf ((p, w) :: P.zip vs) m x = _
    unfold bindC
    exact bindC_get (i := i) (List.nodup_cons.mp nd).2 (by simpa using h1) (by simpa using h2) hk
def start (N : List Str) (vs : List V) : St := vs.map some ++ List.replicate (N.length - vs.length) none
def cxOf (CX : CXT) (P : Program) (w : World) (K : PySem.W.Frag) (mg : Str → Option Value) (base : Heap) (N : List Str) (qual : Str) (scope : Scope) (f : Addr) (cd : Value) (A : Around) (outer : List Env) (s : Shared) (H : Hp) (E : XK) : Cx where
  prog := P
  w := w
  K := K
  mg := mg
  base := base
  A := A.deeper (envOfC qual scope s.heap.objs.size f cd)
  N := N
  s₀ := s
  H₀ := H
  env := envOfC qual scope s.heap.objs.size f cd
  outer := outer
  stack := envOfC qual scope s.heap.objs.size f cd :: outer
  ex := []
  calm := true
  fn := fun _ => true
  pn := []
  xe := fun e s' => wpAny (model P w) (A.deeper (envOfC qual scope s.heap.objs.size f cd)) (leaving (envOfC qual scope s.heap.objs.size f cd) e) (fun _ s'' => CX outer H s E e s'') (fun e' s'' => CX outer H s E e' s'') s'
theorem cell_has {sc : Scope} {n : Nat} {x : Str} (h : sc.names.lookup x = some .cell) : ∃ c, (cellsFrom n sc.names []).lookup x = some c := by
  have q := PySem.W.cellsFrom_some sc.names n [] (.inl h)
  exact Option.isSome_iff_exists.mp q
theorem inv_start {CX : CXT} {P : Program} {w : World} {K : PySem.W.Frag} {mg : Str → Option Value} {base : Heap} {N ps : List Str} {qual : Str} {scope : Scope} {f : Addr} {cd : Value} {A : Around} {outer : List Env} {s s1 : Shared} {H : Hp} {E : XK} {us : List Value} {vs : List V}
    (S : FnScope N ps scope) (hd : A.handled = none) (e0 : Env0 P w K mg base A outer s H) (hl : vs.length = ps.length) (r : Vals vs us)
    (x : InCallC s s.heap.objs.size (bindL (envOfC qual scope s.heap.objs.size f cd).kindOf (ps.zip us) fun _ => none) (cellsFrom (s.heap.objs.size + 1) scope.names []) (bindC (envOfC qual scope s.heap.objs.size f cd).kindOf (ps.zip us) fun _ => none) s1) :
    Inv (cxOf CX P w K mg base N qual scope f cd A outer s H E) [] (start N vs) H s1 := by
  have hpl : ps.length ≤ N.length := by have := congrArg List.length S.pre; rw [List.length_take] at this; omega
  obtain ⟨h1, tk, rfl, hk⟩ := x.done
  have noA : ∀ b : Addr, b ∉ (cxOf CX P w K mg base N qual scope f cd A outer s H E).ex := fun b z => absurd (show b ∈ ([] : List Addr) from z) (by simp)
  refine ⟨⟨e0.mod, S.kind, rfl, rfl, Nat.le_refl _, fun y z c h1 h2 => ?_, fun y hy => ?_, fun y c _ h => ?_, fun _ => hd, Around.frames_deeper e0.frames, .inr ⟨rfl, rfl⟩, fun b z => absurd z (noA b), e0.bs, e0.bsz, fun b _ _ => noA b, fun b z => absurd z (noA b), e0.funs, e0.frf⟩,
    rfl, e0.bare, Un.kept hk, ⟨_, x.toInCall.ns, fun i y v h1 h2 h3 => ?_⟩, fun y c h => ⟨_, x.cell y c h⟩, e0.hok.fresh (Nat.le_refl _), fun y c h => ?_, fun p hp => absurd (show p ∈ ([] : List (Addr × Obj)) from hp) (by simp), e0.hok.kept hk, ?_⟩
  · exact name_of_addr x.apart (PySem.mem_of_lookup h1) (PySem.mem_of_lookup h2)
  · have hy : scope.names.lookup y = some .cell ∨ scope.names.lookup y = some .free := hy
    rcases hy with hy | hy
    · exact cell_has hy
    · exact absurd rfl (S.nofree _ (PySem.mem_of_lookup hy))
  · exact Nat.le_of_lt (x.above y c (PySem.mem_of_lookup h))
  · have hi : i < vs.length := by
      unfold start at h2
      by_cases hi : i < vs.length
      · exact hi
      · rw [List.getElem?_append_right (by simpa using hi)] at h2
        rw [List.getElem?_replicate] at h2
        split at h2 <;> cases h2
    have ha : vs[i]? = some v := by
      unfold start at h2
      rw [List.getElem?_append_left (by simpa using hi), List.getElem?_map] at h2
      cases e : vs[i]? with
      | none => rw [e] at h2; cases h2
      | some a => rw [e] at h2; cases h2; rfl
    obtain ⟨u, hu, rv⟩ := r.get ha
    have hp : ps[i]? = some y := by
      rw [← S.pre, List.getElem?_take_of_lt (by omega)]; exact h1
    have ndP : ps.Nodup := by rw [← S.pre]; exact S.nd.sublist (List.take_sublist _ _)
    refine ⟨u, rv, ?_⟩
    rcases S.par y (List.mem_of_getElem? hp) with k | k
    · exact .inl ⟨k, bindL_get ndP hp hu k⟩
    · obtain ⟨c, e⟩ := cell_has (n := s.heap.objs.size + 1) k
      refine .inr ⟨.inl k, c, e, ?_⟩
      have q := x.cell y c e
      rw [bindC_get ndP hp hu (by show scope.names.lookup y ≠ _; rw [k]; decide)] at q
      exact q
  · exact e0.hok.fresh (Nat.le_of_lt (x.above y c (PySem.mem_of_lookup h)))
  · unfold start
    show _ = N.length
    rw [List.length_append, List.length_map, List.length_replicate]
    omega
theorem fn_of {CX : CXT} {P : Program} {w : World} {K : PySem.W.Frag} {mg : Str → Option Value} {base : Heap} {k : Nat} {f : Addr} {name qual : Str} {params : Arguments} {body : List Stmt} {scope : Scope} {dV kV doc pm cdv ct oc : Value} {an od : Option Addr}
    {osl : Array (Option Value)} {N ps : List Str} {sp : Sp} (lk : K.lookup f = some ⟨oc, od, .func (PySem.W.fnOf name qual params body scope dV kV doc pm an cdv ct), osl⟩) (hcd : PySem.W.codeIn K cdv qual = true) (S : FnScope N ps scope)
    (len : ∀ vs H Q E, sp vs H Q E → vs.length = ps.length)
    (hbody : ∀ (A : Around) (outer : List Env) (s : Shared) (H : Hp) (vs : List V) (Q : VK) (E : XK), Room k (A.deeper (envOfC qual scope s.heap.objs.size f cdv)) → sp vs H Q E →
      ∃ t, PSs (cxOf CX P w K mg base N qual scope f cdv A outer s H E) body t ∧ t { nx := fun _ H' => Q .non H', rt := Q } (start N vs) H) :
    FnOk P w K mg base CX (k + 1) f (PySem.W.fnOf name qual params body scope dV kV doc pm an cdv ct) ps sp := by
  refine ⟨len, fun A outer s H args us vs Q E hr e0 hb r hsp => ?_⟩
  have hl := len _ _ _ _ hsp
  have KX : K.In s.heap := e0.mod.kin.keeps fun b o e => (e0.bs b o e).1
  have lim : s.heap.NoLimit := e0.mod.nolimit.keeps fun b o e => (e0.bs b o e).1
  have hkind : ∀ y ∈ ps.zip us, scope.names.lookup y.1 = some .local ∨ (scope.names.lookup y.1 = some .cell ∧ ((cellsFrom (s.heap.objs.size + 1) scope.names []).lookup y.1).isSome = true) := fun ⟨n, v⟩ hy => by
    rcases S.par n (List.of_mem_zip hy).1 with q | q
    · exact .inl q
    · exact .inr ⟨q, PySem.W.cellsFrom_some _ _ _ (.inl q)⟩
  refine codeAny_call_function hr.depth (KX _ _ lk) rfl S.co S.gen rfl (PySem.W.codeRec_of KX hcd) (hb _ _ _ _ ?_)
  refine wpAny_newFunctionEnv_cells S.kind hkind fun env he s1 x => ?_
  subst he
  refine ⟨lim.keeps x.toInCall.keep, codeAny_func ?_⟩
  obtain ⟨t, ht, hq⟩ := hbody A outer s H vs Q E (hr.deeper _) hsp
  have I : Inv (cxOf CX P w K mg base N qual scope f cdv A outer s H E) [] (start N vs) H s1 := inv_start S hr.hd e0 hl r x
  refine wpAny_mono (ht [] s1 (start N vs) H _ I hq) (fun fl s' hs => ?_) fun e s' hs => hs
  have fin : ∀ {σ' : St} {H' : Hp} {v : V} {u : Value}, Inv (cxOf CX P w K mg base N qual scope f cdv A outer s H E) [] σ' H' s' → RelV v u → Q v H' → CE outer P w H s Q u s' :=
    fun {σ' H' v u} J rv q => ⟨v, H', J.os, J.bare, J.base, J.hok, rv, q⟩
  cases fl with
  | ret u =>
    obtain ⟨v, σ', H', J, rv, q⟩ := hs
    exact fin J rv q
  | next =>
    obtain ⟨σ', H', J, q⟩ := hs
    exact fin (v := V.non) (u := Value.none) J rfl q
  | brk =>
    obtain ⟨_, _, _, q⟩ := hs
    exact False.elim q
  | cont =>
    obtain ⟨_, _, _, q⟩ := hs
    exact False.elim q
end L2
namespace L2
open PySem PySem.Spec PyProof.Rows
section
variable {X : Cx} {x : Str} {p pos : Pos} {e : Expr} {es : List Expr} {t : TA} {id T : String} {r : List V → Hp → VK → Prop}
def tCB (r : List V → Hp → VK → Prop) (t : TA) : TE := fun σ H Q => t σ H fun vs H1 => r vs H1 Q
theorem pe_callB (hc : CallR X (.builtin id) r) (hg : Gl X x) (hm : X.mg x = none) (hv : bootBuiltins x = some (.builtin id)) (ha : PA X (e :: es) t) (hn : x ≠ "__name__" := by decide) (hdb : (x == ("__debug__" : Str)) = false := by decide)
    (he : starEach (e :: es) X.env = (false, eval e X.env) :: starEach es X.env := by rfl) (hpl : (backTo pos (starEach es X.env)).any (·.1) = false := by rfl) : PE X (.Call (.Name x p) (e :: es) [] pos) (tCB r t) := by
  intro pins s σ H Q I h
  refine wpAny_Call_Name_kw (ld_blt I hg hm hv ?_ hn hdb)
  exact PyProof.Rows.callWith_builtin1 (thn (ha pos pins s σ H _ I h) fun us s1 ⟨vs, H1, I1, r1, q1⟩ => hc pins s1 σ H1 vs us Q I1 r1 q1) he hpl
theorem pe_callTy (hc : CallR X (.type T) r) (hg : Gl X x) (hm : X.mg x = none) (hv : bootBuiltins x = some (.type T)) (ha : PA X (e :: es) t) (hn : x ≠ "__name__" := by decide) (hdb : (x == ("__debug__" : Str)) = false := by decide)
    (he : starEach (e :: es) X.env = (false, eval e X.env) :: starEach es X.env := by rfl) (hpl : (backTo pos (starEach es X.env)).any (·.1) = false := by rfl) : PE X (.Call (.Name x p) (e :: es) [] pos) (tCB r t) := by
  intro pins s σ H Q I h
  refine wpAny_Call_Name_kw (ld_blt I hg hm hv ?_ hn hdb)
  exact PyProof.Rows.callWith_type1 (thn (ha pos pins s σ H _ I h) fun us s1 ⟨vs, H1, I1, r1, q1⟩ => hc pins s1 σ H1 vs us Q I1 r1 q1) he hpl
end
end L2
namespace HT
open PySem PyProof.Rows
section
open PySem.SeqAt
open PySem.AutoSeq1 (wpAny_loadPart')
open PySem.MeetsSeq PySem.MeetsSeq2 PySem.MeetsSeq3
end
section
variable {prog : Program} {w : World} {A : Around} {E : Value → Shared → Prop} {s : Shared}
theorem cat_tup {t b : Addr} {vs ws : List Value} {Q : Value → Shared → Prop} (ht : IsTup s.heap t vs.toArray) (hb : IsTup s.heap b ws.toArray) (hv : vs ≠ [])
    (h1 : ws = [] → Q (.ref t) s) (h2 : ws ≠ [] → Q (.ref s.heap.objs.size) { s with heap := s.heap.push { cls := .type "tuple", data := .seq (vs ++ ws).toArray } })
    (hsz : vs.length + ws.length ≤ sizeLine) : wpAny (model prog w) A (binaryOp .Add (.ref t) (.ref b)) Q E s := by
  obtain ⟨⟨cls, dd, data, sl⟩, ho, hc, n, hd⟩ := id ht
  obtain ⟨⟨cls2, dd2, data2, sl2⟩, ho2, hc2, n2, hd2⟩ := id hb
  simp only at hc hd hc2 hd2
  subst hc hd hc2 hd2
  have e : vs.toArray ++ ws.toArray = (vs ++ ws).toArray := by simp
  by_cases hw : ws = []
  · exact concat_meets ⟨_, ho, rfl⟩ ⟨_, ho2, rfl⟩ noFill_tuple_add seq_tuple_add PySem.F.slot_tuple_add PySem.F.entry_tuple_add (PySem.F.args_tuple_add_2 _ _)
      (tuple_addW1 t b vs.toArray ws.toArray n n2 dd dd2 sl sl2 (by simpa using hv) (by simp [hw])) ⟨ho, ho2, h1 hw⟩
  · refine concat_meets ⟨_, ho, rfl⟩ ⟨_, ho2, rfl⟩ noFill_tuple_add seq_tuple_add PySem.F.slot_tuple_add PySem.F.entry_tuple_add (PySem.F.args_tuple_add_2 _ _)
      (tuple_addW2 t b vs.toArray ws.toArray n n2 dd dd2 sl sl2 (by simpa using hv) (by simpa using hw) (by rw [List.size_toArray, List.size_toArray]; exact hsz)) ⟨ho, ho2, ?_⟩
    rw [e]
    exact h2 hw
def sIx (n d : Nat) : Option Int → Nat
  | none => d
  | some v => if v < 0 then (v + (n : Int)).toNat else min v.toNat n
end
end HT
namespace L2
open PySem PySem.Spec PyProof.Rows
abbrev TO := St → Hp → (Option Int → Hp → Prop) → Prop
def PO (X : Cx) (e : Option Expr) (t : TO) : Prop :=
  ∀ (pins : List (Addr × Obj)) (s : Shared) (σ : St) (H : Hp) (Q : Option Int → Hp → Prop), Inv X pins σ H s → t σ H Q →
    wpAny (model X.prog X.w) X.A (evalPart e X.env) (fun u s' => ∃ o H', Inv X pins σ H' s' ∧ IsPart u o ∧ Q o H') X.xe s
def tNoPart : TO := fun _ H Q => Q none H
def tPart (t : TE) : TO := fun σ H Q => t σ H fun x H1 => ∃ i, x = .int i ∧ Q (some i) H1
section
variable {X : Cx} {e : Expr} {te : TE} {lo hi : Option Expr} {tl th : TO} {pos p2 : Pos}
theorem po_none : PO X none tNoPart := by
  intro pins s σ H Q I h
  rw [evalPart_none]
  exact wpAny_pure ⟨none, H, I, .none, h⟩
theorem po_some (h : PE X e te) : PO X (some e) (tPart te) := by
  intro pins s σ H Q I hw
  rw [evalPart_some]
  refine thn (h pins s σ H _ I hw) fun u s1 ⟨x, H1, I1, r1, q1⟩ => ?_
  obtain ⟨i, rfl, q⟩ := q1
  obtain ⟨t, rfl⟩ := r1
  exact ⟨some i, H1, I1, .int i t, q⟩
def SlR (X : Cx) (r : V → Option Int → Option Int → Hp → VK → Prop) : Prop :=
  ∀ (pins : List (Addr × Obj)) (s : Shared) (σ : St) (H : Hp) (x : V) (v vl vu : Value) (lo hi : Option Int) (sl : Addr) (Q : VK), Inv X pins σ H s → RelV x v → s.heap.IsSliceOf sl vl vu .none → IsPart vl lo → IsPart vu hi → r x lo hi H Q →
    ∃ T id, typeLookup (.type T) "__getitem__" = pure (some (.builtin id)) ∧ s.TypeIs v T ∧ wpAny (model X.prog X.w) X.A (getItem v (.ref sl)) (EP X pins σ Q) X.xe s
def tSl (r : V → Option Int → Option Int → Hp → VK → Prop) (te : TE) (tl th : TO) : TE := fun σ H Q => te σ H fun x H1 => tl σ H1 fun l H2 => th σ H2 fun u H3 => r x l u H3 Q
theorem pe_slice {r : V → Option Int → Option Int → Hp → VK → Prop} (hr : SlR X r) (he : PE X e te) (hl : PO X lo tl) (hu : PO X hi th) : PE X (.Subscript e (.Slice lo hi none p2) pos) (tSl r te tl th) := by
  intro pins s σ H Q I h
  refine Subscript_ (thn (he pins s σ H _ I h) fun v s1 ⟨x, H1, I1, r1, q1⟩ => ?_)
  refine wpAny_Slice (thn (hl pins s1 σ H1 _ I1 q1) fun vl s2 ⟨l, H2, I2, pl, q2⟩ => thn (hu pins s2 σ H2 _ I2 q2) fun vu s3 ⟨u, H3, I3, pu, q3⟩ => ?_)
  rw [evalPart_none]
  refine wpAny_pure ?_
  have I4 : Inv X pins σ H3 { s3 with heap := s3.heap.push { cls := .type "slice", data := .fields #[vl, vu, .none] } } := I3.kept (t' := s3.toks) fun b ob q => Heap.get?_push_of_some _ q
  obtain ⟨T, id, hT, ht, hg⟩ := hr pins { s3 with heap := s3.heap.push { cls := .type "slice", data := .fields #[vl, vu, .none] } } σ H3 x v vl vu l u s3.heap.objs.size Q I4 r1 (Heap.IsSliceOf.new ..) pl pu q3
  show wpAny (model X.prog X.w) X.A (subscriptTail e (.Slice lo hi none p2) v (.ref s3.heap.objs.size)) (EP X pins σ Q) X.xe { s3 with heap := s3.heap.push { cls := .type "slice", data := .fields #[vl, vu, .none] } }
  exact tail_any (ops := [.ref s3.heap.objs.size, v]) ht hT hg (by with_unfolding_all rfl)
def cutV (xs : List V) (lo hi : Option Int) : List V := (xs.drop (HT.sIx xs.length 0 lo)).take (HT.sIx xs.length xs.length hi - HT.sIx xs.length 0 lo)
theorem cutV_length (xs : List V) (lo hi : Option Int) : (cutV xs lo hi).length ≤ xs.length := by
  unfold cutV
  rw [List.length_take, List.length_drop]
  omega
def rCatT (K : PySem.W.Frag) : R2 := fun x y H Q => ∃ a b xs ys, x = .ref a ∧ y = .ref b ∧ SqT K H a xs ∧ SqT K H b ys ∧ xs ≠ [] ∧ xs.length + ys.length ≤ sizeLine ∧
  (ys = [] → Q (.ref a) H) ∧ (ys ≠ [] → ∀ p, H p = none → Q (.ref p) (upd H p (.tup (xs ++ ys))))
theorem Vals.nil_iff {xs : List V} {us : List Value} (r : Vals xs us) : us = [] ↔ xs = [] := by
  cases r with
  | nil => simp
  | cons _ _ => simp
theorem op_catT : OpR X (binaryOp .Add) (rCatT X.K) := by
  intro pins s σ H x y v u Q I rx ry h
  obtain ⟨a, b, xs, ys, rfl, rfl, ha, hb, hx, hz, q1, q2⟩ := h
  cases rx
  cases ry
  obtain ⟨its, r1, p1, _⟩ := I.tuple ha
  obtain ⟨its2, r2, p2, _⟩ := I.tuple hb
  refine HT.cat_tup p1 p2 (fun z => hx (r1.nil_iff.mp z)) (fun z => ⟨.ref a, H, I, rfl, q1 (r2.nil_iff.mp z)⟩) (fun z => ?_) (by rw [← r1.length, ← r2.length]; exact hz)
  refine ⟨.ref s.heap.objs.size, _, I.laid (t' := s.toks) (o := .tup (xs ++ ys)) (fun b ob q => Heap.get?_push_of_some _ q) (Nat.le_refl _) ?_, rfl, q2 (fun w => z (r2.nil_iff.mpr w)) _ (I.hok.fresh (Nat.le_refl _))⟩
  exact ⟨by rw [List.length_append]; exact hz, _, r1.append r2, IsTup.new _ _⟩
end
end L2
namespace L2
open PySem PySem.Spec PyProof.Rows
def ixN (n : Nat) (i : Int) : Option Nat := if 0 ≤ i then (if i < n then some i.toNat else none) else if -(n : Int) ≤ i then some (i + n).toNat else none
def atI {α : Type} (xs : List α) (i : Int) : Option α := (ixN xs.length i).bind fun j => xs[j]?
theorem ixN_seq {n : Nat} {i : Int} {j : Nat} (h : ixN n i = some j) : seqIndex? i n = some j ∧ j < n ∧ -(n : Int) ≤ i ∧ i < n := by
  unfold ixN at h
  by_cases h0 : 0 ≤ i
  · rw [if_pos h0] at h
    by_cases h1 : i < n
    · rw [if_pos h1] at h
      have e : i.toNat = j := Option.some.inj h
      exact ⟨by rw [seqIndex_of h0 h1, e], by omega, by omega, h1⟩
    · rw [if_neg h1] at h; cases h
  · rw [if_neg h0] at h
    by_cases h1 : -(n : Int) ≤ i
    · rw [if_pos h1] at h
      have e : (i + n).toNat = j := Option.some.inj h
      exact ⟨by rw [seqIndex_neg (by omega) h1, e], by omega, h1, by omega⟩
    · rw [if_neg h1] at h; cases h
theorem atI_get {α : Type} {xs : List α} {i : Int} {v : α} (h : atI xs i = some v) : ∃ j, seqIndex? i xs.length = some j ∧ xs[j]? = some v ∧ j < xs.length ∧ -(xs.length : Int) ≤ i ∧ i < xs.length := by
  unfold atI at h
  cases e : ixN xs.length i with
  | none => rw [e] at h; cases h
  | some j =>
    rw [e] at h
    obtain ⟨h1, h2, h3, h4⟩ := ixN_seq e
    exact ⟨j, h1, h, h2, h3, h4⟩
theorem atI_nat {α : Type} {xs : List α} {j : Nat} {v : α} (h : xs[j]? = some v) : atI xs (j : Int) = some v := by
  have hj : j < xs.length := (List.getElem?_eq_some_iff.mp h).1
  have e : ixN xs.length (j : Int) = some j := by
    unfold ixN
    rw [if_pos (by omega), if_pos (by omega)]; simp
  unfold atI; rw [e]; exact h
def PlainIx (b : Expr) : Prop := ∀ o i, subscripted b false o i = operate [o, i] (getItem o i)
def IxR (X : Cx) (r : R2) : Prop :=
  ∀ (value slice : Expr) (pins : List (Addr × Obj)) (s : Shared) (σ : St) (H : Hp) (x y : V) (v u : Value) (Q : VK), Inv X pins σ H s → RelV x v → RelV y u → r x y H Q →
    subscripted slice false v u = operate [v, u] (getItem v u) → wpAny (model X.prog X.w) X.A (subscriptTail value slice v u) (EP X pins σ Q) X.xe s
def MtR (X : Cx) (id : String) (r : V → List V → Hp → VK → Prop) : Prop :=
  ∀ (pins : List (Addr × Obj)) (s : Shared) (σ : St) (H : Hp) (x : V) (xs : List V) (v : Value) (us : List Value) (Q : VK), Inv X pins σ H s → RelV x v → Vals xs us → r x xs H Q →
    wpAny (model X.prog X.w) X.A (call (.builtin id) (v :: us)) (EP X pins σ Q) X.xe s
section
variable {X : Cx} {a b : Expr} {ta tb : TE} {pos : Pos}
theorem pe_ix {r : R2} (hr : IxR X r) (ha : PE X a ta) (hb : PE X b tb) (hs : PlainIx b) : PE X (.Subscript a b pos) (tOp r ta tb) := by
  intro pins s σ H Q I h
  exact Subscript_ (binT ha hb I h fun v u s2 x y H2 I2 rx ry q => hr a b pins s2 σ H2 x y v u Q I2 rx ry q (hs _ _))
def rIxL (K : PySem.W.Frag) : R2 := fun x y H Q => ∃ p xs i v, x = .ref p ∧ y = .int i ∧ SqL K H p xs ∧ atI xs i = some v ∧ Q v H
def rIxT (K : PySem.W.Frag) : R2 := fun x y H Q => ∃ p xs i v, x = .ref p ∧ y = .int i ∧ SqT K H p xs ∧ atI xs i = some v ∧ Q v H
def rIxS : R2 := fun x y H Q => ∃ z i c, x = .str z ∧ y = .int i ∧ z.length ≤ sizeLine ∧ atI z.cps.toList i = some c ∧ Q (.str ⟨#[c]⟩) H
theorem ix_list : IxR X (rIxL X.K) := by
  intro value slice pins s σ H x y v u Q I rx ry h hs
  obtain ⟨p, xs, i, z, rfl, rfl, hq, he, q⟩ := h
  cases rx
  obtain ⟨t, rfl⟩ := ry
  obtain ⟨its, r, pl, hz⟩ := I.list hq
  obtain ⟨j, h1, h2, h3, h4, h5⟩ := atI_get he
  obtain ⟨w, ew, rw'⟩ := r.get h2
  have hl := r.length
  have hn := line63
  have fin : EP X pins σ Q w s := ⟨z, H, I, rw', q⟩
  by_cases h0 : 0 ≤ i
  · have hj : i.toNat = j := by
      rw [seqIndex_of h0 h5] at h1
      exact Option.some.inj h1
    exact item_listR pl.isList h0 (by omega) (by rw [hj]; simpa using ew) fin hs
  · have hj : (i + (its.toArray.size : Int)).toNat = j := by
      rw [seqIndex_neg (by omega) h4] at h1
      rw [List.size_toArray, ← hl]
      exact Option.some.inj h1
    exact subscriptTail_builtinR (x := w) pl.isList.typeIs slot_list_getitem.lookup
      (wpAny_getItem_list_neg (Q := fun r s' => r = w ∧ EP X pins σ Q r s') pl.isList (by omega) (by rw [List.size_toArray] <;> omega) (by omega) (by rw [hj]; simpa using ew) ⟨rfl, fin⟩) hs
theorem ix_tup : IxR X (rIxT X.K) := by
  intro value slice pins s σ H x y v u Q I rx ry h hs
  obtain ⟨p, xs, i, z, rfl, rfl, hq, he, q⟩ := h
  cases rx
  obtain ⟨t, rfl⟩ := ry
  obtain ⟨its, r, pl, hz⟩ := I.tuple hq
  obtain ⟨j, h1, h2, h3, h4, h5⟩ := atI_get he
  obtain ⟨w, ew, rw'⟩ := r.get h2
  have hl := r.length
  have hn := line63
  have fin : EP X pins σ Q w s := ⟨z, H, I, rw', q⟩
  exact subscriptTail_builtinR (x := w) pl.typeIs slot_tuple_getitem.lookup
    (getItem_tuple (j := j) (Q := fun r s' => r = w ∧ EP X pins σ Q r s') pl (by omega) (by omega) (by rw [List.size_toArray, ← hl]; exact h1) (by simpa using ew) ⟨rfl, fin⟩) hs
theorem ix_str : IxR X rIxS := by
  intro value slice pins s σ H x y v u Q I rx ry h hs
  obtain ⟨z, i, c, rfl, rfl, hz, he, q⟩ := h
  obtain ⟨t, rfl⟩ := rx
  obtain ⟨t', rfl⟩ := ry
  obtain ⟨j, h1, h2, h3, h4, h5⟩ := atI_get he
  have hl : z.cps.toList.length = z.length := by simp [Str.length]
  rw [hl] at h1 h4 h5
  have hn := line63
  exact tail_any (typeIs_str s z t) slot_str_getitem.lookup (getItem_str (c := c) (by
    have e1 : decide (i < -(2 ^ 63 : Int)) = false := decide_eq_false (by omega)
    have e2 : decide (i ≥ 2 ^ 63) = false := decide_eq_false (by omega)
    rw [e1, e2, Bool.or_false]) (by rw [h1]; simpa using h2) ⟨.str ⟨#[c]⟩, H, I.tok _, ⟨_, rfl⟩, q⟩) hs
theorem mapSeq_set (its : List Value) (n j : Nat) (u : Value) : Obj.mapSeq (·.setIfInBounds j u) { cls := .type "list", data := .seq its.toArray n } = { cls := .type "list", data := .seq (its.set j u).toArray n } := by
  simp [Obj.mapSeq]
theorem Inv.lst {pins : List (Addr × Obj)} {σ : St} {H : Hp} {s : Shared} {p : Addr} {xs : List V} (I : Inv X pins σ H s) (h : H p = some (.lst xs)) :
    ∃ (its : List Value) (n : Nat), Vals xs its ∧ s.heap.get? p = some { cls := .type "list", data := .seq its.toArray n } ∧ xs.length ≤ sizeLine := by
  obtain ⟨z, its, n, r, e⟩ := I.hok p _ h
  exact ⟨its, n, r, e, z⟩
theorem Inv.lstUpd {pins : List (Addr × Obj)} {σ : St} {H : Hp} {s : Shared} {p : Addr} {xs ys : List V} {its its' : List Value} {n n' : Nat} {f : Obj → Obj} (I : Inv X pins σ H s) (h : H p = some (.lst xs))
    (ho : s.heap.get? p = some { cls := .type "list", data := .seq its.toArray n }) (hf : f { cls := .type "list", data := .seq its.toArray n } = { cls := .type "list", data := .seq its'.toArray n' }) (r : Vals ys its') (hz : ys.length ≤ sizeLine) (t : Nat) :
    Inv X pins σ (upd H p (.lst ys)) { s with heap := s.heap.update p f, toks := t } := by
  have e : (s.heap.update p f).get? p = some { cls := .type "list", data := .seq its'.toArray n' } := by
    rw [Heap.get?_update_self f ho (by rw [hf] <;> rfl), hf]
  refine I.write (x := p) (e := p) (by rw [h]; trivial) (.inl rfl) (fun b u hb q => (Heap.get?_update_other _ _ (Ne.symm hb)).trans q) ⟨_, e⟩ ?_
  exact ⟨hz, its', n', r, e⟩
def rSetL : V → V → V → Hp → (Hp → Prop) → Prop := fun o i v H Q => ∃ p xs k j, o = .ref p ∧ i = .int k ∧ H p = some (.lst xs) ∧ ixN xs.length k = some j ∧ Q (upd H p (.lst (xs.set j v)))
theorem set_list : PSet X rSetL := by
  intro pins s σ H o i v ov iv u Q I ro ri rv h
  obtain ⟨p, xs, k, j, rfl, rfl, hp, hj, q⟩ := h
  cases ro
  obtain ⟨t, rfl⟩ := ri
  obtain ⟨its, n, r, ho, hz⟩ := I.lst hp
  obtain ⟨h1, h2, h3, h4⟩ := ixN_seq hj
  have hl := r.length
  have hn := line63
  have I' : Inv X pins σ (upd H p (.lst (xs.set j v))) { s with heap := s.heap.update p (Obj.mapSeq (·.setIfInBounds j u)) } :=
    I.lstUpd hp ho (mapSeq_set its n j u) (r.set rv j) (by rw [List.length_set]; exact hz) s.toks
  by_cases h0 : 0 ≤ k
  · have hk : k.toNat = j := by
      rw [seqIndex_of h0 h4] at h1
      exact Option.some.inj h1
    exact PySem.W.ki_setAt ho h0 (by omega) (by rw [List.size_toArray, ← hl]; exact h4) (by rw [hk]; exact ⟨_, I', q⟩)
  · have hk : (k + (its.toArray.size : Int)).toNat = j := by
      rw [seqIndex_neg (by omega) h3] at h1
      rw [List.size_toArray, ← hl]
      exact Option.some.inj h1
    exact PySem.W.ki_setBack ho (by omega) (by rw [List.size_toArray, ← hl]; exact h3) (by omega) (by rw [hk]; exact ⟨_, I', q⟩)
def flatV : V → Bool
  | .non => true
  | .bl _ => true
  | .int _ => true
  | .str _ => true
  | _ => false
def eqV : V → V → Bool
  | .non, .non => true
  | .bl a, .bl b => a == b
  | .bl a, .int b => (if a then 1 else 0) == b
  | .int a, .bl b => a == (if b then 1 else 0)
  | .int a, .int b => a == b
  | .str a, .str b => a == b
  | _, _ => false
theorem eqAt_V {A : Around} {s : Shared} {y x : V} {u v : Value} (ry : RelV y u) (rx : RelV x v) (fy : flatV y = true) (fx : flatV x = true) : SeqAt.EqAt A s u v (eqV y x) := by
  cases y with
  | non =>
    cases ry
    cases x with
    | non => cases rx; exact SeqAt.EqAt.same _
    | bl b => cases rx; exact SeqAt.EqAt.none_bool b
    | int b => obtain ⟨t, rfl⟩ := rx; exact SeqAt.EqAt.none_int b t
    | str b => obtain ⟨t, rfl⟩ := rx; exact SeqAt.EqAt.none_str b t
    | _ => exact absurd (show false = true from fx) Bool.false_ne_true
  | bl a =>
    cases ry
    cases x with
    | non => cases rx; exact SeqAt.EqAt.bool_none a
    | bl b => cases rx; exact SeqAt.EqAt.bool_bool a b
    | int b => obtain ⟨t, rfl⟩ := rx; exact SeqAt.EqAt.bool_int a b t
    | str b => obtain ⟨t, rfl⟩ := rx; exact SeqAt.EqAt.bool_str a b t
    | _ => exact absurd (show false = true from fx) Bool.false_ne_true
  | int a =>
    obtain ⟨t', rfl⟩ := ry
    cases x with
    | non => cases rx; exact SeqAt.EqAt.int_none a t'
    | bl b => cases rx; exact SeqAt.EqAt.int_bool a t' b
    | int b => obtain ⟨t, rfl⟩ := rx; exact SeqAt.EqAt.int_int a t' b t
    | str b => obtain ⟨t, rfl⟩ := rx; exact SeqAt.EqAt.int_str a t' b t
    | _ => exact absurd (show false = true from fx) Bool.false_ne_true
  | str a =>
    obtain ⟨t', rfl⟩ := ry
    cases x with
    | non => cases rx; exact SeqAt.EqAt.str_none a t'
    | bl b => cases rx; exact SeqAt.EqAt.str_bool a t' b
    | int b => obtain ⟨t, rfl⟩ := rx; exact SeqAt.EqAt.str_int a t' b t
    | str b => obtain ⟨t, rfl⟩ := rx; exact SeqAt.EqAt.str_str a t' b t
    | _ => exact absurd (show false = true from fx) Bool.false_ne_true
  | _ => exact absurd (show false = true from fy) Bool.false_ne_true
theorem call_len_seq : CallR X (.builtin "len") (fun xs H Q => ∃ p ys, xs = [.ref p] ∧ (SqL X.K H p ys ∨ SqT X.K H p ys) ∧ Q (.int ys.length) H) := by
  intro pins s σ H xs us Q I r h
  obtain ⟨p, ys, rfl, hq, q⟩ := h
  obtain ⟨u, rfl, rx⟩ := vals1 r
  cases rx
  have hn := line63
  rcases hq with hq | hq
  · obtain ⟨its, r', pl, hz⟩ := I.list hq
    have hlen := r'.length
    exact Calls.call_len_list pl.isList (by simp only [List.size_toArray] <;> omega) ⟨.int ys.length, H, I.tok _, ⟨s.toks + 1, by rw [List.size_toArray, hlen]⟩, q⟩
  · obtain ⟨its, r', pl, hz⟩ := I.tuple hq
    have hlen := r'.length
    exact len_tuple pl (by simp only [List.size_toArray] <;> omega) ⟨.int ys.length, H, I.tok _, ⟨s.toks + 1, by rw [List.size_toArray, hlen]⟩, q⟩
theorem call_len_str : CallR X (.builtin "len") (fun xs H Q => ∃ z, xs = [.str z] ∧ z.length ≤ sizeLine ∧ Q (.int z.length) H) := by
  intro pins s σ H xs us Q I r h
  obtain ⟨z, rfl, hz, q⟩ := h
  obtain ⟨u, rfl, t, rfl⟩ := vals1 r
  have hn := line63
  exact len_str (by omega) ⟨.int z.length, H, I.tok _, ⟨_, rfl⟩, q⟩
theorem call_tuple_of : CallR X (.type "tuple") (fun xs H Q => ∃ p ys, xs = [.ref p] ∧ ((SqL X.K H p ys ∧ ∀ l, H l = none → Q (.ref l) (upd H l (.tup ys))) ∨ (SqT X.K H p ys ∧ Q (.ref p) H))) := by
  intro pins s σ H xs us Q I r h
  obtain ⟨p, ys, rfl, h⟩ := h
  obtain ⟨u, rfl, rx⟩ := vals1 r
  cases rx
  rcases h with ⟨hq, q⟩ | ⟨hq, q⟩
  · obtain ⟨its, r', pl, hz⟩ := I.list hq
    have hlen := r'.length
    refine call_tuple_list pl.isList (fun h' kp => ?_) (by simp only [List.size_toArray] <;> omega)
    have I1 : Inv X pins σ H { s with heap := h' } := I.kept (t' := s.toks) kp
    have I2 : Inv X pins σ (upd H h'.objs.size (.tup ys)) { s with heap := h'.push { cls := .type "tuple", data := .seq its.toArray } } :=
      I1.laid (t' := s.toks) (fun b o e => Heap.get?_push_of_some _ e) (Nat.le_refl _) (show ObjOk X.prog X.w _ _ _ (.tup ys) from ⟨hz, its, r', IsTup.new _ _⟩)
    exact ⟨.ref h'.objs.size, _, I2, rfl, q _ (I1.hok.fresh (Nat.le_refl _))⟩
  · obtain ⟨its, r', pl, hz⟩ := I.tuple hq
    exact call_tuple_same pl ⟨.ref p, H, I, rfl, q⟩
def tyV (K : PySem.W.Frag) (T : String) (x : V) (H : Hp) : Prop := match x with
  | .str _ => T = "str"
  | .int _ => T = "int"
  | .ref p => (T = "list" ∧ ∃ xs, SqL K H p xs) ∨ (T = "tuple" ∧ ∃ o, K.lookup p = some o ∧ o.cls = .type "tuple" ∧ o.dict = none) ∨
      (T = "dict" ∧ ((∃ kvs, H p = some (.dK kvs)) ∨ ∃ kvs, H p = some (.dT kvs))) ∨ (T = "set" ∧ ∃ S n, H p = some (.set S n))
  | _ => False
theorem tyV_is {pins : List (Addr × Obj)} {σ : St} {H : Hp} {s : Shared} {T : String} {x : V} {v : Value} (I : Inv X pins σ H s) (r : RelV x v) (ty : tyV X.K T x H) :
    s.TypeIs v T ∧ ∀ a, v = .ref a → ∃ ob, s.heap.get? a = some ob ∧ ob.dict = none := by
  cases x with
  | str z =>
    obtain ⟨t, rfl⟩ := r
    cases (show T = "str" from ty)
    exact ⟨typeIs_str s z t, fun _ e => nomatch e⟩
  | int i =>
    obtain ⟨t, rfl⟩ := r
    cases (show T = "int" from ty)
    exact ⟨typeIs_int s i t, fun _ e => nomatch e⟩
  | ref p =>
    cases r
    rcases ty with ⟨rfl, xs, hq⟩ | ⟨rfl, o, hk, hc, hd⟩ | ⟨rfl, hk⟩ | ⟨rfl, S, n, hk⟩
    · obtain ⟨its, _, pl, _⟩ := I.list hq
      refine ⟨pl.isList.typeIs, fun a e => ?_⟩
      cases e
      obtain ⟨o, n, e, c, hd, _⟩ := pl
      exact ⟨o, e, hd⟩
    · refine ⟨⟨o, I.kIn p o hk, hc⟩, fun a e => ?_⟩
      cases e
      exact ⟨o, I.kIn _ o hk, hd⟩
    · have z : ∃ o, s.heap.get? p = some o ∧ o.ExactDict := by
        rcases hk with ⟨kvs, hk⟩ | ⟨kvs, hk⟩
        · obtain ⟨_, _, _, _, o, _, _, e, ex, _⟩ := I.hok p _ hk
          exact ⟨o, e, ex⟩
        · exact False.elim (show ObjOk X.prog X.w H s.heap p (.dT kvs) from I.hok p _ hk)
      obtain ⟨o, e, ex⟩ := z
      refine ⟨⟨o, e, ex.1⟩, fun a e2 => ?_⟩
      cases e2
      exact ⟨o, e, ex.2.1⟩
    · obtain ⟨o, _, _, _, e, ex, _⟩ := I.hok p _ hk
      refine ⟨⟨o, e, ex.1⟩, fun a e2 => ?_⟩
      cases e2
      exact ⟨o, e, ex.2.1⟩
  | _ => exact False.elim ty
def tBM0 (K : PySem.W.Frag) (T : String) (r : V → List V → Hp → VK → Prop) (to : TE) : TE := fun σ H Q => to σ H fun x H1 => tyV K T x H1 ∧ r x [] H1 Q
def tBM (K : PySem.W.Frag) (T : String) (r : V → List V → Hp → VK → Prop) (to : TE) (t : TA) : TE := fun σ H Q => to σ H fun x H1 => tyV K T x H1 ∧ t σ H1 fun xs H2 => r x xs H2 Q
variable {o e : Expr} {es : List Expr} {to : TE} {t : TA} {name : Str} {apos cpos : Pos} {T id : String} {r : V → List V → Hp → VK → Prop}
theorem pe_bm0 (pa : PlainAttrs T) (slot : Slot T name id) (hty : typeOf (.builtin id) = pure (.type "method_descriptor")) (hm : MtR X id r) (ho : PE X o to)
    (hbase : attributeBase o name X.env (eval o X.env) = eval o X.env := by rfl) (hline : (apos.endLine == cpos.line) = true := by rfl) : PE X (.Call (.Attribute o name apos) [] [] cpos) (tBM0 X.K T r to) := by
  intro pins s σ H Q I h
  refine wpAny_Call_method0_late hbase hline (thn (ho pins s σ H _ I h) fun v s1 ⟨x, H1, I1, r1, ty, q1⟩ => ?_)
  obtain ⟨h1, h2⟩ := tyV_is I1 r1 ty
  exact ⟨T, id, pa, slot, hty, h1, h2, Calls.callWith_builtin rfl (PySem.evalArgs_none (hm pins s1 σ H1 x [] v [] Q I1 r1 .nil q1))⟩
theorem pe_bm (pa : PlainAttrs T) (slot : Slot T name id) (hty : typeOf (.builtin id) = pure (.type "method_descriptor")) (hm : MtR X id r) (ho : PE X o to) (ha : PA X (e :: es) t)
    (hbase : attributeBase o name X.env (eval o X.env) = eval o X.env := by rfl)
    (hfew : ((backTo cpos (starEach (e :: es) X.env)).all (fun x => !x.1) && (backToKw cpos (keywordEach [] X.env)).all (fun x => x.1.isSome)
      && decide ((e :: es).length + ([] : List Keyword).length + (if ([] : List Keyword).isEmpty then 0 else 1) < 30)) = true := by rfl)
    (hline : (apos.endLine == cpos.line) = true := by rfl) (hs : starEach (e :: es) X.env = (false, eval e X.env) :: starEach es X.env := by rfl) (hplain : (backTo cpos (starEach es X.env)).any (·.1) = false := by rfl) :
    PE X (.Call (.Attribute o name apos) (e :: es) [] cpos) (tBM X.K T r to t) := by
  intro pins s σ H Q I h
  refine wpAny_Call_method_late hbase hfew hline rfl (thn (ho pins s σ H _ I h) fun v s1 ⟨x, H1, I1, r1, ty, q1⟩ => ?_)
  obtain ⟨h1, h2⟩ := tyV_is I1 r1 ty
  refine ⟨T, id, pa, slot, hty, h1, h2, ?_⟩
  have hA := ha cpos pins s1 σ H1 _ I1 q1
  rw [hs] at hA ⊢
  refine Calls.callWith_builtin (by show (false || (backTo cpos (starEach es X.env)).any (·.1)) = false; rw [hplain] <;> rfl) (Calls.evalArgs_plain ?_)
  exact thn hA fun us s2 ⟨vs, H2, I2, r2, q2⟩ => hm pins s2 σ H2 x vs v us Q I2 r1 r2 q2
/- xs.append(e), list.index on a module's tuple .. are MtR facts of 06m -/
end
end L2
namespace L2
open PySem PySem.Spec PyProof.Rows
def MtM (X : Cx) (id : String) (r : V → List V → Hp → VK → Prop) : Prop :=
  ∀ (pins : List (Addr × Obj)) (s : Shared) (σ : St) (H : Hp) (x : V) (xs : List V) (v : Value) (us : List Value) (Q : VK), Inv X pins σ H s → RelV x v → Vals xs us → r x xs H Q →
    wpAny (model X.prog X.w) X.A (call (.builtin id) (v :: us)) (EP X pins σ Q) X.xe s
theorem Vals.one : ∀ {x : V} {us : List Value}, Vals [x] us → ∃ u, us = [u] ∧ RelV x u
  | _, _, .cons r .nil => ⟨_, rfl, r⟩
theorem Vals.two : ∀ {x y : V} {us : List Value}, Vals [x, y] us → ∃ u v, us = [u, v] ∧ RelV x u ∧ RelV y v
  | _, _, _, .cons r (.cons q .nil) => ⟨_, _, rfl, r, q⟩
section
variable {X : Cx} {pins : List (Addr × Obj)} {σ : St} {H : Hp} {s : Shared} {l b : Addr} {xs ys zs : List V}
theorem Inv.lset {its its' : List Value} {n : Nat} {f : Array Value → Array Value} {t' : Nat} (I : Inv X pins σ H s) (hH : H l = some (.lst xs))
    (e : s.heap.get? l = some { cls := .type "list", data := .seq its.toArray n }) (hf : f its.toArray = its'.toArray) (hv : Vals ys its') (hz : ys.length ≤ sizeLine) :
    Inv X pins σ (upd H l (.lst ys)) { s with heap := s.heap.update l (Obj.mapSeq f), toks := t' } := by
  have q := PySem.IsL.update e f
  rw [hf] at q
  refine I.write (x := l) (e := l) (by rw [hH]; exact trivial) (.inl rfl) (fun b' u hb hu => (Heap.get?_update_other s.heap (Obj.mapSeq f) (Ne.symm hb)).trans hu) ⟨_, q⟩ ?_
  exact ⟨hz, its', _, hv, q⟩
theorem Inv.lnew {its : List Value} {t' : Nat} (I : Inv X pins σ H s) (hv : Vals ys its) (hz : ys.length ≤ sizeLine) :
    Inv X pins σ (upd H s.heap.objs.size (.lst ys)) { s with heap := s.heap.push { cls := .type "list", data := .seq its.toArray }, toks := t' } :=
  I.laid (fun _ _ q => Heap.get?_push_of_some _ q) (Nat.le_refl _) ⟨hz, its, 0, hv, Heap.get?_push_size _ rfl⟩
theorem Inv.fresh (I : Inv X pins σ H s) : H s.heap.objs.size = none := I.hok.fresh (Nat.le_refl _)
theorem Inv.lstM (I : Inv X pins σ H s) (hH : H l = some (.lst xs)) : xs.length ≤ sizeLine ∧ ∃ (its : List Value) (n : Nat), Vals xs its ∧ xs.length = its.length ∧ s.heap.get? l = some { cls := .type "list", data := .seq its.toArray n } := by
  obtain ⟨z, its, n, r, e⟩ := I.hok l _ hH
  exact ⟨z, its, n, r, r.length, e⟩
end
section
variable {X : Cx}
def rAppend : V → List V → Hp → VK → Prop := fun x vs H Q => ∃ l xs y, x = .ref l ∧ vs = [y] ∧ H l = some (.lst xs) ∧ xs.length < sizeLine ∧ Q .non (upd H l (.lst (xs ++ [y])))
theorem mt_append : MtM X "list.append" rAppend := by
  intro pins s σ H x vs v us Q I rx rv h
  obtain ⟨l, xs, y, rfl, rfl, hH, hz, q⟩ := h
  cases rx
  obtain ⟨u, rfl, ru⟩ := rv.one
  obtain ⟨z, its, n, r, hl, e⟩ := I.lstM hH
  refine call_meets F.slot_list_append ⟨_, e, rfl⟩ F.entry_list_append (F.args_list_append_2 _ _) (PySem.list_append l its.toArray n u (by rw [List.size_toArray]; omega)) ⟨e, ?_⟩
  refine ⟨.non, _, I.lset (its' := its ++ [u]) hH e (by simp) (r.append (.cons ru .nil)) ?_, rfl, q⟩
  rw [List.length_append, List.length_singleton]
  omega
def rCat : R2 := fun x y H Q => ∃ l b xs zs, x = .ref l ∧ y = .ref b ∧ H l = some (.lst xs) ∧ H b = some (.lst zs) ∧ xs.length + zs.length ≤ sizeLine ∧ ∀ p, H p = none → Q (.ref p) (upd H p (.lst (xs ++ zs)))
theorem op_cat : OpR X (binaryOp .Add) rCat := by
  intro pins s σ H x y v u Q I rx ry h
  obtain ⟨l, b, xs, zs, rfl, rfl, hH, hB, hz, q⟩ := h
  cases rx
  cases ry
  obtain ⟨z, its, n, r, hl, e⟩ := I.lstM hH
  obtain ⟨z2, its2, n2, r2, hl2, e2⟩ := I.lstM hB
  refine PySem.P.add_list e e2 ?_ (by rw [List.size_toArray, List.size_toArray]; omega)
  have ea : its.toArray ++ its2.toArray = (its ++ its2).toArray := by simp
  rw [ea]
  exact ⟨.ref _, _, I.lnew (t' := s.toks) (r.append r2) (by rw [List.length_append]; omega), rfl, q _ I.fresh⟩
end
section
variable {prog : Program} {w : World} {A : Around} {E : Value → Shared → Prop} {s : Shared}
set_option maxRecDepth 100000 in
end
section
variable {X : Cx}
end
end L2
namespace Att
open PySem PySem.W PySem.Calls PyProof.Rows
theorem ints_of_wellAll {P : Params} {h : Heap} : ∀ (ns : List Int) (vs : List Value), WellAll P h vs (ns.map WData.int) → IntsAre vs ns := by
  intro ns
  induction ns with
  | nil =>
    intro vs w
    rw [List.map_nil] at w
    cases w
    exact .nil
  | cons n ns ih =>
    intro vs w
    rw [List.map_cons] at w
    cases w with
    | cons a b =>
      cases a
      exact .cons _ _ (ih _ b)
theorem script_of {l : OpenLaw} {n : Nat} (hn : l.most = some n) {P : Params} {h : Heap} {args : List WData} {vals : List Value}
    (hpre : l.row.toRowW.claim.pre args = true) (hwl : WellAll P h vals args) :
    ∃ a vs ns, vals = [Value.ref a] ∧ args = [WData.list (ns.map WData.int)] ∧ h.get? a = some { cls := .type "list", data := .seq vs.toArray } ∧ IntsAre vs ns ∧ ns.length ≤ n := by
  have hsh : WShape.hasAll [] args [.list .int] = true := (pre_splitW hpre).1
  have hc : l.pre.holds [] { args := args } = true := (pre_splitW hpre).2
  obtain ⟨d, r, rfl, h1, h2⟩ := hasAllW_cons hsh
  obtain rfl := hasAllW_nil h2
  obtain ⟨xs, rfl, h3⟩ := hasW_list h1
  obtain ⟨ns, rfl⟩ := items_int h3
  have hlen : ns.length ≤ n := by
    unfold OpenLaw.pre at hc
    have h4 : (WTm.not (.lt (.lit (.int (n : Int))) (.len (.arg 0)))).holds [] { args := [.list (ns.map .int)] } = true := by
      have h4 := (holds_andW hc).1
      rw [hn] at h4
      exact h4
    have h5 := condW_of h4 (w_not (w_lt w_lit (w_len_list (w_arg rfl))))
    rw [List.length_map] at h5
    refine Nat.le_of_not_lt fun q => ?_
    have q' : (n : Int) < ((ns.length : Nat) : Int) := by omega
    first
      | (rw [decide_eq_true q'] at h5; exact absurd h5 (by decide))
      | (simp at h5; omega)
  cases hwl with
  | cons w1 w2 =>
    cases w2
    cases w1 with
    | list ho hall => exact ⟨_, _, ns, rfl, rfl, ho, ints_of_wellAll ns _ hall, hlen⟩
theorem post_true (l : OpenLaw) (args : List WData) : l.row.toRowW.claim.post args (.bool true) args = true :=
  postW_of (r := l.row.toRowW) (X := (true == true))
    (show WShape.has [] (.bool true) .bool = true by first | rfl | decide | simp [WShape.has, WShape.arms, WShape.armsAll])
    (show (WTm.eq .res (.lit (.bool true))).value [] { args := args, res := some (.bool true), after := args } = some (.bool (true == true)) from w_eq_bool (w_res rfl) w_lit) rfl
section
variable {prog : Program} {w : World} {A : Around} {E : Value → Shared → Prop} {s : Shared} {K : Frag}
end
end Att
namespace L2
open PySem PySem.Spec PyProof.Rows
theorem vals_ints : ∀ {vs : List Value} {ns : List Int}, IntsAre vs ns → Vals (ns.map V.int) vs
  | _, _, .nil => .nil
  | _, _, .cons n t h => .cons ⟨t, rfl⟩ (vals_ints h)
def Only (H : Hp) : Prop := ∀ b, H b = none ∨ ∃ o xs, H b = some (.frz o (.lst xs))
theorem law_call {P : Program} {w : World} {K : PySem.W.Frag} {mg mb : Str → Option Value} {CX : CXT} {k : Nat} {fa a : Addr} {fd : FuncData} {x : Str} {sp : Sp} {s₁ : Shared} {vs : List Value} {ns : List Int}
    (KX : K.In s₁.heap) (hns : s₁.heap.Ns mainGlobals mg) (hb : s₁.heap.Ns builtinsNs mb) (hbb : ∀ x : Str, x ≠ "__name__" → mb x = bootBuiltins x) (hlim : s₁.heap.NoLimit) (hg : s₁.gens = #[])
    (ha : s₁.heap.get? a = some { cls := .type "list", data := .seq vs.toArray }) (hi : IntsAre vs ns) (hl : ns.length ≤ sizeLine) (hr : Room k callerA)
    (F : ∀ base : Heap, K.In base → base.Ns mainGlobals mg → FnOk P w K mg base CX k fa fd [x] sp) (hbind : ∀ (s : Shared) (u : Value), BindsTo s fd ⟨[u], []⟩ [(x, u)])
    (hsp : ∀ H : Hp, Only H → SqL K H a (ns.map V.int) → sp [.ref a] H (fun v _ => v = .bl true) fun _ _ _ => False)
    (hCX : ∀ H e s', CX [] H s₁ (fun _ _ _ => False) e s' → False) :
    codeAny (model P w) callerA (.call (.ref fa) ⟨[.ref a], []⟩) (fun r s' => r = .ok (.ret (.bool true)) ∧ OldK s₁.heap s'.heap ∧ s'.os = s₁.os ∧ AllBare s'.gens) s₁ := by
  have rv := vals_ints hi
  have lenV := hi.length
  -- from an abstract heap in which nothing but the script may be tracked
  have core : ∀ H : Hp, Only H → SqL K H a (ns.map V.int) → HOk P w H s₁.heap → (∀ b, H b ≠ none → b = a) → (H a ≠ none → K.lookup a = none) →
      codeAny (model P w) callerA (.call (.ref fa) ⟨[.ref a], []⟩) (fun r s' => r = .ok (.ret (.bool true)) ∧ OldK s₁.heap s'.heap ∧ s'.os = s₁.os ∧ AllBare s'.gens) s₁ := by
    intro H hO hS hok hA hK
    have base_of : ∀ {b : Addr} {o : Obj}, s₁.heap.get? b = some o → H b = none → (hidT s₁.heap H).get? b = some o := fun e n => hidT_get e n
    have noA : ∀ {b : Addr} {o : Obj} {es : Array DictEntry} {ep : Nat}, s₁.heap.get? b = some o → o.data = .dict es ep → H b = none := fun {b o es ep} e d => by
      cases q : H b with
      | none => rfl
      | some u =>
        have e' : b = a := hA b (by rw [q]; simp)
        subst e'
        rw [ha] at e; cases e
        have d' : Data.seq vs.toArray _ = Data.dict es ep := d
        cases d'
    have nsK : ∀ {b : Addr} {m : Str → Option Value}, s₁.heap.Ns b m → (hidT s₁.heap H).Ns b m := fun {b m} ⟨o, es, ep, e, d, r⟩ => ⟨o, es, ep, base_of e (noA e d), d, r⟩
    have hKb : K.In (hidT s₁.heap H) := fun b o e => base_of (KX b o e) (by
      cases q : H b with
      | none => rfl
      | some u =>
        have e' : b = a := hA b (by rw [q]; simp)
        subst e'
        rw [hK (by rw [q]; simp)] at e; cases e)
    have hM : Mod K mg (hidT s₁.heap H) := ⟨hKb, nsK hns, ⟨mb, nsK hb, hbb⟩, let ⟨mc, h1, h2⟩ := hlim; ⟨mc, nsK h1, h2⟩⟩
    have e0 : Env0 P w K mg (hidT s₁.heap H) callerA [] s₁ H := ⟨rfl, hM, fun b o e => of_hidT e, Nat.le_of_eq (hidT_size _ _), trivial, fun b hb => absurd (show b ∈ ([] : List Addr) from hb) (by simp), hok, .of_eq hg⟩
    refine codeAny_mono ((F _ hKb (nsK hns)).run callerA [] s₁ H ⟨[.ref a], []⟩ [.ref a] [.ref a] _ _ hr e0 (hbind s₁ (.ref a)) (.cons rfl .nil) (hsp H hO hS)) fun r s' h => ?_
    cases r with
    | error e => exact (hCX H e s' h).elim
    | ok fl =>
      cases fl with
      | next => exact False.elim h
      | brk => exact False.elim h
      | cont => exact False.elim h
      | ret u =>
        obtain ⟨v, H', os, bare, un, hok', r', q⟩ := h
        have q' : v = .bl true := q
        subst q'
        obtain rfl : u = Value.bool true := r'
        refine ⟨rfl, OldK.of_keep fun b o e => ?_, os, bare⟩
        cases q : H b with
        | none => exact un.keep b o e q (by intro z; exact absurd (show b ∈ ([] : List Addr) from z) (by simp)) (by simp)
        | some u =>
          rcases hO b with z | ⟨ob, xs, z⟩
          · rw [q] at z; cases z
          · have z2 := un.frzs b ob _ z
            obtain ⟨e1, _⟩ := hok b _ z
            obtain ⟨e2, _⟩ := hok' b _ z2
            rw [e] at e1; cases e1
            exact e2
  cases hk : K.lookup a with
  | some o =>
    -- the script is one of the module's own objects
    have e := KX a o hk
    rw [ha] at e
    cases e
    refine core (fun _ => none) (fun _ => .inl rfl) (.inr ⟨_, vs.toArray, _, hk, rfl, rfl, rfl, by rw [List.size_toArray, lenV]; exact hl, by simpa using rv⟩) (fun b u z => by have z' : (none : Option HO) = some u := z; cases z') (fun b z => absurd rfl z) fun z => absurd rfl z
  | none =>
    refine core (fun b => if b = a then some (.frz { cls := .type "list", data := .seq vs.toArray } (.lst (ns.map V.int))) else none) (fun b => ?_) (.inl (.inr ⟨{ cls := .type "list", data := .seq vs.toArray }, if_pos rfl⟩)) (fun b u z => ?_) (fun b z => ?_) fun _ => hk
    · by_cases hb : b = a
      · exact .inr ⟨_, _, if_pos hb⟩
      · exact .inl (if_neg hb)
    · by_cases hb : b = a
      · have z' := (if_pos hb).symm.trans z
        cases z'
        subst hb
        exact ⟨ha, by rw [List.length_map]; exact hl, vs, _, rv, ha⟩
      · have z' := (if_neg hb).symm.trans z
        cases z'
    · by_cases hb : b = a
      · exact hb
      · exact absurd (if_neg hb) z
end L2
namespace L2
open PySem PySem.Spec PyProof.Rows
end L2
/- THE LAST THEOREM (shape; LID, My.* are yours):
   My.Adr: a structure of the addresses that your layer names (classes, functions); My.Txt K t: a structure (Prop) of the equations over K;
   My.txt_mk : {K} {implicit addresses ..} (e1 : nsIn K mainGlobals "law" = some (some (.ref f))) (e2 : K.lookup f = some ⟨oc, od, .func (fnOf "law" "law" params body scope dV kV doc pm an cdv ct), sl⟩) (e3 : codeIn K cdv "law" = true) .. : ∃ t, My.Txt K t
set_option maxRecDepth 100000 in
set_option maxHeartbeats 0 in
theorem PySem.Challenge.cw_LID_holds : PySem.Challenge.rw_LID.Holds := by
  w_on; o_law; k_head; (case hw => w_witness2)
  k_fill
  refine L2.walk_of (l := PySem.Challenge.rw_LID) (n := 63) (k := 40) (x := "script") (CX := fun w => ..) (sp := fun _ => My.sp_law) rfl (by decide) rfl ⟨rfl, by decide, by decide⟩ (fun w h Y => PySem.W.kIn_of Y) ?F ?S ?C
  case F =>
    intro w mg fa h KX G hmg
    have T : ∃ t, My.Txt (L2.KOf KX) t := by
      dsimp only [L2.KOf]                          -- K must stand as «<heap const> w.params» for k_is
      refine' My.txt_mk ?e1 ?e2 ?e3 ..
      (case e1 => PySem.W.k_is)                    -- in the order: a name -> its address -> its object -> its parts
      (case e2 => PySem.W.k_is)
      ..
    obtain ⟨t, T⟩ := T
    have e0 := hmg.symm.trans (PySem.W.mg_of KX G T.law)
    cases e0                                       -- fa is the law's own address
    exact ⟨_, fun s u => .of_eq rfl, fun base kb nb => My.law_fn T kb nb⟩     -- if «.of_eq rfl» comes too early: refine' ⟨_, ?b, fun base kb nb => My.law_fn T kb nb⟩; exact fun s u => .of_eq rfl
  case S => exact fun w H a ns hl hO hS => ..
  case C => exact ..
(the tactic k_is has no namespace: write k_is) -/
namespace L2
open PySem PySem.Spec PyProof.Rows
abbrev CX0 : CXT := fun _ _ _ _ _ _ => False
abbrev E0 : XK := fun _ _ _ => False
theorem pass0 {X : Cx} : Passes CX0 X E0 := fun _ _ _ _ _ _ _ h => h.elim
structure Fun (K : PySem.W.Frag) (x qual : Str) (st : Stmt) (f : Addr) (fd : FuncData) : Prop where
  ex : ∃ (oc : Value) (od : Option Addr) (kV doc pm : Value) (an : Option Addr) (cdv ct : Value) (osl : Array (Option Value)),
    fd = PySem.W.fnOf x qual (defArgs st) (defBody st) (defScope st) .none kV doc pm an cdv ct ∧ K.lookup f = some ⟨oc, od, .func fd, osl⟩ ∧ PySem.W.codeIn K cdv qual = true
  kp : PySem.W.keepIn K (.ref f) = true
section
variable {P : Program} {w : World} {K : PySem.W.Frag} {mg : Str → Option Value} {base : Heap}
theorem Fun.ok {x qual : Str} {st : Stmt} {f : Addr} {fd : FuncData} {N ps : List Str} {k : Nat} {sp : Sp} (F : Fun K x qual st f fd) (S : FnScope N ps (defScope st)) (len : ∀ vs H Q E, sp vs H Q E → vs.length = ps.length)
    (hbody : ∀ (cdv : Value) (A : Around) (outer : List Env) (s : Shared) (H : Hp) (vs : List V) (Q : VK) (E : XK), Room k (A.deeper (envOfC qual (defScope st) s.heap.objs.size f cdv)) → sp vs H Q E →
      ∃ t, PSs (cxOf CX0 P w K mg base N qual (defScope st) f cdv A outer s H E).nox (defBody st) t ∧ t { nx := fun _ H' => Q .non H', rt := Q } (start N vs) H) : FnOk P w K mg base CX0 (k + 1) f fd ps sp := by
  obtain ⟨oc, od, kV, doc, pm, an, cdv, ct, osl, rfl, lk, hcd⟩ := F.ex
  refine fn_of lk hcd S len fun A outer s H vs Q E hr hsp => ?_
  obtain ⟨t, h, q⟩ := hbody cdv A outer s H vs Q E hr hsp
  exact ⟨t, h.nox, q⟩
theorem Fun.binds {x qual : Str} {st : Stmt} {f : Addr} {fd : FuncData} {ps : List Str} (F : Fun K x qual st f fd)
    (h : ∀ (kV doc pm : Value) (an : Option Addr) (cdv ct : Value) (us : List Value), us.length = ps.length → bindArgs (PySem.W.fnOf x qual (defArgs st) (defBody st) (defScope st) .none kV doc pm an cdv ct) ⟨us, []⟩ = pure (ps.zip us)) : Binds K fd ps [] := by
  obtain ⟨oc, od, kV, doc, pm, an, cdv, ct, osl, rfl, lk, hcd⟩ := F.ex
  exact .all (h kV doc pm an cdv ct)
theorem fun_mk {x qual : Str} {st : Stmt} {f : Addr} {oc : Value} {od an : Option Addr} {osl : Array (Option Value)} {kV doc pm cdv ct : Value} (l : K.lookup f = some ⟨oc, od, .func (PySem.W.fnOf x qual (defArgs st) (defBody st) (defScope st) .none kV doc pm an cdv ct), osl⟩)
    (c : PySem.W.codeIn K cdv qual = true) (k : PySem.W.keepIn K (.ref f) = true) : Fun K x qual st f (PySem.W.fnOf x qual (defArgs st) (defBody st) (defScope st) .none kV doc pm an cdv ct) := ⟨⟨oc, od, kV, doc, pm, an, cdv, ct, osl, rfl, l, c⟩, k⟩
end
section
variable {X : Cx}
theorem pv (i : Nat) {x : Str} {pos : Pos} (hN : X.N[i]? = some x := by rfl) (hv : Vis X.env.scope x := by first | exact Or.inl rfl | exact Or.inr (Or.inl rfl) | exact Or.inr (Or.inr rfl)) (hd : (x == ("__debug__" : Str)) = false := by decide)
    (hcd : (x == ("__classdict__" : Str)) = false := by decide) : PE X (.Name x pos) (tVar i) := pe_var hN hv hd hcd
end
theorem iteF {A B : Prop} (h : B) : if false = true then A else B := by
  rw [if_neg Bool.false_ne_true]
  exact h
theorem iteT {A B : Prop} (h : A) : if true = true then A else B := by
  rw [if_pos rfl]
  exact h
theorem ite2 {c A B : Prop} [Decidable c] (h1 : c → A) (h2 : ¬ c → B) : if c then A else B := by
  by_cases h : c
  · rw [if_pos h]
    exact h1 h
  · rw [if_neg h]
    exact h2 h
theorem iteNS {c A B : Prop} [Decidable c] (hc : c) (h : B) : if (!decide c) = true then A else B := by
  rw [decide_eq_true hc]
  exact iteF h
def Same (H H' : Hp) : Prop := ∀ b o, H b = some o → H' b = some o
theorem Same.refl (H : Hp) : Same H H := fun _ _ h => h
theorem Same.trans {H H1 H2 : Hp} (a : Same H H1) (b : Same H1 H2) : Same H H2 := fun c o h => b c o (a c o h)
theorem Same.free {H H' : Hp} (e : Same H H') {l : Addr} (h : H' l = Option.none) : H l = Option.none := by
  cases q : H l with
  | none => rfl
  | some o =>
    rw [e l o q] at h
    cases h
theorem Same.seq {K : PySem.W.Frag} {H H' : Hp} {a : Addr} {xs : List V} (e : Same H H') (h : SqL K H a xs) : SqL K H' a xs := by
  rcases h with (h | ⟨o, h⟩) | h
  · exact .inl (.inl (e _ _ h))
  · exact .inl (.inr ⟨o, e _ _ h⟩)
  · exact .inr h
end L2
set_option Elab.async false
set_option linter.all false
set_option maxRecDepth 100000
set_option maxHeartbeats 4000000
namespace L3
open PySem PySem.Spec PyProof.Rows L2
theorem same_upd {H : Hp} {p : Addr} {o : HO} (h : H p = none) : Same H (upd H p o) := fun b u e => by
  rw [upd_ne (ne_of_none e h)]; exact e
theorem same_to {H H' : Hp} {p : Addr} {o : HO} (s : Same H H') (h : H p = none) : Same H (upd H' p o) := fun b u e => by
  rw [upd_ne (ne_of_none e h)]; exact s b u e
def newO : HO → Prop
  | .lst _ => True
  | .tup _ => True
  | _ => False
def Rst (H H' : Hp) (P : Hp → Prop) : Prop := ∃ Hr, Same H Hr ∧ Same Hr H' ∧ (∀ a o, Hr a = some o → H a = some o ∨ newO o) ∧ P Hr
theorem Rst.same {H H' : Hp} {P : Hp → Prop} (s : Same H H') (p : P H) : Rst H H' P := ⟨H, Same.refl H, s, fun _ _ e => .inl e, p⟩
section
variable {P : Program} {w : World} {H Hr H' : Hp} {h h' : Heap}
theorem objOk_rst {a : Addr} {o : HO} (s1 : Same H Hr) (x0 : ObjOk P w H h a o) (x : ObjOk P w H' h' a o) : ObjOk P w Hr h' a o := by
  induction o with
  | ins C dx fs => exact ⟨s1 _ _ x0.1, x.2⟩
  | frz ob u ih => exact ⟨x.1, ih x0.2 x.2⟩
  | lst xs => exact x
  | tup xs => exact x
  | dK kvs => exact x
  | dT kvs => exact x
  | set S n => exact x
  | own y => exact x
  | xd fs => exact x
  | rng lo hi => exact x
  | tbl ps => exact x
  | met f y => exact x
  | ext φ => exact x
theorem hok_rst (e0 : HOk P w H h) (k : HOk P w H' h') (s1 : Same H Hr) (s2 : Same Hr H') (hn : ∀ a o, Hr a = some o → H a = some o ∨ newO o) : HOk P w Hr h' := fun a o e => by
  have x := k a o (s2 a o e)
  rcases hn a o e with z | z
  · exact objOk_rst s1 (e0 a o z) x
  · cases o with
    | lst xs => exact x
    | tup xs => exact x
    | _ => exact False.elim z
theorem un_rst {fs ex : List Addr} (u : Un fs ex H H' h h') (s1 : Same H Hr) (s2 : Same Hr H') : Un fs ex H Hr h h' where
  keep := u.keep
  slot := u.slot
  free := fun b o e n hx => s2.free (u.free b o e n hx)
  there := u.there
  tups := fun b xs e => s1 b _ e
  frzs := fun b o x e => s1 b _ e
  tbls := fun b ps e => ⟨#[], by rw [s1 b _ e]; simp⟩
end
section
variable {P : Program} {w : World} {K : PySem.W.Frag} {mg : Str → Option Value} {base : Heap} {CX : CXT} {k : Nat} {f : Addr} {fd : FuncData} {ps : List Str} {sp : Sp}
def SpR (sp : Sp) : Sp := fun vs H Q2 E => ∃ Q : VK, (∀ v H', Rst H H' (Q v) → Q2 v H') ∧ sp vs H Q E
theorem FnOk.rst (F : FnOk P w K mg base CX k f fd ps (SpR sp)) : FnOk P w K mg base CX k f fd ps sp :=
  ⟨fun vs H Q E h => F.len vs H (fun v H' => Rst H H' (Q v)) E ⟨Q, fun _ _ z => z, h⟩, fun A outer s H args us vs Q E hr he hb hv hs =>
    codeAny_mono (F.run A outer s H args us vs (fun v H' => Rst H H' (Q v)) E hr he hb hv ⟨Q, fun _ _ z => z, hs⟩) fun r s' hq => by
      cases r with
      | error e => exact hq
      | ok fl =>
        cases fl with
        | ret u =>
          obtain ⟨v, H', e1, e2, e3, e4, e5, Hr, s1, s2, hn, q⟩ := hq
          exact ⟨v, Hr, e1, e2, un_rst e3 s1 s2, hok_rst he.hok e4 s1 s2 hn, e5, q⟩
        | next => exact False.elim hq
        | brk => exact False.elim hq
        | cont => exact False.elim hq⟩
theorem Fun.okR {x qual : Str} {st : Stmt} {f : Addr} {fd : FuncData} {N ps : List Str} {k : Nat} {sp : Sp} (F : Fun K x qual st f fd) (S : FnScope N ps (defScope st)) (len : ∀ vs H Q E, sp vs H Q E → vs.length = ps.length)
    (hbody : ∀ (cdv : Value) (A : Around) (outer : List Env) (s : Shared) (H : Hp) (vs : List V) (Q Q2 : VK) (E : XK), Room k (A.deeper (envOfC qual (defScope st) s.heap.objs.size f cdv)) → sp vs H Q E → (∀ v H', Rst H H' (Q v) → Q2 v H') →
      ∃ t, PSs (cxOf CX0 P w K mg base N qual (defScope st) f cdv A outer s H E).nox (defBody st) t ∧ t { nx := fun _ H' => Q2 .non H', rt := Q2 } (start N vs) H) : FnOk P w K mg base CX0 (k + 1) f fd ps sp :=
  FnOk.rst (F.ok S (fun vs H Q2 E ⟨Q, _, h⟩ => len vs H Q E h) fun cdv A outer s H vs Q2 E hr ⟨Q, hq, h⟩ => hbody cdv A outer s H vs Q Q2 E hr h hq)
end
end L3
set_option Elab.async false
set_option linter.all false
set_option maxRecDepth 100000
set_option maxHeartbeats 4000000
namespace L3
open PySem PySem.Spec PyProof.Rows L2
abbrev NE : Value → Shared → Prop := fun _ _ => False
def PTs (X : Cx) (cs : List Expr) (t : TT) : Prop :=
  ∀ (pins : List (Addr × Obj)) (s : Shared) (σ : L2.St) (H : Hp) (Q : Bool → Hp → Prop), Inv X pins σ H s → t σ H Q →
    wpAny (model X.prog X.w) X.A (forIn cs true fun c r => if r = true then do let ok ← isTrue c X.env (eval c X.env); pure (ForInStep.yield ok) else pure (ForInStep.yield r)) (TP X pins σ Q) X.xe s
def tYes : TT := fun _ H Q => Q true H
theorem pts_nil {X : Cx} : PTs X [] tYes := fun _ _ _ H _ I h => wpAny_tests_nil ⟨H, I, h⟩
section
variable {prog : Program} {w : World} {A : Around} {R : Result → Shared → Prop} {s : Shared}
theorem compLoop_any {elt target iter : Expr} {ifs : List Expr} {scope : Scope} {pos : Pos} {it acc : Value} {env : Env} (I : Nat → Shared → Prop)
    (turn : ∀ n s, I n s → wpAny (model prog w) A (pyNext it) (fun r s₁ => match r with
      | none => R (.ok .next) s₁
      | some v => wpAny (model prog w) A (letOwnedTupleGo target it v) (fun _ s₀ => wpAny (model prog w) A (assign target env v) (fun _ s₂ =>
          wpAny (model prog w) A (forIn ifs true fun c r => if r = true then do let ok ← isTrue c env (eval c env); pure (ForInStep.yield ok) else pure (ForInStep.yield r)) (fun ok s₃ =>
            if ok = true then wpAny (model prog w) A (eval elt env) (fun x s₄ =>
              wpAny (model prog w) A (call (.builtin "list.append") [acc, x]) (fun _ s₅ => ∃ m, m < n ∧ I m s₅) NE s₄) NE s₃
            else ∃ m, m < n ∧ I m s₃) NE s₂) NE s₀) NE s₁) NE s)
    (n : Nat) (h : I n s) :
    codeAny (model prog w) A (.compLoop (.ListComp elt [⟨target, iter, ifs, 0⟩] scope pos) 0 it acc env) R s := by
  refine codeAny_loop rfl I (fun n s hI => ?_) n h
  show wpAny _ A ((compTurn (.ListComp elt [⟨target, iter, ifs, 0⟩] scope pos) 0 it acc env).onRaise (fun x => do noteFrame x env; theTreesLotGoes x)) _ _ s
  refine wpAny_noted (wpAny_mono (E := NE) ?_ (fun _ _ q => q) fun _ _ f => f.elim)
  rw [compTurn_list]
  refine wpAny_bind (wpAny_standAt (wpAny_bind (wpAny_mono (turn n s hI) (fun r s₁ h₁ => ?_) fun _ _ h' => h')))
  cases r with
  | none => exact wpAny_pure h₁
  | some v =>
    refine wpAny_bind (wpAny_mono h₁ (fun _ s₀ h₀ => ?_) fun _ _ h' => h')
    refine wpAny_bind (wpAny_mono h₀ (fun _ s₂ h₂ => wpAny_bind (wpAny_mono h₂ (fun ok s₃ h₃ => ?_) fun _ _ h' => h')) fun _ _ h' => h')
    cases ok with
    | false => exact wpAny_pure ⟨rfl, h₃⟩
    | true =>
      exact wpAny_bind (wpAny_bind (wpAny_mono h₃ (fun x s₄ h₄ => wpAny_bind (wpAny_mono h₄ (fun _ s₅ h₅ => wpAny_pure (wpAny_pure ⟨rfl, h₅⟩)) fun _ _ h' => h')) fun _ _ h' => h'))
end
theorem closure_go {env : Env} : ∀ (names : List (Str × NameKind)) (cs : List (Str × Addr)), (∀ y ∈ names, y.2 = .free → ∃ c, env.cells.lookup y.1 = some c) → (∀ x c, cs.lookup x = some c → env.cells.lookup x = some c) →
    ∃ cl, (forIn names cs (fun (y : Str × NameKind) r => if (y.2 == .free) = true then do let a ← cellOf env y.1; pure (ForInStep.yield ((y.1, a) :: r)) else pure (ForInStep.yield r)) : Sem (List (Str × Addr))) = pure cl ∧
      (∀ x c, cl.lookup x = some c → env.cells.lookup x = some c) ∧ (∀ x, (∃ c, cs.lookup x = some c) → ∃ c, cl.lookup x = some c) ∧ (∀ y ∈ names, y.2 = .free → ∃ c, cl.lookup y.1 = some c)
  | [], cs, _, h => ⟨cs, rfl, h, fun _ z => z, fun _ z => nomatch z⟩
  | y :: r, cs, hn, h => by
    by_cases hy : y.2 = .free
    · obtain ⟨c, hc⟩ := hn y List.mem_cons_self hy
      have hc' : cellOf env y.1 = pure c := by unfold cellOf; rw [hc]
      have h2 : ∀ x d, ((y.1, c) :: cs).lookup x = some d → env.cells.lookup x = some d := fun x d e => by
        rw [List.lookup_cons] at e
        by_cases hx : x = y.1
        · subst hx
          rw [show (y.1 == y.1) = true from beq_self_eq_true _] at e
          cases e
          exact hc
        · rw [show (x == y.1) = false from beq_eq_false_iff_ne.mpr hx] at e
          exact h x d e
      obtain ⟨cl, e1, e2, e3, e4⟩ := closure_go r ((y.1, c) :: cs) (fun z hz => hn z (List.mem_cons_of_mem _ hz)) h2
      refine ⟨cl, ?_, e2, fun x hx => e3 x ?_, fun z hz hf => ?_⟩
      · rw [List.forIn_cons, hy, if_pos (by decide), hc']
        exact e1
      · obtain ⟨d, hd⟩ := hx
        rw [List.lookup_cons]
        by_cases hx : x = y.1
        · exact ⟨c, by rw [show (x == y.1) = true from beq_iff_eq.mpr hx]⟩
        · exact ⟨d, by rw [show (x == y.1) = false from beq_eq_false_iff_ne.mpr hx]; exact hd⟩
      · rcases List.mem_cons.mp hz with rfl | hz
        · exact e3 z.1 ⟨c, by rw [List.lookup_cons, show (z.1 == z.1) = true from beq_self_eq_true _]⟩
        · exact e4 z hz hf
    · obtain ⟨cl, e1, e2, e3, e4⟩ := closure_go r cs (fun z hz => hn z (List.mem_cons_of_mem _ hz)) h
      refine ⟨cl, ?_, e2, e3, fun z hz hf => ?_⟩
      · rw [List.forIn_cons, if_neg (by intro q; exact hy (beq_iff_eq.mp q))]
        exact e1
      · rcases List.mem_cons.mp hz with rfl | hz
        · exact absurd hf hy
        · exact e4 z hz hf
theorem closure_ok {scope : Scope} {env : Env} (hn : ∀ y ∈ scope.names, y.2 = .free → ∃ c, env.cells.lookup y.1 = some c) :
    ∃ cl, closureFor scope env = pure cl ∧ (∀ x c, cl.lookup x = some c → env.cells.lookup x = some c) ∧ (∀ y ∈ scope.names, y.2 = .free → ∃ c, cl.lookup y.1 = some c) := by
  obtain ⟨cl, e1, e2, _, e4⟩ := closure_go (env := env) scope.names [] hn (fun x c e => by rw [List.lookup_nil] at e; cases e)
  refine ⟨cl, ?_, e2, e4⟩
  unfold closureFor
  exact (congrArg (· >>= pure) e1)
theorem relabel_back {env : Env} {x : Str} : ∀ {names : List (Str × NameKind)}, (∀ y ∈ names, y.2 ≠ .cell) →
    ((names.map fun (n, k) => if (k == NameKind.free && env.scope.kind == .function && env.kindOf n == some .cell) then (n, NameKind.cell) else (n, k)).lookup x = some .cell ∨
      (names.map fun (n, k) => if (k == NameKind.free && env.scope.kind == .function && env.kindOf n == some .cell) then (n, NameKind.cell) else (n, k)).lookup x = some .free) → names.lookup x = some .free
  | [], _, h => by rcases h with h | h <;> (rw [List.map_nil, List.lookup_nil] at h; cases h)
  | (n, k) :: r, hc, h => by
    have ih := relabel_back (env := env) (x := x) (names := r) fun y hy => hc y (List.mem_cons_of_mem _ hy)
    have hk : k ≠ .cell := hc (n, k) List.mem_cons_self
    rw [List.map_cons] at h
    rw [List.lookup_cons]
    cases hx : x == n with
    | true =>
      dsimp only
      by_cases hq : (k == NameKind.free && env.scope.kind == .function && env.kindOf n == some .cell) = true
      · rw [Bool.and_eq_true, Bool.and_eq_true] at hq
        rw [beq_iff_eq.mp hq.1.1]
      · dsimp only at h
        rw [if_neg hq] at h
        rw [List.lookup_cons, hx] at h
        dsimp only at h
        rcases h with h | h
        · exact absurd (Option.some.inj h) hk
        · exact h
    | false =>
      dsimp only
      refine ih ?_
      dsimp only at h
      by_cases hq : (k == NameKind.free && env.scope.kind == .function && env.kindOf n == some .cell) = true
      · rw [if_pos hq, List.lookup_cons, hx] at h
        exact h
      · rw [if_neg hq, List.lookup_cons, hx] at h
        exact h
theorem mem_lookup {x : Str} {k : NameKind} {l : List (Str × NameKind)} (h : l.lookup x = some k) : (x, k) ∈ l := PySem.mem_of_lookup h
def comp (X : Cx) (Nc : List Str) (scope : Scope) (cl : List (Str × Addr)) (C : Addr) (s : Shared) (H : Hp) (fp : List Addr) : Cx :=
  { X with N := Nc, s₀ := s, H₀ := H, env := compEnvC scope cl C X.env, outer := X.stack, stack := X.stack, ex := fp, fn := fun _ => false, pn := [], xe := fun _ _ => False }
def MapOk (X : Cx) (scope : Scope) : List Str → List (Option Nat) → Prop
  | [], [] => True
  | _ :: N, none :: m => MapOk X scope N m
  | x :: N, some i :: m => (X.N[i]? = some x ∧ (X.env.scope.names.lookup x = some .cell ∨ X.env.scope.names.lookup x = some .free) ∧ scope.names.lookup x = some .free) ∧ MapOk X scope N m
  | _, _ => False
theorem MapOk.len {X : Cx} {scope : Scope} : ∀ {N : List Str} {m : List (Option Nat)}, MapOk X scope N m → m.length = N.length
  | [], [], _ => rfl
  | _ :: N, none :: m, h => congrArg (· + 1) (MapOk.len (N := N) (m := m) h)
  | _ :: N, some _ :: m, h => congrArg (· + 1) (MapOk.len (N := N) (m := m) h.2)
  | [], _ :: _, h => h.elim
  | _ :: _, [], h => h.elim
theorem MapOk.at {X : Cx} {scope : Scope} {x : Str} {i : Nat} : ∀ {N : List Str} {m : List (Option Nat)} {j : Nat}, MapOk X scope N m → m[j]? = some (some i) → N[j]? = some x →
    X.N[i]? = some x ∧ (X.env.scope.names.lookup x = some .cell ∨ X.env.scope.names.lookup x = some .free) ∧ scope.names.lookup x = some .free
  | [], [], j, _, h, _ => by simp at h
  | _ :: N, none :: m, 0, _, h, _ => by simp at h
  | _ :: N, none :: m, j + 1, k, h, e => MapOk.at (N := N) (m := m) (j := j) k (by simpa using h) (by simpa using e)
  | y :: N, some i' :: m, 0, k, h, e => by
    simp at h e
    subst h; subst e
    exact k.1
  | _ :: N, some _ :: m, j + 1, k, h, e => MapOk.at (N := N) (m := m) (j := j) k.2 (by simpa using h) (by simpa using e)
  | [], _ :: _, _, h, _, _ => h.elim
  | _ :: _, [], _, h, _, _ => h.elim
def mapS (m : List (Option Nat)) (σ : L2.St) : L2.St := m.map fun o => o.bind fun i => (σ[i]?).bind id
structure CompOk (X : Cx) (scope : Scope) (Nc : List Str) (mp : List (Option Nat)) : Prop where
  kind : scope.kind = .function
  noc : ∀ y ∈ scope.names, y.2 ≠ .cell
  loc : ∀ y ∈ scope.names, y.2 = .local → scope.names.lookup y.1 = some .local
  fre : ∀ y ∈ scope.names, y.2 = .free → X.env.kindOf y.1 = some .cell ∨ X.env.kindOf y.1 = some .free
  map : MapOk X scope Nc mp
section
variable {X : Cx} {pins : List (Addr × Obj)} {σ : L2.St} {H : Hp} {s : Shared} {scope : Scope} {Nc : List Str} {mp : List (Option Nat)} {cl : List (Str × Addr)} {C : Addr} {fp : List Addr}
theorem comp_ok (I : Inv X pins σ H s) (S : CompOk X scope Nc mp) (h1 : ∀ x c, cl.lookup x = some c → X.env.cells.lookup x = some c) (h2 : ∀ y ∈ scope.names, y.2 = .free → ∃ c, cl.lookup y.1 = some c)
    (hC : s.heap.objs.size ≤ C) (hf : ∀ b ∈ fp, FpOk X pins H b) (ho : ∀ b ∈ fp, b < s.heap.objs.size) : (comp X Nc scope cl C s H fp).Ok where
  mod := I.ok.mod
  kind := S.kind
  glob := I.ok.glob
  blt := I.ok.blt
  above := hC
  inj := fun x y c e e' => I.ok.inj x y c (h1 x c e) (h1 y c e')
  has := fun x hx => by
    have q : scope.names.lookup x = some .free := relabel_back (env := X.env) S.noc hx
    exact h2 (x, .free) (mem_lookup q) rfl
  cab := fun x c hx => absurd (show false = true from hx) Bool.false_ne_true
  hd := I.ok.hd
  frames := I.ok.frames
  stk := .inl rfl
  exf := fun b hb => ⟨fun z => absurd (Nat.lt_of_lt_of_le (ho b hb) hC) (by rw [z]; exact Nat.lt_irrefl _), fun x c e => (hf b hb).2.2.2.2.1 x c (h1 x c e)⟩
  bs := I.bs
  bsz := Nat.le_trans I.ok.bsz I.sz
  noex := fun b o e hb => by
    rcases (hf b hb).2.2.2.1 with z | z
    · exact I.ok.noex b o e z
    · exact absurd (Nat.lt_of_lt_of_le (Heap.lt_size e) (Nat.le_trans I.ok.bsz z)) (Nat.lt_irrefl _)
  exfs := fun b hb z => by
    rcases List.mem_cons.mp (I.stkSub b z) with e | e
    · exact (hf b hb).2.1 e
    · exact (hf b hb).2.2.1 e
  funs := I.stack
  frf := I.stkFree
theorem comp_inv {h' : Heap} {tk : Nat} {D : Addr} {oD : Obj} (I : Inv X pins σ H s) (S : CompOk X scope Nc mp) (h1 : ∀ x c, cl.lookup x = some c → X.env.cells.lookup x = some c) (h2 : ∀ y ∈ scope.names, y.2 = .free → ∃ c, cl.lookup y.1 = some c)
    (hC : s.heap.objs.size ≤ C) (hf : ∀ b ∈ fp, FpOk X pins H b) (ho : ∀ b ∈ fp, b < s.heap.objs.size) (kp : ∀ b o, s.heap.get? b = some o → h'.get? b = some o) {m : Str → Option Value} (hn : h'.Ns C m)
    (hD : s.heap.objs.size ≤ D) (hDC : D ≠ C) (eD : h'.get? D = some oD) (dD : ∀ v, oD.data ≠ .cell v) : Inv (comp X Nc scope cl C s H fp) [(D, oD)] (mapS mp σ) H { s with heap := h', toks := tk } where
  ok := comp_ok I S h1 h2 hC hf ho
  os := rfl
  bare := I.bare
  base := Un.kept kp
  loc := by
    refine ⟨m, hn, fun j x v e1 e2 _ => ?_⟩
    have hj : (mapS mp σ)[j]? = (mp[j]?).map fun o => o.bind fun i => (σ[i]?).bind id := by unfold mapS; rw [List.getElem?_map]
    rw [hj] at e2
    cases e3 : mp[j]? with
    | none => rw [e3] at e2; cases e2
    | some o =>
      rw [e3] at e2
      cases o with
      | none => cases e2
      | some i =>
        obtain ⟨k1, k2, k3⟩ := S.map.at e3 e1
        have e4 : (σ[i]?).bind id = some v := Option.some.inj e2
        have e5 : σ[i]? = some (some v) := by
          cases q : σ[i]? with
          | none => rw [q] at e4; cases e4
          | some z => rw [q] at e4; exact congrArg some e4
        obtain ⟨m0, _, hl⟩ := I.loc
        obtain ⟨u, r, l⟩ := hl i x v k1 e5 (.inr k2)
        refine ⟨u, r, .inr ⟨?_, ?_⟩⟩
        · show (relabel scope X.env).names.lookup x = some .cell ∨ (relabel scope X.env).names.lookup x = some .free
          have go : ∀ {names : List (Str × NameKind)}, names.lookup x = some .free →
              ((names.map fun (n, k) => if (k == NameKind.free && X.env.scope.kind == .function && X.env.kindOf n == some .cell) then (n, NameKind.cell) else (n, k)).lookup x = some .cell ∨
                (names.map fun (n, k) => if (k == NameKind.free && X.env.scope.kind == .function && X.env.kindOf n == some .cell) then (n, NameKind.cell) else (n, k)).lookup x = some .free) := by
            intro names
            induction names with
            | nil => intro q; rw [List.lookup_nil] at q; cases q
            | cons y r ih =>
              obtain ⟨n, k⟩ := y
              intro q
              rw [List.lookup_cons] at q
              rw [List.map_cons]
              dsimp only
              cases hx : x == n with
              | true =>
                rw [hx] at q
                cases q
                by_cases hq : (NameKind.free == NameKind.free && X.env.scope.kind == .function && X.env.kindOf n == some .cell) = true
                · rw [if_pos hq, List.lookup_cons, hx]; exact .inl rfl
                · rw [if_neg hq, List.lookup_cons, hx]; exact .inr rfl
              | false =>
                rw [hx] at q
                by_cases hq : (k == NameKind.free && X.env.scope.kind == .function && X.env.kindOf n == some .cell) = true
                · rw [if_pos hq, List.lookup_cons, hx]; exact ih q
                · rw [if_neg hq, List.lookup_cons, hx]; exact ih q
          exact go k3
        · obtain ⟨c, hc⟩ := h2 (x, .free) (mem_lookup k3) rfl
          refine ⟨c, hc, ?_⟩
          rcases l with ⟨lk, _⟩ | ⟨_, c', hc', oc, hoc, hd⟩
          · have lk' : X.env.scope.names.lookup x = some .local := lk
            rcases k2 with k2 | k2 <;> (rw [lk'] at k2; cases k2)
          · rw [h1 x c hc] at hc'; cases hc'
            exact ⟨oc, kp _ _ hoc, hd⟩
  cell := fun x c e => by
    obtain ⟨v, o, ho', hd⟩ := I.cell x c (h1 x c e)
    exact ⟨v, o, kp _ _ ho', hd⟩
  free := I.hok.fresh hC
  freeC := fun x c e => I.freeC x c (h1 x c e)
  pin := fun p hp => by
    have e : p = (D, oD) := by
      have hp' : p ∈ ([] : List (Addr × Obj)) ++ [(D, oD)] := hp
      simpa using hp'
    subst e
    refine ⟨eD, I.hok.fresh hD, hDC, fun z => ?_, dD⟩
    rcases List.mem_cons.mp (I.stkSub D z) with e | e
    · exact absurd (Nat.lt_of_lt_of_le I.lt hD) (by rw [e]; exact Nat.lt_irrefl _)
    · exact I.nofs hD e
  hok := I.hok.kept kp
  len := by unfold mapS; rw [List.length_map]; exact S.map.len
theorem comp_out {σ' : L2.St} {H' : Hp} {s' : Shared} {h' : Heap} {D : Addr} {acc : List V} {its : List Value} {n : Nat} (I : Inv X pins σ H s) (hC : s.heap.objs.size ≤ C) (hD : s.heap.objs.size ≤ D) (hDC : D ≠ C) (hf : ∀ b ∈ fp, FpOk X pins H b)
    (J : Inv (comp X Nc scope cl C s H fp) [(D, { cls := .type "list", data := .seq its.toArray n })] σ' H' s') (hs : Heap.SameBut C s'.heap h') (hv : Vals acc its) (hz : acc.length ≤ sizeLine) :
    Inv X pins σ (upd H' D (.lst acc)) { s' with heap := h' } ∧ H' D = none := by
  obtain ⟨eD, nD, _, _, _⟩ := J.pin (D, { cls := .type "list", data := .seq its.toArray n }) (List.mem_append_right _ List.mem_cons_self)
  have nD' : H' D = none := nD
  have u : Un (frs X.stack) fp H H' s.heap s'.heap := J.base
  have neC : ∀ b o, s.heap.get? b = some o → b ≠ C := fun b o e => Nat.ne_of_lt (Nat.lt_of_lt_of_le (Heap.lt_size e) hC)
  have neD : ∀ b o, s.heap.get? b = some o → b ≠ D := fun b o e => Nat.ne_of_lt (Nat.lt_of_lt_of_le (Heap.lt_size e) hD)
  refine ⟨?_, nD'⟩
  refine I.call' (ch := fp) (s' := { s' with heap := h' }) J.os ⟨fun b o e nb hb hx => ?_, fun b o e nb hb hx => ?_, fun b o e nb hx => ?_, fun b o e hx => ?_, fun b xs e => ?_, fun b o xs e => ?_, fun b ps e => ?_⟩ (fun b o e => ?_) J.bare fun b hb => ⟨(hf b hb).2.2.2.1, (hf b hb).2.1, (hf b hb).2.2.2.2.1, (hf b hb).2.2.2.2.2⟩
  · exact (hs.2 b (neC b o e)).trans (u.keep b o e nb hb hx)
  · obtain ⟨sl, q⟩ := u.slot b o e nb hb hx
    exact ⟨sl, (hs.2 b (neC b o e)).trans q⟩
  · rw [upd_ne (neD b o e)]; exact u.free b o e nb hx
  · obtain ⟨o', q⟩ := u.there b o e hx
    exact ⟨o', (hs.2 b (neC b o e)).trans q⟩
  · have q := u.tups b xs e
    rw [upd_ne (ne_of_none q nD')]; exact q
  · have q := u.frzs b o xs e
    rw [upd_ne (ne_of_none q nD')]; exact q
  · obtain ⟨more, q⟩ := u.tbls b ps e
    exact ⟨more, by rw [upd_ne (ne_of_none q nD')]; exact q⟩
  · have freeC' : H' C = none := J.free
    by_cases hb : b = D
    · subst hb
      rw [upd_same] at e; cases e
      exact ⟨hz, its, n, hv, (hs.2 _ hDC).trans eD⟩
    · rw [upd_ne hb] at e
      refine (J.hok b o e).stay (fun c v hc q => (hs.2 c ?_).trans q) (fun c q => by rw [upd_ne (ne_of_none q nD')]; exact q) fun c xs q => by rw [upd_ne (ne_of_none q nD')]; exact q
      rcases hc with z | z
      · rw [z]; exact ne_of_none e freeC'
      · exact ne_of_none z freeC'
end
def wComp (J : It) (g : TG) (tt : TT) (te : TE) (Q : VK) (σ : L2.St) (H : Hp) : Prop :=
  ∃ W : Nat → Nat → L2.St → List V → Hp → Prop, (∃ m, W 0 m σ [] H) ∧ ∀ i m σ acc H, W i m σ acc H →
    (J.stop i H ∧ acc.length ≤ sizeLine ∧ ∀ D, H D = none → Q (.ref D) (upd H D (.lst acc))) ∨
    (J.go i H ∧ ∀ x H', J.yld i H x H' → g x σ H' fun σ2 H2 => tt σ2 H2 fun b H3 => if b = true then te σ2 H3 fun v H4 => acc.length < sizeLine ∧ ∃ m', m' < m ∧ W (i + 1) m' σ2 (acc ++ [v]) H4 else ∃ m', m' < m ∧ W (i + 1) m' σ2 acc H3)
def tComp (mp : List (Option Nat)) (wi : TI) (g : TG) (tt : TT) (te : TE) : TE := fun σ H Q => wi σ H fun J H1 => wComp J g tt te Q (mapS mp σ) H1
section
variable {X : Cx} {scope : Scope} {Nc : List Str} {mp : List (Option Nat)} {tg iter elt : Expr} {ifs : List Expr} {pos : Pos} {wi : TI} {g : TG} {tt : TT} {te : TE}
theorem comp_block {pins : List (Addr × Obj)} {σ : L2.St} {H : Hp} {s2 : Shared} {it : Addr} {fp : List Addr} {tn : Nat → Heap → Prop} {J : It} {cl : List (Str × Addr)} {RR : Value → Addr → Result → Shared → Prop} {Q : VK}
    (hc : X.calm = true) (S : CompOk X scope Nc mp)
    (hb : ∀ cl C s H fp, PG (comp X Nc scope cl C s H fp) tg g ∧ PTs (comp X Nc scope cl C s H fp) ifs tt ∧ PE (comp X Nc scope cl C s H fp) elt te)
    (h1 : ∀ x c, cl.lookup x = some c → X.env.cells.lookup x = some c) (h2 : ∀ y ∈ scope.names, y.2 = .free → ∃ c, cl.lookup y.1 = some c)
    (I : Inv X pins σ H s2) (T : Turn X.prog X.w X.K tg J fp it tn) (st : tn 0 s2.heap) (hf : ∀ b ∈ fp, FpOk X pins H b) (hw : wComp J g tt te Q (mapS mp σ) H)
    (hR : ∀ D C s' H', s2.heap.objs.size ≤ C → s2.heap.objs.size ≤ D → D ≠ C → (∃ m, s'.heap.Ns C m) → (∀ h', Heap.SameBut C s'.heap h' → Inv X pins σ H' { s' with heap := h' }) → H' C = none → Q (.ref D) H' → RR (.ref D) C (.ok .next) s') :
    wpAny (model X.prog X.w) X.A (newList []) (fun acc s₃ => wpAny (model X.prog X.w) X.A (newFunctionEnv scope X.env.globals cl [] X.env.qual none .none (some X.env)) (fun cenv s₄ =>
      codeAny (model X.prog X.w) X.A (.compStart (.ListComp elt [⟨tg, iter, ifs, 0⟩] scope pos) 0 (.ref it) acc { cenv with scope := relabel scope X.env }) (RR acc cenv.locals) s₄) X.xe s₃) X.xe s2 := by
  obtain ⟨W, ⟨m0, w0⟩, turn⟩ := hw
  refine wpAny_newObj_type (wpAny_newFunctionEnv S.noc (by intro y hy; simp at hy) (fun h₁ hns₁ hsb₁ => ?_) S.kind)
  dsimp only at hns₁ hsb₁ ⊢
  generalize hH2 : s2.heap.push { cls := .type "list", dict := none, data := .seq ([] : List Value).toArray } = H2 at hns₁ hsb₁ ⊢
  have hC : H2.objs.size = s2.heap.objs.size + 1 := by rw [← hH2, Heap.size_push]
  have hDC : s2.heap.objs.size ≠ H2.objs.size := by rw [hC]; exact Nat.ne_of_lt (Nat.lt_succ_self _)
  have hCle : s2.heap.objs.size ≤ H2.objs.size := by rw [hC]; exact Nat.le_succ _
  have below : ∀ b, b < s2.heap.objs.size → b ≠ H2.objs.size := fun b hb => by rw [hC]; exact Nat.ne_of_lt (Nat.lt_succ_of_lt hb)
  have old : ∀ b o, s2.heap.get? b = some o → h₁.get? b = some o := fun b o e => hsb₁.extBut b o (below b (Heap.lt_size e)) (Heap.get?_push_of_some _ (hH2 ▸ Heap.get?_push_of_some _ e))
  have eD : h₁.get? s2.heap.objs.size = some { cls := .type "list", data := .seq ([] : List Value).toArray 0 } := hsb₁.extBut _ _ hDC (Heap.get?_push_of_some _ (hH2 ▸ Heap.get?_push_size _ rfl))
  have ho : ∀ b ∈ fp, b < s2.heap.objs.size := fun b hb => by
    obtain ⟨o, e, _⟩ := T.obj 0 _ st b hb
    exact Heap.lt_size e
  generalize hYd : comp X Nc scope cl H2.objs.size s2 H fp = Y
  have bodies := hb cl H2.objs.size s2 H fp
  rw [hYd] at bodies
  obtain ⟨hg, htt, hte⟩ := bodies
  have I0 : ∀ tk, Inv Y [(s2.heap.objs.size, { cls := .type "list", data := .seq ([] : List Value).toArray 0 })] (mapS mp σ) H { s2 with heap := h₁, toks := tk } := fun tk => by
    rw [← hYd]
    exact comp_inv I S h1 h2 hCle hf ho old hns₁ (Nat.le_refl _) hDC eD fun v z => by cases z
  have hYp : Y.prog = X.prog := by rw [← hYd]; rfl
  have hYw : Y.w = X.w := by rw [← hYd]; rfl
  have hYK : Y.K = X.K := by rw [← hYd]; rfl
  have hYA : Y.A = X.A := by rw [← hYd]; rfl
  have hYc : Y.calm = true := by rw [← hYd]; exact hc
  have hYx : Y.xe = fun _ _ => False := by rw [← hYd]; rfl
  have hYe : Y.env = compEnvC scope cl H2.objs.size X.env := by rw [← hYd]; rfl
  have hYs : Y.s₀ = s2 := by rw [← hYd]; rfl
  have hYex : Y.ex = fp := by rw [← hYd]; rfl
  have hYpn : Y.pn = [] := by rw [← hYd]; rfl
  have hYfs : Y.fs = frs X.stack := by rw [← hYd]; rfl
  -- the iterator's objects, in the block
  have fpY : ∀ {o : Obj} {H' : Hp}, (∀ b ∈ fp, H' b = none) → ∀ b ∈ fp, FpOk Y [(s2.heap.objs.size, o)] H' b := fun {o H'} hn b hb => by
    refine ⟨hn b hb, ?_, ?_, .inl (by rw [hYex]; exact hb), fun x c e => ?_, fun p hp => ?_⟩
    · rw [hYe]; exact below b (ho b hb)
    · rw [hYfs]
      intro z
      rcases List.mem_cons.mp (I.stkSub b z) with e | e
      · exact (hf b hb).2.1 e
      · exact (hf b hb).2.2.1 e
    · rw [hYe] at e
      exact (hf b hb).2.2.2.2.1 x c (h1 x c e)
    · rw [hYpn] at hp
      have e : p = (s2.heap.objs.size, o) := by simpa using hp
      subst e
      exact Nat.ne_of_gt (ho b hb)
  have loop : ∀ s₃ : Shared, s₃ = { s2 with heap := h₁, toks := s2.toks + ([] : List (Str × Value)).length } →
      codeAny (model X.prog X.w) X.A (.compLoop (.ListComp elt [⟨tg, iter, ifs, 0⟩] scope pos) 0 (.ref it) (.ref s2.heap.objs.size) (compEnvC scope cl H2.objs.size X.env))
        (RR (.ref s2.heap.objs.size) H2.objs.size) s₃ := by
    rintro s₃ rfl
    refine compLoop_any (fun n s' => ∃ i σ' H' acc its k, Inv Y [(s2.heap.objs.size, { cls := .type "list", data := .seq its.toArray k })] σ' H' s' ∧ tn i s'.heap ∧ (∀ b ∈ fp, H' b = none) ∧ Vals acc its ∧ acc.length ≤ sizeLine ∧ W i n σ' acc H') ?_ m0
      ⟨0, mapS mp σ, H, [], [], 0, I0 _, T.keep 0 _ _ st fun b _ o e => old b o e, fun b hb => (hf b hb).1, .nil, Nat.zero_le _, w0⟩
    rintro n s3 ⟨i, σ3, H3, acc, its, k, I3, st3, fr3, hv, hz, w3⟩
    rcases turn i n σ3 acc H3 w3 with ⟨stop, hzz, qn⟩ | ⟨go, step⟩
    · have hd := T.done Y hYp hYw hYK hYc i _ s3 σ3 H3 NE I3 (fpY fr3) st3 stop
      rw [hYA] at hd
      refine thn hd fun r s4 ⟨hr, I4⟩ => ?_
      subst hr
      have I4' := I4
      rw [← hYd] at I4'
      have nC : H3 H2.objs.size = none := by
        have z := I4.free
        rw [hYe] at z
        exact z
      obtain ⟨_, nD⟩ := comp_out I hCle (Nat.le_refl _) hDC hf I4' (Heap.SameBut.refl _ s4.heap) hv hzz
      refine hR _ _ s4 _ hCle (Nat.le_refl _) hDC ?_ (fun h' hs' => (comp_out I hCle (Nat.le_refl _) hDC hf I4' hs' hv hzz).1) ?_ (qn _ nD)
      · obtain ⟨m', hn', _⟩ := I4.loc
        rw [hYe] at hn'
        exact ⟨m', hn'⟩
      · rw [upd_ne (Ne.symm hDC)]; exact nC
    · have hi := T.item Y hYp hYw hYK hYc i _ s3 σ3 H3 NE I3 (fpY fr3) st3 go
      rw [hYA] at hi
      refine thn hi fun r s4 ⟨u, hr, h4⟩ => ?_
      subst hr
      refine thn h4 fun _ s5 ⟨x, H5, I5, r5, y5, st5, fr5⟩ => ?_
      have I5' := I5.pinned (fpY fr5) (T.obj _ _ st5)
      have ha := hg _ s5 σ3 H5 x u _ I5' r5 (step x H5 y5)
      rw [hYp, hYw, hYA, hYe, hYx] at ha
      refine thn ha fun _ s6 ⟨σ6, H6, I6, q6⟩ => ?_
      have ht := htt _ s6 σ6 H6 _ I6 q6
      rw [hYp, hYw, hYA, hYe, hYx] at ht
      refine thn ht fun ok s7 ⟨H7, I7, q7⟩ => ?_
      cases ok with
      | false =>
        have q7' : ∃ m', m' < n ∧ W (i + 1) m' σ6 acc H7 := q7
        obtain ⟨m', hm, w7⟩ := q7'
        rw [if_neg Bool.false_ne_true]
        refine ⟨m', hm, i + 1, σ6, H7, acc, its, k, I7.unpinned, T.keep _ _ _ st5 fun b hb o e => (I7.pin (b, o) (List.mem_append_right _ (List.mem_append_right _ (mem_pinsAt hb e)))).1, fun b hb => ?_, hv, hz, w7⟩
        obtain ⟨o, e, d⟩ := T.obj _ _ st5 b hb
        exact (I7.pin (b, o) (List.mem_append_right _ (List.mem_append_right _ (mem_pinsAt hb e)))).2.1
      | true =>
        rw [if_pos rfl]
        have he := hte _ s7 σ6 H7 _ I7 q7
        rw [hYp, hYw, hYA, hYe, hYx] at he
        refine thn he fun x4 s8 ⟨v, H8, I8, r8, hlt, m', hm, w8⟩ => ?_
        have st8 : tn (i + 1) s8.heap := T.keep _ _ _ st5 fun b hb o e => (I8.pin (b, o) (List.mem_append_right _ (List.mem_append_right _ (mem_pinsAt hb e)))).1
        have fr8 : ∀ b ∈ fp, H8 b = none := fun b hb => by
          obtain ⟨o, e, d⟩ := T.obj _ _ st5 b hb
          exact (I8.pin (b, o) (List.mem_append_right _ (List.mem_append_right _ (mem_pinsAt hb e)))).2.1
        have I8' := I8.unpinned
        obtain ⟨e8, n8, ne8, nf8, _⟩ := I8'.pin (s2.heap.objs.size, { cls := .type "list", data := .seq its.toArray k }) (List.mem_append_right _ List.mem_cons_self)
        refine wpAny_list_append_plain (items := its.toArray) ⟨k, e8⟩ (fun h9 hl9 hs9 => ?_) (by rw [List.size_toArray, ← hv.length]; exact hz)
        obtain ⟨k9, e9⟩ := hl9
        have ep : its.toArray.push x4 = (its ++ [x4]).toArray := by simp
        rw [ep] at e9
        -- the list has turned
        have I9 : Inv Y [] σ6 H8 { s8 with heap := h9 } := by
          refine (I8'.pins_of (pins' := []) fun p hp => nomatch hp).turned (t' := s8.toks) (it := s2.heap.objs.size) (fun b o hb e => (hs9.2 b hb).trans e) n8 ne8 (.inr (by rw [hYs]; exact Nat.le_refl _)) (fun x c e z => ?_) fun p hp => ?_
          · rw [hYe] at e
            obtain ⟨v', o', ho', _⟩ := I.cell x c (h1 x c e)
            exact absurd (Heap.lt_size ho') (by rw [z]; exact Nat.lt_irrefl _)
          · rw [hYpn] at hp
            exact absurd hp (by simp)
        refine ⟨m', hm, i + 1, σ6, H8, acc ++ [v], its ++ [x4], k9, I9.pins_of fun p hp => ?_, ?_, fr8, hv.append (.cons r8 .nil), ?_, w8⟩
        · have e : p = (s2.heap.objs.size, { cls := .type "list", data := .seq (its ++ [x4]).toArray k9 }) := by simpa using hp
          subst e
          exact ⟨e9, n8, ne8, nf8, fun v z => by cases z⟩
        · exact T.keep _ _ _ st8 fun b hb o e => (hs9.2 b (Nat.ne_of_lt (ho b hb))).trans e
        · rw [List.length_append, List.length_singleton]; omega
  have hself := T.self X.A 0 { s2 with heap := h₁, toks := s2.toks + ([] : List (Str × Value)).length } (fun it' s' => codeAny (model X.prog X.w) X.A (.compLoop (.ListComp elt [⟨tg, iter, ifs, 0⟩] scope pos) 0 it' (.ref s2.heap.objs.size) (compEnvC scope cl H2.objs.size X.env))
        (RR (.ref s2.heap.objs.size) H2.objs.size) s') (notedBy (model X.prog X.w) X.A (compEnvC scope cl H2.objs.size X.env) fun x s' => RR (.ref s2.heap.objs.size) H2.objs.size (.error x) s') (T.keep 0 _ _ st fun b _ o e => old b o e) (loop _ rfl)
  exact codeAny_compStart_list (loop _ rfl) hself
theorem clos_of (S : CompOk X scope Nc mp) {pins : List (Addr × Obj)} {σ : L2.St} {H : Hp} {s : Shared} (I : Inv X pins σ H s) : ∃ cl, closureFor scope X.env = pure cl ∧ (∀ x c, cl.lookup x = some c → X.env.cells.lookup x = some c) ∧ (∀ y ∈ scope.names, y.2 = .free → ∃ c, cl.lookup y.1 = some c) :=
  closure_ok fun y hy hf => I.ok.has y.1 (S.fre y hy hf)
theorem pe_comp (hc : X.calm = true) (S : CompOk X scope Nc mp) (hi : PI X tg iter wi)
    (hb : ∀ cl C s H fp, PG (comp X Nc scope cl C s H fp) tg g ∧ PTs (comp X Nc scope cl C s H fp) ifs tt ∧ PE (comp X Nc scope cl C s H fp) elt te)
    (hs : ∀ x, foldedSetIterable iter X.env x = pure x := by intro _; rfl) : PE X (.ListComp elt [⟨tg, iter, ifs, 0⟩] scope pos) (tComp mp wi g tt te) := by
  intro pins s σ H Q I h
  obtain ⟨cl, hcl, h1, h2⟩ := clos_of S I
  rw [eval_ListComp]
  refine wpAny_comprehension_free (use := none) rfl hs hcl S.kind S.loc (thn (hi pins s σ H _ I h) fun v s1 hv => thn hv fun itv s2 hq => ?_)
  obtain ⟨it, fp, tn, J, H2, e, I2, T, st2, f2, hw⟩ := hq
  subst e
  refine comp_block (RR := fun acc C => compPost (model X.prog X.w) X.A X.xe none (EP X pins σ Q) acc C) (Q := Q) hc S hb h1 h2 I2 T st2 f2 hw fun D C s' H' hC hD hDC hm hI hn hq => ?_
  obtain ⟨m, hm⟩ := hm
  exact ⟨m, hm, fun h' hs' => ⟨.ref D, H', hI h' hs', rfl, hq⟩⟩
theorem ps_setC {i : Nat} {x : Str} {pos' spos : Pos} (hc : X.calm = true) (hN : X.N.Nodup) (hiN : X.N[i]? = some x) (hx : X.env.scope.names.lookup x = some .local) (S : CompOk X scope Nc mp) (hi : PI X tg iter wi)
    (hb : ∀ cl C s H fp, PG (comp X Nc scope cl C s H fp) tg g ∧ PTs (comp X Nc scope cl C s H fp) ifs tt ∧ PE (comp X Nc scope cl C s H fp) elt te)
    (hsw : swapsWith (.ListComp elt [⟨tg, iter, ifs, 0⟩] scope pos) (some (.Name x pos')) spos.line X.env = pure true := by rfl)
    (hs : ∀ x, foldedSetIterable iter X.env x = pure x := by intro _; rfl) : PS X (.Assign [.Name x pos'] (.ListComp elt [⟨tg, iter, ifs, 0⟩] scope pos) spos) (tAsg (tComp mp wi g tt te) (gName i)) := by
  intro pins s σ H D I h
  obtain ⟨cl, hcl, h1, h2⟩ := clos_of S I
  rw [exec_Assign_Name_used _ _ _ _ hsw]
  refine wpAny_bind (wpAny_standAt (wpAny_bind ?_))
  show wpAny _ X.A (do let _ ← comprehension (.ListComp elt [⟨tg, iter, ifs, 0⟩] scope pos) scope X.env _ (newList []) false (eval iter X.env) (some (assign (.Name x pos') X.env))) _ _ s
  refine wpAny_bind (wpAny_mono (wpAny_comprehension_free (use := some (assign (.Name x pos') X.env)) (Q := fun _ s' => SP X pins D .next s') rfl hs hcl S.kind S.loc (thn (hi pins s σ H _ I h) fun v s1 hv => thn hv fun itv s2 hq => ?_)) (fun _ s' hq => wpAny_pure (wpAny_pure hq)) fun _ _ e => e)
  obtain ⟨it, fp, tn, J, H2, e, I2, T, st2, f2, hw⟩ := hq
  subst e
  refine comp_block (RR := fun acc C => compPost (model X.prog X.w) X.A X.xe (some (assign (.Name x pos') X.env)) (fun _ s' => SP X pins D .next s') acc C) (Q := fun v H1 => D.nx (σ.set i (some v)) H1) hc S hb h1 h2 I2 T st2 f2 hw fun A C s' H' hC hD hDC hm hI hn hq => ?_
  obtain ⟨m, hm⟩ := hm
  show wpAny _ X.A (assign (.Name x pos') X.env (.ref A)) _ _ s'
  have I0 : Inv X pins σ H' s' := hI s'.heap (Heap.SameBut.refl ..)
  have hLC : X.env.locals ≠ C := Nat.ne_of_lt (Nat.lt_of_lt_of_le I2.lt hC)
  have hcC : ∀ y c, X.env.cells.lookup y = some c → c ≠ C := fun y c e z => by
    obtain ⟨v, o, ho, _⟩ := I2.cell y c e
    exact absurd (Nat.lt_of_lt_of_le (Heap.lt_size ho) hC) (by rw [z]; exact Nat.lt_irrefl _)
  refine wpAny_assign_Name (store_ok2 I0 hN hiN (.inl hx) (show RelV (.ref A) (.ref A) from rfl) (fun s6 I6 hch => ?_) (.inr hx))
  obtain ⟨a, hs6, ha⟩ := hch
  have hCa : C ≠ a := by
    rcases ha with z | z
    · rw [z]; exact Ne.symm hLC
    · exact Ne.symm (hcC x a z)
  refine ⟨m, hm.sameBut hs6 hCa, fun h' hs' => ?_⟩
  have I7 : Inv X pins (σ.set i (some (.ref A))) H' { s6 with heap := h' } := I6.turned (t' := s6.toks) (it := C) (fun b o hb e => (hs'.2 b hb).trans e) hn (Ne.symm hLC) (.inr (Nat.le_trans I2.sz hC)) hcC fun p hp z => by
    exact absurd (Nat.lt_of_lt_of_le (Heap.lt_size (I2.pin p hp).1) hC) (by rw [z]; exact Nat.lt_irrefl _)
  exact ⟨_, H', I7, hq⟩
end
end L3
set_option Elab.async false
set_option linter.all false
set_option maxRecDepth 100000
set_option maxHeartbeats 4000000
namespace L3
open PySem PySem.Spec PyProof.Rows L2
theorem bounds_gen (lo hi : Option Int) (n : Nat) : sliceBounds lo hi none n = (((HT.sIx n 0 lo : Nat) : Int), ((HT.sIx n n hi : Nat) : Int), 1) := by
  have clip : ∀ (v : Int), max 0 (min (if v < 0 then v + (n : Int) else v) (n : Int)) = (((if v < 0 then (v + (n : Int)).toNat else min v.toNat n) : Nat) : Int) := fun v => by
    by_cases hv : v < 0
    · rw [if_pos hv, if_pos hv]; omega
    · rw [if_neg hv, if_neg hv]; omega
  unfold sliceBounds
  refine Prod.ext ?_ (Prod.ext ?_ rfl)
  · cases lo with
    | none => rfl
    | some v => exact clip v
  · cases hi with
    | none => rfl
    | some v => exact clip v
theorem slicePick_cut (its : List Value) (lo hi : Option Int) : slicePick its.toArray lo hi none = ((its.drop (HT.sIx its.length 0 lo)).take (HT.sIx its.length its.length hi - HT.sIx its.length 0 lo)).toArray := by
  unfold slicePick
  rw [bounds_gen, List.size_toArray]
  dsimp only
  rw [sliceRange_one, pick_run]
theorem str_mk (z : Str) : (⟨z.cps.toList.toArray⟩ : Str) = z := by cases z; simp
section
variable {X : Cx}
def rSlLs (K : PySem.W.Frag) : V → Option Int → Option Int → Hp → VK → Prop := fun x lo hi H Q => ∃ a xs, x = .ref a ∧ SqL K H a xs ∧ ∀ p, H p = none → Q (.ref p) (upd H p (.lst (cutV xs lo hi)))
theorem sl_lst : SlR X (rSlLs X.K) := by
  intro pins s σ H x v vl vu lo hi sl Q I rx hs pl pu h
  obtain ⟨a, xs, rfl, hx, q⟩ := h
  cases rx
  obtain ⟨its, r, hp, hz⟩ := I.list hx
  refine ⟨"list", _, list_getitem_lookup, hp.isList.typeIs, ?_⟩
  refine wpAny_getItem_list_slice hp.isList hs pl pu .none (by simp) ?_ (by rw [List.size_toArray, ← r.length]; exact hz)
  rw [slicePick_cut, ← r.length]
  exact ⟨.ref _, _, I.lnew (t' := s.toks) ((r.drop _).take _) (Nat.le_trans (cutV_length xs lo hi) hz), rfl, q _ I.fresh⟩
theorem strsAre_of {ws : List Str} : ∀ {us : List Value}, Vals (ws.map V.str) us → StrsAre us ws := by
  induction ws with
  | nil => intro us r; rw [List.map_nil] at r; cases r; exact .nil
  | cons z ws ih =>
    intro us r
    rw [List.map_cons] at r
    cases r with
    | cons r1 r2 =>
      obtain ⟨t, e⟩ := r1
      subst e
      exact .cons z t (ih r2)
def rJoin (K : PySem.W.Frag) : V → List V → Hp → VK → Prop := fun x vs H Q => ∃ sep p ws, x = .str sep ∧ vs = [.ref p] ∧ (SqL K H p (ws.map V.str) ∨ SqT K H p (ws.map V.str)) ∧ (ws.map (·.length)).sum + ws.length * sep.length ≤ 16777216 ∧ Q (.str (Txt.join sep ws)) H
theorem mt_join : MtR X "str.join" (rJoin X.K) := by
  intro pins s σ H x xs v us Q I rx rv h
  obtain ⟨sep, p, ws, rfl, rfl, hq, hz, q⟩ := h
  obtain ⟨t, rfl⟩ := rx
  obtain ⟨u, rfl, ru⟩ := rv.one
  cases ru
  rcases hq with hq | hq
  · obtain ⟨its, r, hp, _⟩ := I.list hq
    exact join_list hp.isList (by simpa using strsAre_of r) hz fun t' k => ⟨.str _, H, I.tok _, ⟨_, rfl⟩, q⟩
  · obtain ⟨its, r, hp, _⟩ := I.tuple hq
    exact join_tuple hp (by simpa using strsAre_of r) hz fun t' k => ⟨.str _, H, I.tok _, ⟨_, rfl⟩, q⟩
theorem all_range (bs : List Bool) : (List.range bs.length).all (fun i => bs.getD i false) = bs.all id := by
  rw [Bool.eq_iff_iff, List.all_eq_true, List.all_eq_true]
  constructor
  · intro h b hb
    obtain ⟨i, hi, e⟩ := List.mem_iff_getElem.mp hb
    have := h i (List.mem_range.mpr hi)
    rw [List.getD_eq_getElem?_getD, List.getElem?_eq_getElem hi] at this
    rw [← e]; exact this
  · intro h i hi
    have hi' := List.mem_range.mp hi
    rw [List.getD_eq_getElem?_getD, List.getElem?_eq_getElem hi']
    exact h _ (List.getElem_mem hi')
theorem call_all (hc : X.calm = true) : CallR X (.builtin "all") (fun xs H Q => ∃ (p : Addr) (bs : List Bool), xs = [.ref p] ∧ SqL X.K H p (bs.map V.bl) ∧ Q (.bl (bs.all id)) H) := by
  intro pins s σ H xs us Q I r h
  obtain ⟨p, bs, rfl, hq, q⟩ := h
  obtain ⟨u, rfl, ru⟩ := r.one
  cases ru
  obtain ⟨its, rv, hp, hz⟩ := I.list hq
  have hlt : p < s.heap.objs.size := by obtain ⟨_, e, _⟩ := hp.isList; exact Heap.lt_size e
  refine call_all_walk (wpAny_pyIter_list hp.isList ?_)
  refine ⟨s.heap.objs.size, [s.heap.objs.size, p], [s.heap.objs.size], its.toArray.size, _, _, fun i => bs.getD i false, rfl, Walks.list (A := X.A.in1) (I.ok.hd hc) _ _ (Nat.ne_of_lt hlt) its.toArray, ⟨⟨_, Heap.get?_push_size _ rfl, rfl, rfl⟩, hp.isList.push _⟩, ?_, ?_⟩
  · intro i v s' Q' E' hv hQ'
    have hv' : its[i]? = some v := by simpa using hv
    have hi : i < (bs.map V.bl).length := by
      rw [rv.length]; exact (List.getElem?_eq_some_iff.mp hv').1
    have hib : i < bs.length := by simpa using hi
    obtain ⟨u, hu, ru⟩ := rv.get (i := i) (x := V.bl bs[i]) (by rw [List.getElem?_map, List.getElem?_eq_getElem hib]; rfl)
    rw [hv'] at hu; cases hu
    cases ru
    have e : bs.getD i false = bs[i] := by rw [List.getD_eq_getElem?_getD, List.getElem?_eq_getElem hib]; rfl
    dsimp only at hQ'
    rw [e] at hQ'
    exact wpAny_truthy_bool hQ'
  · intro h' tk hk
    have el : its.toArray.size = bs.length := by rw [List.size_toArray, ← rv.length, List.length_map]
    rw [el, all_range]
    exact ⟨.bl _, H, I.kept fun b o e => hk b o (fun z => absurd (Heap.lt_size e) (by rw [List.mem_singleton.mp z]; exact Nat.lt_irrefl _)) (Heap.get?_push_of_some _ e), rfl, q⟩
theorem call_isi : CallR X (.builtin "isinstance") (fun xs H Q => ∃ x n t b, xs = [x, .ty n] ∧ TyOf X.K H x t ∧ PySem.W.kitOne X.K t (.type n) = some b ∧ Q (.bl b) H) := by
  intro pins s σ H xs us Q I r h
  obtain ⟨x, n, t, b, rfl, ty, e, q⟩ := h
  obtain ⟨u, u2, rfl, r1, r2⟩ := r.two
  cases r2
  exact isinst_ok I r1 ty e fun tk => ⟨.bl b, H, I.tok _, rfl, q⟩
def Its (z : Str) : It := ⟨fun i _ => i < z.length, fun i H x H' => H' = H ∧ ∃ c, z.cps[i]? = some c ∧ x = .str ⟨#[c]⟩, fun i _ => z.length ≤ i⟩
theorem turn_str {P : Program} {w : World} {K : PySem.W.Frag} {tg : Expr} (z : Str) (t : Tok) (it : Addr) : Turn P w K tg (Its z) [it] it (fun i h => h.IsStrIter it (strIterType z) z t i) where
  mem := by simp
  obj := fun i h st b hb => by
    have e : b = it := by simpa using hb
    subst e
    obtain ⟨o, e, c, d⟩ := st
    exact ⟨o, e, fun v z => by rw [d] at z; cases z⟩
  keep := fun i h h' st k => by
    obtain ⟨o, e, r⟩ := st
    exact ⟨o, k it (by simp) o e, r⟩
  item := by
    intro X hP hw hK hc i pins s σ H E I hf st hg
    subst hP hw hK
    have hg' : i < z.cps.size := hg
    obtain ⟨f0, f1, f2, f3, f4, f5⟩ := hf it (by simp)
    have fin : ∀ h' tk, h'.IsStrIter it (strIterType z) z t (i + 1) → Heap.SameBut it s.heap h' → ∃ u, some (Value.str ⟨#[z.cps[i]]⟩ s.toks) = some u ∧
        wpAny (model X.prog X.w) X.A (letOwnedTupleGo tg (.ref it) u) (fun _ s2 => ∃ x H', Inv X pins σ H' s2 ∧ RelV x u ∧ (Its z).yld i H x H' ∧ s2.heap.IsStrIter it (strIterType z) z t (i + 1) ∧ ∀ b ∈ [it], H' b = none) E { s with heap := h', toks := tk } := fun h' tk st' sb => by
      have I1 : Inv X pins σ H { s with heap := h', toks := tk } := I.turned (fun b o hb e => (sb.2 b hb).trans e) f0 f1 f3 f4 f5
      obtain ⟨o, e, c, d⟩ := id st'
      refine ⟨_, rfl, go_of (s := { s with heap := h', toks := tk }) e c d ?_ ⟨.str ⟨#[z.cps[i]]⟩, H, I1, ⟨_, rfl⟩, ⟨rfl, _, by simp [hg'], rfl⟩, st', fun b hb => (hf b hb).1⟩⟩
      unfold strIterType
      split <;> decide
    cases ha : z.cps.all (· < 128) with
    | true =>
      have e : strIterType z = "str_ascii_iterator" := by simp [strIterType, ha]
      rw [e] at st fin ⊢
      exact wpAny_pyNext_ascii_item st (c := z.cps[i]) (by simp [hg']) fun h' st' sb => fin h' _ st' sb
    | false =>
      have e : strIterType z = "str_iterator" := by simp [strIterType, ha]
      rw [e] at st fin ⊢
      exact wpAny_pyNext_wide_item st (c := z.cps[i]) (by simp [hg']) fun h' st' sb => fin h' _ st' sb
  done := by
    intro X hP hw hK hc i pins s σ H E I hf st hg
    subst hP hw hK
    have hg' : z.cps.size ≤ i := hg
    obtain ⟨f0, f1, f2, f3, f4, f5⟩ := hf it (by simp)
    cases ha : z.cps.all (· < 128) with
    | true =>
      have e : strIterType z = "str_ascii_iterator" := by simp [strIterType, ha]
      rw [e] at st
      exact wpAny_pyNext_ascii_end (I.ok.hd hc) st (by simp [hg']) fun h' eb => ⟨rfl, I.turned (t' := s.toks) (fun b o hb e => eb b o hb e) f0 f1 f3 f4 f5⟩
    | false =>
      have e : strIterType z = "str_iterator" := by simp [strIterType, ha]
      rw [e] at st
      exact wpAny_pyNext_wide_end (I.ok.hd hc) st (by simp [hg']) fun h' eb => ⟨rfl, I.turned (t' := s.toks) (fun b o hb e => eb b o hb e) f0 f1 f3 f4 f5⟩
  self := fun _ _ _ _ _ st h => by
    cases ha : z.cps.all (· < 128) with
    | true =>
      have e : strIterType z = "str_ascii_iterator" := by simp [strIterType, ha]
      rw [e] at st
      exact wpAny_pyIter_striter_ascii st h
    | false =>
      have e : strIterType z = "str_iterator" := by simp [strIterType, ha]
      rw [e] at st
      exact wpAny_pyIter_striter_wide st h
def iStr (tl : TE) : TI := fun σ H R => tl σ H fun x H1 => ∃ z, x = .str z ∧ R (Its z) H1
theorem pi_str {tg l : Expr} {tl : TE} (hl : PE X l tl) : PI X tg l (iStr tl) := by
  intro pins s σ H R I h
  refine thn (hl pins s σ H _ I h) fun v s1 ⟨x, H1, I1, r1, q1⟩ => ?_
  obtain ⟨z, e, q⟩ := q1
  subst e
  obtain ⟨t, rfl⟩ := r1
  refine wpAny_pyIter_strU ?_
  refine ⟨s1.heap.objs.size, [s1.heap.objs.size], _, _, H1, rfl, I1.kept (t' := s1.toks) fun b o e => Heap.get?_push_of_some _ e, turn_str z t _, ⟨_, Heap.get?_push_size _ rfl, rfl, rfl⟩, fun b hb => ?_, q⟩
  have e : b = s1.heap.objs.size := by simpa using hb
  subst e
  exact I1.fpOk (Nat.le_refl _) (I1.hok.fresh (Nat.le_refl _))
end
end L3
set_option Elab.async false
set_option linter.all false
set_option maxRecDepth 100000
set_option maxHeartbeats 4000000
namespace L3
open PySem PySem.Spec PyProof.Rows L2
def mapChk (sc : Scope) (N : List Str) (own : Scope) : List Str → List (Option Nat) → Bool
  | [], [] => true
  | _ :: r, none :: m => mapChk sc N own r m
  | x :: r, some i :: m => (N[i]? == some x && (sc.names.lookup x == some .cell || sc.names.lookup x == some .free) && own.names.lookup x == some .free) && mapChk sc N own r m
  | _, _ => false
def compChk (sc : Scope) (N : List Str) (own : Scope) (Nc : List Str) (mp : List (Option Nat)) : Bool :=
  (own.kind == .function) && (own.names.all fun y => y.2 != .cell) && (own.names.all fun y => y.2 != .local || own.names.lookup y.1 == some .local) &&
  (own.names.all fun y => y.2 != .free || (sc.names.lookup y.1 == some .cell || sc.names.lookup y.1 == some .free)) && mapChk sc N own Nc mp
theorem mapChk_ok {X : Cx} {own : Scope} : ∀ {Nc : List Str} {mp : List (Option Nat)}, mapChk X.env.scope X.N own Nc mp = true → MapOk X own Nc mp
  | [], [], _ => trivial
  | _ :: r, none :: m, h => mapChk_ok (Nc := r) (mp := m) h
  | x :: r, some i :: m, h => by
    unfold mapChk at h
    simp only [Bool.and_eq_true, Bool.or_eq_true, beq_iff_eq] at h
    exact ⟨⟨h.1.1.1, h.1.1.2, h.1.2⟩, mapChk_ok h.2⟩
  | [], _ :: _, h => absurd (show false = true from h) Bool.false_ne_true
  | _ :: _, [], h => absurd (show false = true from h) Bool.false_ne_true
theorem CompOk.of {X : Cx} {own : Scope} {Nc : List Str} {mp : List (Option Nat)} (h : compChk X.env.scope X.N own Nc mp = true) : CompOk X own Nc mp := by
  unfold compChk at h
  simp only [Bool.and_eq_true, List.all_eq_true, Bool.or_eq_true, beq_iff_eq, bne_iff_ne] at h
  obtain ⟨⟨⟨⟨h1, h2⟩, h3⟩, h4⟩, h5⟩ := h
  refine ⟨h1, h2, fun y hy e => ?_, fun y hy e => ?_, mapChk_ok h5⟩
  · rcases h3 y hy with z | z
    · exact absurd e z
    · exact z
  · rcases h4 y hy with z | z
    · exact absurd e z
    · exact z
structure Src (J : It) (H : Hp) (xs : List V) : Prop where
  go : ∀ i, i < xs.length → J.go i H
  yld : ∀ i x H', i < xs.length → J.yld i H x H' → H' = H ∧ xs[i]? = some x
  stop : ∀ i, xs.length ≤ i → J.stop i H
theorem src_str (z : Str) (H : Hp) : Src (Its z) H (z.cps.toList.map fun c => V.str ⟨#[c]⟩) where
  go := fun i h => by
    rw [List.length_map, Array.length_toList] at h
    exact h
  yld := fun i x H' _ h => by
    obtain ⟨e, c, hc, rfl⟩ := h
    exact ⟨e, by rw [List.getElem?_map, Array.getElem?_toList, hc]; rfl⟩
  stop := fun i h => by
    rw [List.length_map, Array.length_toList] at h
    exact h
theorem src_range (lo : Int) (n : Nat) (H : Hp) : Src (Itr lo n) H ((List.range n).map fun i => V.int (lo + (i : Nat))) where
  go := fun i h => by
    rw [List.length_map, List.length_range] at h
    exact h
  yld := fun i x H' hi h => by
    obtain ⟨e, rfl⟩ := h
    rw [List.length_map, List.length_range] at hi
    exact ⟨e, by rw [List.getElem?_map, List.getElem?_range hi]; rfl⟩
  stop := fun i h => by
    rw [List.length_map, List.length_range] at h
    exact h
theorem src_list {K : PySem.W.Frag} {H : Hp} {a : Addr} {xs : List V} (h : SqL K H a xs) : Src (Itl K a) H xs where
  go := fun i hi => ⟨xs, xs[i], h, by simp [hi]⟩
  yld := fun i x H' _ q => ⟨q.1, q.2 xs h⟩
  stop := fun i hi => ⟨xs, h, hi⟩
theorem src_tup {K : PySem.W.Frag} {H : Hp} {a : Addr} {xs : List V} (h : SqT K H a xs) : Src (Itt K a) H xs where
  go := fun i hi => ⟨xs, xs[i], h, by simp [hi]⟩
  yld := fun i x H' _ q => ⟨q.1, q.2 xs h⟩
  stop := fun i hi => ⟨xs, h, hi⟩
theorem comp_pure {α : Type} {J : It} {H : Hp} {as : List α} {v : α → V} (f : α → Bool) (e : α → V) {tt : TT} {te : TE} {Q : VK} {rest : L2.St} (S : Src J H (as.map v)) (hz : as.length ≤ sizeLine)
    (ht : ∀ a ∈ as, ∀ k : Bool → Hp → Prop, k (f a) H → tt (some (v a) :: rest) H k) (he : ∀ a ∈ as, f a = true → ∀ k : VK, k (e a) H → te (some (v a) :: rest) H k)
    (hq : ∀ D, H D = none → Q (.ref D) (upd H D (.lst ((as.filter f).map e)))) : wComp J (gName 0) tt te Q (none :: rest) H := by
  refine ⟨fun i m σ acc H' => H' = H ∧ i ≤ as.length ∧ m = as.length - i ∧ acc = ((as.take i).filter f).map e ∧ ∃ o, σ = o :: rest, ⟨as.length, rfl, Nat.zero_le _, rfl, by simp, none, rfl⟩, ?_⟩
  rintro i m σ acc H' ⟨rfl, hi, rfl, rfl, o, rfl⟩
  have hacc : (((as.take i).filter f).map e).length ≤ i := by
    rw [List.length_map]
    exact Nat.le_trans (List.length_filter_le _ _) (by rw [List.length_take]; exact Nat.min_le_left _ _)
  by_cases hlt : i < as.length
  · refine .inr ⟨S.go i (by rw [List.length_map]; exact hlt), fun x H1 y => ?_⟩
    obtain ⟨rfl, hx⟩ := S.yld i x H1 (by rw [List.length_map]; exact hlt) y
    rw [List.getElem?_map, List.getElem?_eq_getElem hlt] at hx
    have hx' : v as[i] = x := Option.some.inj hx
    subst hx'
    have hm : as[i] ∈ as := List.getElem_mem hlt
    have ts : as.take (i + 1) = as.take i ++ [as[i]] := List.take_succ_eq_append_getElem hlt
    show tt (some (v as[i]) :: rest) H1 _
    refine ht _ hm _ ?_
    cases hf : f as[i] with
    | true =>
      rw [if_pos rfl]
      refine he _ hm hf _ ⟨by omega, as.length - (i + 1), by omega, rfl, hlt, rfl, ?_, _, rfl⟩
      rw [ts, List.filter_append, List.map_append, List.filter_cons_of_pos hf]
      rfl
    | false =>
      rw [if_neg Bool.false_ne_true]
      refine ⟨as.length - (i + 1), by omega, rfl, hlt, rfl, ?_, _, rfl⟩
      rw [ts, List.filter_append, List.filter_cons_of_neg (by rw [hf]; exact Bool.false_ne_true)]
      simp
  · have ei : i = as.length := by omega
    subst ei
    refine .inl ⟨S.stop _ (by rw [List.length_map]; exact Nat.le_refl _), by omega, fun D hD => ?_⟩
    rw [List.take_length]
    exact hq D hD
theorem comp_map {α : Type} {J : It} {H : Hp} {as : List α} {v : α → V} (e : α → V) {te : TE} {Q : VK} {rest : L2.St} (S : Src J H (as.map v)) (hz : as.length ≤ sizeLine)
    (he : ∀ a ∈ as, ∀ k : VK, k (e a) H → te (some (v a) :: rest) H k)
    (hq : ∀ D, H D = none → Q (.ref D) (upd H D (.lst (as.map e)))) : wComp J (gName 0) tYes te Q (none :: rest) H :=
  comp_pure (fun _ => true) e S hz (fun a _ k hk => hk) (fun a ha _ k hk => he a ha k hk) fun D hD => by
    have e1 : as.filter (fun _ => true) = as := by simp
    rw [e1]; exact hq D hD
section
variable {X : Cx} {st : Stmt} {t : TS}
def tMid (t : TS) : TS := fun D σ H => ∃ M : L2.St → Hp → Prop, t { D with nx := M } σ H ∧ ∀ σ' H', M σ' H' → D.nx σ' H'
theorem ps_mid (h : PS X st t) : PS X st (tMid t) := by
  intro pins s σ H D I hw
  obtain ⟨M, h1, h2⟩ := hw
  refine thn (h pins s σ H { D with nx := M } I h1) fun f s' q => ?_
  cases f with
  | next =>
    obtain ⟨σ', H', I', m⟩ := q
    exact ⟨σ', H', I', h2 _ _ m⟩
  | ret v => exact q
  | brk => exact q
  | cont => exact q
end
theorem szl : (sizeLine : Nat) = 16777216 := sizeLine_eq
theorem few {n : Nat} (h : n ≤ 100000) : n ≤ sizeLine := by rw [szl]; omega
theorem fewer {n : Nat} (h : n ≤ 100000) : n < sizeLine := by rw [szl]; omega
end L3
set_option Elab.async false
set_option linter.all false
set_option maxRecDepth 100000
set_option maxHeartbeats 4000000
namespace Vm
open PySem L2 L3
def Al (c : Nat) : Prop := 97 ≤ c ∧ c ≤ 122
structure Good (z : Str) : Prop where
  lo : 1 ≤ z.length
  hi : z.length ≤ 12
  al : ∀ c ∈ z.cps.toList, Al c
def letters : Str := "abcdefghijklmnopqrstuvwxyz"
theorem letters_cps : letters.cps.toList = (List.range 26).map (97 + ·) := by decide +kernel
theorem mem_letters {c : Nat} : c ∈ letters.cps.toList ↔ Al c := by
  rw [letters_cps, List.mem_map]
  unfold Al
  constructor
  · rintro ⟨i, hi, rfl⟩
    have := List.mem_range.mp hi
    omega
  · intro h
    exact ⟨c - 97, List.mem_range.mpr (by omega), by omega⟩
theorem clen (z : Str) : z.cps.toList.length = z.length := by simp [Str.length]
def onlyB (z y : Str) : Bool := z.cps.toList.all fun c => decide (c ∈ y.cps.toList)
def wordB (z : Str) : Bool := decide (1 ≤ z.length ∧ z.length ≤ 12) && onlyB z letters
theorem wordB_iff {z : Str} : wordB z = true ↔ Good z := by
  unfold wordB onlyB
  rw [Bool.and_eq_true, decide_eq_true_eq, List.all_eq_true]
  constructor
  · rintro ⟨⟨h1, h2⟩, h3⟩
    exact ⟨h1, h2, fun c hc => mem_letters.mp (of_decide_eq_true (h3 c hc))⟩
  · rintro ⟨h1, h2, h3⟩
    exact ⟨⟨h1, h2⟩, fun c hc => decide_eq_true (mem_letters.mpr (h3 c hc))⟩
theorem mk_list (l : List Nat) : (⟨l.toArray⟩ : Str).cps.toList = l := by simp
theorem mk_len (l : List Nat) : (⟨l.toArray⟩ : Str).length = l.length := by
  show l.toArray.size = _
  rw [List.size_toArray]
theorem al_mod (n : Nat) (h : n < 26) : Al (97 + n) := by unfold Al; omega
theorem app_list (a b : Str) : (a ++ b).cps.toList = a.cps.toList ++ b.cps.toList := by
  show (a.cps ++ b.cps).toList = _
  simp
theorem app_len (a b : Str) : (a ++ b).length = a.length + b.length := by
  show (a.cps ++ b.cps).size = _
  rw [Array.size_append]; rfl
end Vm
set_option Elab.async false
set_option linter.all false
set_option maxRecDepth 100000
set_option maxHeartbeats 4000000
namespace L3
open PySem PySem.Spec PyProof.Rows L2
open Builtin Builtin.Str
section
variable {X : Cx}
theorem vals_values : ∀ l : List (Str × Tok), Vals ((l.map (·.1)).map V.str) (strValues l)
  | [] => .nil
  | (z, t) :: r => .cons ⟨t, rfl⟩ (vals_values r)
end
end L3
namespace Vm
open PySem L2 L3
def joinL (c : Nat) : List (List Nat) → List Nat
  | [] => []
  | [l] => l
  | l :: m :: r => l ++ c :: joinL c (m :: r)
def splitL (c : Nat) : List Nat → List (List Nat)
  | [] => [[]]
  | x :: r => if x = c then [] :: splitL c r else match splitL c r with | [] => [[x]] | h :: t => (x :: h) :: t
theorem splitL_app {c : Nat} : ∀ {l : List Nat} (r : List Nat), c ∉ l → splitL c (l ++ c :: r) = l :: splitL c r
  | [], r, _ => by
    show splitL c (c :: r) = _
    unfold splitL
    rw [if_pos rfl]
    cases r <;> rfl
  | x :: l, r, h => by
    have hx : x ≠ c := fun e => h (by rw [e]; exact List.mem_cons_self)
    show splitL c (x :: (l ++ c :: r)) = _
    conv => lhs; unfold splitL
    rw [if_neg hx, splitL_app r fun m => h (List.mem_cons_of_mem _ m)]
theorem splitL_free {c : Nat} : ∀ {l : List Nat}, c ∉ l → splitL c l = [l]
  | [], _ => rfl
  | x :: l, h => by
    have hx : x ≠ c := fun e => h (by rw [e]; exact List.mem_cons_self)
    conv => lhs; unfold splitL
    rw [if_neg hx, splitL_free fun m => h (List.mem_cons_of_mem _ m)]
theorem split_join {c : Nat} : ∀ {ls : List (List Nat)}, ls ≠ [] → (∀ l ∈ ls, c ∉ l) → splitL c (joinL c ls) = ls
  | [], h, _ => absurd rfl h
  | [l], _, h => splitL_free (h l List.mem_cons_self)
  | l :: m :: r, _, h => by
    show splitL c (l ++ c :: joinL c (m :: r)) = _
    rw [splitL_app _ (h l List.mem_cons_self), split_join (ls := m :: r) (fun e => nomatch e) fun x hx => h x (List.mem_cons_of_mem _ hx)]
theorem glue_list (c : Nat) : ∀ ws : List Str, (Txt.join ⟨#[c]⟩ ws).cps.toList = joinL c (ws.map fun z => z.cps.toList)
  | [] => rfl
  | [z] => by
    show (Builtin.Str.glued ⟨#[c]⟩ [z]).cps.toList = _
    unfold Builtin.Str.glued
    simp [joinL]
  | z :: y :: r => by
    have go : ∀ (l : List Str) (acc : Array Nat), (l.foldl (fun acc p => acc ++ (⟨#[c]⟩ : Str).cps ++ p.cps) acc).toList = acc.toList ++ (l.map fun z => c :: z.cps.toList).flatten := by
      intro l
      induction l with
      | nil => intro acc; simp
      | cons a b ih => intro acc; rw [List.foldl_cons, ih]; simp
    have go2 : ∀ (l : List Str) (y : Str), y.cps.toList ++ (l.map fun z => c :: z.cps.toList).flatten = joinL c ((y :: l).map fun z => z.cps.toList) := by
      intro l
      induction l with
      | nil => intro y; simp [joinL]
      | cons a b ih =>
        intro y
        rw [List.map_cons, List.flatten_cons, List.map_cons, List.map_cons]
        show _ = y.cps.toList ++ c :: joinL c (a.cps.toList :: b.map fun z => z.cps.toList)
        have e := ih a
        rw [List.map_cons] at e
        rw [← e]
        simp
    show (Builtin.Str.glued ⟨#[c]⟩ (z :: y :: r)).cps.toList = _
    unfold Builtin.Str.glued
    rw [List.drop_one, List.tail_cons]
    rw [go, ← go2 (y :: r) z]
    rfl
theorem sjoin_list (c : Nat) (ws : List Str) : (Str.join ⟨#[c]⟩ ws).cps.toList = joinL c (ws.map fun z => z.cps.toList) := by
  have e := PyProof.Rows.join_plain_closes ⟨#[c]⟩ ws
  rw [← eq_of_beq e]
  exact glue_list c ws
theorem split_eq (z : Str) (c : Nat) : Txt.split z ⟨#[c]⟩ = (splitL c z.cps.toList).map fun l => (⟨l.toArray⟩ : Str) := by
  have h1 := StrLaws.join_split z ⟨#[c]⟩
  have h2 := StrLaws.split_free z c
  have h3 : Txt.split z ⟨#[c]⟩ ≠ [] := fun e => by
    have := PyProof.Rows.split_pos z ⟨#[c]⟩
    rw [e] at this
    exact absurd this (by decide)
  have h4 : z.cps.toList = joinL c ((Txt.split z ⟨#[c]⟩).map fun z => z.cps.toList) := by
    conv => lhs; rw [← h1]
    exact sjoin_list c _
  rw [h4, split_join (fun e => h3 (List.map_eq_nil_iff.mp e)) fun l hl => ?_, List.map_map]
  · have : ((fun l => (⟨List.toArray l⟩ : Str)) ∘ fun z : Str => z.cps.toList) = id := by funext z; exact str_mk z
    rw [this, List.map_id]
  · obtain ⟨p, hp, rfl⟩ := List.mem_map.mp hl
    exact h2 p hp
end Vm
set_option Elab.async false
set_option linter.all false
set_option maxRecDepth 100000
set_option maxHeartbeats 4000000
namespace L3
open PySem PySem.Spec PyProof.Rows L2
abbrev fra (l : List Env) : List Addr := L2.frs l
structure Exc (h : Heap) (e T C : Addr) (fl : Value) : Prop where
  ob : ∃ vs, h.get? e = some { cls := .ref C, data := .fields vs } ∧ vs[1]? = some (.ref T)
  tb : ∃ oT ts, h.get? T = some oT ∧ oT.data = .fields ts ∧ ts[3]? = some fl
  ne : T ≠ e
structure Kpt (S fs : List Addr) (h h' : Heap) : Prop where
  keep : ∀ b o, h.get? b = some o → b ∉ S → b ∉ fs → h'.get? b = some o
  slot : ∀ b o, h.get? b = some o → b ∉ S → b ∈ fs → ∃ sl, h'.get? b = some { o with slots := sl }
theorem Kpt.trans {S fs : List Addr} {h h1 h2 : Heap} (a : Kpt S fs h h1) (b : Kpt S fs h1 h2) : Kpt S fs h h2 :=
  ⟨fun c o e n m => b.keep c o (a.keep c o e n m) n m, fun c o e n m => by
    obtain ⟨sl, e1⟩ := a.slot c o e n m
    obtain ⟨sl2, e2⟩ := b.slot c _ e1 n m
    exact ⟨sl2, e2⟩⟩
theorem Kpt.mono {S S' fs : List Addr} {h h' : Heap} (a : Kpt S fs h h') (k : ∀ b ∈ S, b ∈ S') : Kpt S' fs h h' :=
  ⟨fun c o e n m => a.keep c o e (fun z => n (k c z)) m, fun c o e n m => a.slot c o e (fun z => n (k c z)) m⟩
theorem Kpt.any {S fs : List Addr} {h h' : Heap} (a : Kpt S fs h h') {b : Addr} {o : Obj} (e : h.get? b = some o) (n : b ∉ S) : ∃ sl, h'.get? b = some { o with slots := sl } := by
  by_cases m : b ∈ fs
  · exact a.slot b o e n m
  · exact ⟨o.slots, a.keep b o e n m⟩
theorem Kpt.funs {S fs : List Addr} {h h' base : Heap} {l : List Env} (a : Kpt S fs h h') (hl : h.FunFrames base l) (hn : ∀ b ∈ S, b ∉ fra l) : h'.FunFrames base l := by
  have go : ∀ (l' : List Env), (∀ b ∈ fra l', b ∈ fra l) → h.FunFrames base l' → h'.FunFrames base l' := by
    intro l'
    induction l' with
    | nil => intro _ _; trivial
    | cons env r ih =>
      intro hs hl'
      obtain ⟨hk, ⟨L, o, hf, h0, ho, hd⟩, hr⟩ := hl'
      have hL : L ∈ fra (env :: r) := by unfold fra frs; rw [List.filterMap_cons, hf]; exact List.mem_cons_self
      obtain ⟨sl, e⟩ := a.any ho fun z => hn L z (hs L hL)
      exact ⟨hk, ⟨L, _, hf, h0, e, hd⟩, ih (fun b hb => hs b (by unfold fra frs; rw [List.filterMap_cons, hf]; exact List.mem_cons_of_mem _ hb)) hr⟩
  exact go l (fun _ z => z) hl
section
variable {M : Model} {A : Around} {E : Value → Shared → Prop} {s : Shared}
theorem not_frame {base : Heap} {l : List Env} {b : Addr} {o : Obj} {vs : Array Value} (hl : s.heap.FunFrames base l) (e : s.heap.get? b = some o) (d : o.data = .fields vs) : b ∉ fra l := fun z => by
  obtain ⟨_, o', e', d'⟩ := hl.mem z
  rw [e] at e'
  cases e'
  exact d' vs d
theorem entry_new {base : Heap} {env : Env} {outer : List Env} {L e : Addr} {c head : Value} {vs : Array Value} {hadNext : Bool} {Q : Unit → Shared → Prop} (hfr : A.frames = some (env :: outer)) (hl : s.heap.FunFrames base (env :: outer)) (hf : env.frame = some L)
    (he : s.heap.get? e = some { cls := c, data := .fields vs }) (hz : 1 < vs.size)
    (hQ : ∀ h' T, s.heap.objs.size ≤ T → h'.get? e = some { cls := c, data := .fields (vs.setIfInBounds 1 (.ref T)) } → (∃ oT ts, h'.get? T = some oT ∧ oT.data = .fields ts ∧ ts[3]? = some (rawInt L)) → Kpt [e] (fra (env :: outer)) s.heap h' → Q () { s with heap := h' }) :
    wpAny M A (do let a ← frameOf env; let pl ← entryPlaceOf L hadNext; let b ← EntryCells.newEntry head a .none (rawInt L) .none pl; setField (.ref e) 1 b) Q E s := by
  have nfr : e ∉ fra (env :: outer) := not_frame hl he rfl
  refine wpAny_bind (wpAny_frameOf_fun hfr hl hf fun k1 so => ?_)
  refine wpAny_bind (wpAny_entryPlaceOf fun pl ip => ?_)
  unfold EntryCells.newEntry newFields
  refine wpAny_bind (wpAny_newObj_type ?_ (ip.sizeOk5 _ _ _ _ _))
  generalize hob : ({ cls := .type "traceback", dict := none, data := .fields ([head, .ref L, .none, rawInt L, .none] ++ (if pl.isEmpty then List.replicate 6 Value.none else pl)).toArray } : Obj) = ob
  have e1 : k1.get? e = some { cls := c, data := .fields vs } := (so.2.1 e nfr).trans he
  have e2 := Heap.get?_push_of_some (h := k1) ob e1
  have nT : k1.objs.size ≠ e := Nat.ne_of_gt (Heap.lt_size e1)
  refine wpAny_setField e2 rfl hz (hQ _ k1.objs.size (Nat.le_of_eq so.1.symm) ?_ ?_ ⟨fun b o eb nb mb => ?_, fun b o eb nb mb => ?_⟩)
  · exact Heap.get?_update_self _ e2 rfl
  · refine ⟨ob, ([head, .ref L, .none, rawInt L, .none] ++ (if pl.isEmpty then List.replicate 6 Value.none else pl)).toArray, ?_, by rw [← hob], by simp⟩
    rw [Heap.get?_update_other _ _ (Ne.symm nT)]
    exact Heap.get?_push_size k1 (by rw [← hob]; rfl)
  · have nb' : b ≠ e := fun z => nb (by rw [z]; exact List.mem_cons_self)
    rw [Heap.get?_update_other _ _ (Ne.symm nb')]
    exact Heap.get?_push_of_some _ ((so.2.1 b mb).trans eb)
  · have nb' : b ≠ e := fun z => nb (by rw [z]; exact List.mem_cons_self)
    obtain ⟨sl, q⟩ := so.2.2 b o eb
    exact ⟨sl, by rw [Heap.get?_update_other _ _ (Ne.symm nb')]; exact Heap.get?_push_of_some _ q⟩
theorem set1 {vs : Array Value} {v : Value} (h : 1 < vs.size) : (vs.setIfInBounds 1 v)[1]? = some v := by simp [h]
theorem note_new {base : Heap} {env : Env} {outer : List Env} {L e C : Addr} {vs : Array Value} {Q : Unit → Shared → Prop} (hfr : A.frames = some (env :: outer)) (hl : s.heap.FunFrames base (env :: outer)) (hf : env.frame = some L)
    (he : s.heap.get? e = some { cls := .ref C, data := .fields vs }) (h1 : vs[1]? = some .none)
    (hQ : ∀ h' T, s.heap.objs.size ≤ T → Exc h' e T C (rawInt L) → Kpt [e] (fra (env :: outer)) s.heap h' → Q () { s with heap := h' }) : wpAny M A (noteFrame (.ref e) env) Q E s := by
  have hz : 1 < vs.size := (Array.getElem?_eq_some_iff.mp h1).1
  unfold noteFrame
  simp only [hf]
  refine wpAny_bind (wpAny_field he rfl h1 ?_)
  rw [if_neg (by decide)]
  refine entry_new hfr hl hf he hz fun h' T hT ho ht kp => hQ h' T hT ⟨⟨_, ho, set1 hz⟩, ht, fun z => ?_⟩ kp
  rw [z] at hT
  exact absurd (Heap.lt_size he) (Nat.not_lt.mpr hT)
theorem note_on {base : Heap} {env : Env} {outer : List Env} {L e T0 C : Addr} {Q : Unit → Shared → Prop} (hfr : A.frames = some (env :: outer)) (hl : s.heap.FunFrames base (env :: outer)) (hf : env.frame = some L) (x : Exc s.heap e T0 C .none)
    (hQ : ∀ h' T, s.heap.objs.size ≤ T → Exc h' e T C (rawInt L) → Kpt [e, T0] (fra (env :: outer)) s.heap h' → Q () { s with heap := h' }) : wpAny M A (noteFrame (.ref e) env) Q E s := by
  obtain ⟨⟨vs, he, h1⟩, ⟨oT, ts, hT, dT, h3⟩, ne⟩ := x
  have hz : 1 < vs.size := (Array.getElem?_eq_some_iff.mp h1).1
  unfold noteFrame
  simp only [hf]
  refine wpAny_bind (wpAny_field he rfl h1 ?_)
  rw [if_pos (show (Value.ref T0 != Value.none) = true by simp)]
  refine wpAny_bind (wpAny_field hT dT h3 ?_)
  rw [if_neg (show ¬ ((Value.none == rawInt L) = true) by simp [rawInt])]
  refine wpAny_bind (wpAny_setField hT dT (Array.getElem?_eq_some_iff.mp h3).1 ?_)
  have oth : ∀ b, b ≠ T0 → (s.heap.update T0 (Obj.mapFields (·.setIfInBounds 3 Value.none))).get? b = s.heap.get? b := fun b hb => Heap.get?_update_other _ _ (Ne.symm hb)
  have k0 : Kpt [e, T0] (fra (env :: outer)) s.heap (s.heap.update T0 (Obj.mapFields (·.setIfInBounds 3 Value.none))) := ⟨fun b o eb nb _ => (oth b fun z => nb (by rw [z]; simp)).trans eb, fun b o eb nb _ => ⟨o.slots, (oth b fun z => nb (by rw [z]; simp)).trans eb⟩⟩
  have hl' : (s.heap.update T0 (Obj.mapFields (·.setIfInBounds 3 Value.none))).FunFrames base (env :: outer) := k0.funs hl fun b hb => by
    rcases List.mem_cons.mp hb with z | z
    · rw [z]; exact not_frame hl he rfl
    · rw [List.mem_singleton.mp z]; exact not_frame hl hT dT
  refine entry_new (s := { s with heap := s.heap.update T0 (Obj.mapFields (·.setIfInBounds 3 Value.none)) }) hfr hl' hf ((oth e (Ne.symm ne)).trans he) hz fun h' T hle ho ht kp => ?_
  have hsz : (s.heap.update T0 (Obj.mapFields (·.setIfInBounds 3 Value.none))).objs.size = s.heap.objs.size := Heap.size_after_update ..
  have hle' : s.heap.objs.size ≤ T := by rw [← hsz]; exact hle
  refine hQ h' T hle' ⟨⟨_, ho, set1 hz⟩, ht, fun z => ?_⟩ (k0.trans (kp.mono fun b hb => by rw [List.mem_singleton.mp hb]; simp))
  rw [z] at hle'
  exact absurd (Heap.lt_size he) (Nat.not_lt.mpr hle')
theorem flight_set {e T C : Addr} {fl : Value} {to : Option Addr} {Q : Unit → Shared → Prop} (x : Exc s.heap e T C fl)
    (hQ : ∀ h', Exc h' e T C (to.elim Value.none fun f => rawInt f) → (∀ b, b ≠ T → h'.get? b = s.heap.get? b) → h'.objs.size = s.heap.objs.size → Q () { s with heap := h' }) : wpAny M A (setFlight (.ref e) to) Q E s := by
  obtain ⟨⟨vs, he, h1⟩, ⟨oT, ts, hT, dT, h3⟩, ne⟩ := x
  have hz : 3 < ts.size := (Array.getElem?_eq_some_iff.mp h3).1
  unfold setFlight
  refine wpAny_bind (wpAny_field he rfl h1 ?_)
  rw [if_pos (show (Value.ref T != Value.none) = true by simp)]
  have oth : ∀ b, b ≠ T → (s.heap.update T (Obj.mapFields (·.setIfInBounds 3 (to.elim Value.none fun f => rawInt f)))).get? b = s.heap.get? b := fun b hb => Heap.get?_update_other _ _ (Ne.symm hb)
  refine wpAny_setField hT dT hz (hQ _ ⟨⟨vs, (oth e (Ne.symm ne)).trans he, h1⟩, ⟨_, _, Heap.get?_update_self _ hT (Obj.isFreed_of_fields (Obj.data_mapFields dT _)), Obj.data_mapFields dT _, by simp [hz]⟩, ne⟩ oth (Heap.size_after_update ..))
end
section
variable {M : Model} {A : Around} {E : Value → Shared → Prop}
structure XCls (h : Heap) (C : Addr) (bm : List Value) : Prop where
  ex : ∃ nm q N bs hdct sn sub ab col dd k0 k1 k2 k3 k5 newId, h.get? C = some (excClassObj nm q C N bs bm hdct sn sub ab col dd k0 k1 k2 k3 k5 newId)
  bs : bm.contains (.type "BaseException") = true
theorem exc_hit {s : Shared} {C D e : Addr} {bm bd : List Value} {oe : Obj} {b : Bool} {Q : Bool → Shared → Prop} (xC : XCls s.heap C bm) (xD : XCls s.heap D bd) (he : s.heap.get? e = some oe) (hc : oe.cls = .ref C)
    (hit : (Value.ref C :: bm).contains (.ref D) = b) (hq : Q b s) : wpAny M A (excMatches (.ref e) (.ref D)) Q E s := by
  obtain ⟨hp, g, d, tk, os⟩ := s
  obtain ⟨⟨nm, q, N, bs, hd, sn, sub, ab, col, dd, k0, k1, k2, k3, k5, ni, hC⟩, _⟩ := xC
  obtain ⟨⟨nm', q', N', bs', hd', sn', sub', ab', col', dd', k0', k1', k2', k3', k5', ni', hD⟩, hB⟩ := xD
  have hB' : (Value.ref D :: bd).contains (.type "BaseException") = true := by rw [List.contains_cons, hB, Bool.or_true]
  have nt := tc_notTuple
  unfold excMatches
  repeat (first
    | (with_reducible refine wpAny_loadPart_at hD ?_)
    | (with_reducible refine wpAny_isSubtype_exc hD ?_; rw [hB'])
    | (with_reducible refine wpAny_loadPart_at he ?_; rw [hc])
    | (with_reducible refine wpAny_isSubtype_exc hC ?_; rw [hit])
    | wp_step)
  all_goals (cases b <;> (try wp_walk) <;> exact hq)
end
section
variable {P : Program} {w : World} {H H' : Hp} {h h1 h2 : Heap} {fs fs' S ex : List Addr}
theorem objOk_there {a : Addr} {o : HO} (x : ObjOk P w H h a o) : ∃ ob, h.get? a = some ob := by
  cases o with
  | lst xs => obtain ⟨_, _, _, _, e⟩ := x; exact ⟨_, e⟩
  | tup xs => obtain ⟨_, _, _, ob, e, _⟩ := x; exact ⟨_, e⟩
  | dK kvs => obtain ⟨_, _, _, _, o, _, _, e, _⟩ := x; exact ⟨_, e⟩
  | dT kvs => exact False.elim x
  | set S n => obtain ⟨o, _, _, _, e, _⟩ := x; exact ⟨_, e⟩
  | ins C dx f => obtain ⟨_, _, _, e, _⟩ := x; exact ⟨_, e⟩
  | own y => exact x
  | xd f => obtain ⟨_, ⟨_, _, _, e, _⟩, _⟩ := x; exact ⟨_, e⟩
  | rng lo hi => obtain ⟨_, _, _, e⟩ := x; exact ⟨_, e⟩
  | frz ob u => exact ⟨_, x.1⟩
  | tbl ps => exact ⟨_, show h.get? a = some _ from x⟩
  | met f y => exact ⟨_, show h.get? a = some _ from x⟩
  | ext φ => exact x.2.1
theorem hok_none (k : HOk P w H h) {a : Addr} (e : h.get? a = none) : H a = none := by
  cases q : H a with
  | none => rfl
  | some o =>
    obtain ⟨ob, z⟩ := objOk_there (k a o q)
    rw [e] at z
    cases z
theorem un_kpt (u : Un fs ex H H' h h1) (k : Kpt S fs' h1 h2) (hS : ∀ b ∈ S, h.get? b = none) (hf : ∀ b ∈ fs', b ∈ fs ∨ h.get? b = none) : Un fs ex H H' h h2 where
  keep := fun b o e n hb hx => k.keep b o (u.keep b o e n hb hx) (fun z => by rw [hS b z] at e; cases e) fun z => by
    rcases hf b z with q | q
    · exact hb q
    · rw [q] at e; cases e
  slot := fun b o e n hb hx => by
    obtain ⟨sl, q⟩ := u.slot b o e n hb hx
    obtain ⟨sl', q'⟩ := k.any q fun z => by rw [hS b z] at e; cases e
    exact ⟨sl', q'⟩
  free := u.free
  there := fun b o e hx => by
    obtain ⟨o', q⟩ := u.there b o e hx
    obtain ⟨sl, q'⟩ := k.any q fun z => by rw [hS b z] at e; cases e
    exact ⟨_, q'⟩
  tups := u.tups
  frzs := u.frzs
  tbls := u.tbls
theorem hok_kpt (x : HOk P w H h1) (k : Kpt S fs' h1 h2) (hS : ∀ b ∈ S, H b = none) (hf : ∀ b ∈ fs', H b = none) : HOk P w H h2 := fun b o e =>
  (x b o e).stay (fun c v hc q => by
    have hn : H c ≠ none := by
      rcases hc with z | z
      · rw [z, e]; exact fun z => nomatch z
      · rw [z]; exact fun z => nomatch z
    exact k.keep c v q (fun z => hn (hS c z)) fun z => hn (hf c z)) (fun _ q => q) fun _ _ q => q
end
section
variable {X : Cx} {pins : List (Addr × Obj)} {σ : L2.St} {H : Hp} {s : Shared} {S : List Addr}
theorem inv_kpt {h' : Heap} {t' : Nat} (I : Inv X pins σ H s) (k : Kpt S (frs X.stack) s.heap h') (h0 : ∀ b ∈ S, X.s₀.heap.get? b = none) (hl : ∀ b ∈ S, b ≠ X.env.locals) (hc : ∀ b ∈ S, ∀ x c, X.env.cells.lookup x = some c → c ≠ b)
    (hp : ∀ b ∈ S, ∀ p ∈ X.pn ++ pins, p.1 ≠ b) (hn : ∀ b ∈ S, H b = none) : Inv X pins σ H { s with heap := h', toks := t' } where
  ok := I.ok
  os := I.os
  bare := I.bare
  base := un_kpt I.base k h0 fun b hb => by
    rcases List.mem_cons.mp (I.stkSub b hb) with z | z
    · refine .inr ?_
      rw [z]
      exact Heap.get?_none_of_le I.ok.above
    · exact .inl z
  loc := by
    obtain ⟨m, ⟨o, es, ep, ho, r⟩, hv⟩ := I.loc
    obtain ⟨sl, q⟩ := k.any ho fun z => hl _ z rfl
    refine ⟨m, ⟨_, es, ep, q, r⟩, fun i x v e1 e2 e3 => ?_⟩
    obtain ⟨u, ru, l⟩ := hv i x v e1 e2 e3
    refine ⟨u, ru, ?_⟩
    rcases l with l | ⟨kk, c, e, oc, hoc, hd⟩
    · exact .inl l
    · obtain ⟨sl', q'⟩ := k.any hoc fun z => hc c z x c e rfl
      exact .inr ⟨kk, c, e, _, q', hd⟩
  cell := fun x c e => by
    obtain ⟨v, oc, hoc, hd⟩ := I.cell x c e
    obtain ⟨sl', q'⟩ := k.any hoc fun z => hc c z x c e rfl
    exact ⟨v, _, q', hd⟩
  free := I.free
  freeC := I.freeC
  pin := fun p hp' => by
    obtain ⟨e, n, ne, nf, d⟩ := I.pin p hp'
    refine ⟨k.keep p.1 p.2 e (fun z => hp p.1 z p hp' rfl) (fun z => ?_), n, ne, nf, d⟩
    rcases List.mem_cons.mp (I.stkSub p.1 z) with q | q
    · exact ne q
    · exact nf q
  hok := hok_kpt I.hok k hn I.stkFree
  len := I.len
theorem inv_track {a : Addr} {o : HO} (I : Inv X pins σ H s) (h0 : X.s₀.heap.get? a = none) (hl : a ≠ X.env.locals) (hc : ∀ x c, X.env.cells.lookup x = some c → c ≠ a) (hp : ∀ p ∈ X.pn ++ pins, p.1 ≠ a) (hn : H a = none)
    (ok : ObjOk X.prog X.w (upd H a o) s.heap a o) : Inv X pins σ (upd H a o) s where
  ok := I.ok
  os := I.os
  bare := I.bare
  base := ⟨I.base.keep, I.base.slot, fun b ob e n hx => by rw [upd_ne fun z => by rw [z, h0] at e; cases e]; exact I.base.free b ob e n hx, I.base.there,
    fun b xs e => by have q := I.base.tups b xs e; rw [upd_ne (ne_of_none q hn)]; exact q, fun b ob u e => by have q := I.base.frzs b ob u e; rw [upd_ne (ne_of_none q hn)]; exact q,
    fun b ps e => by obtain ⟨m, q⟩ := I.base.tbls b ps e; exact ⟨m, by rw [upd_ne (ne_of_none q hn)]; exact q⟩⟩
  loc := I.loc
  cell := I.cell
  free := by rw [upd_ne (Ne.symm hl)]; exact I.free
  freeC := fun x c e => by rw [upd_ne (hc x c e)]; exact I.freeC x c e
  pin := fun p hp' => by
    obtain ⟨e, n, r⟩ := I.pin p hp'
    exact ⟨e, by rw [upd_ne (hp p hp')]; exact n, r⟩
  hok := fun b u e => by
    by_cases hb : b = a
    · subst hb; rw [upd_same] at e; cases e; exact ok
    · rw [upd_ne hb] at e
      exact (I.hok b u e).stay (fun _ _ _ q => q) (fun c q => by rw [upd_ne (ne_of_none q hn)]; exact q) fun c xs q => by rw [upd_ne (ne_of_none q hn)]; exact q
  len := I.len
theorem inv_unname {j : Nat} {n : Str} {h' : Heap} {t' : Nat} {v : Option Value} {m : Str → Option Value} (I : Inv X pins σ H s) (hN : X.N.Nodup) (hj : X.N[j]? = some n)
    (hm : s.heap.Ns X.env.locals m) (hl : ∀ (i : Nat) (x : Str) (v : V), X.N[i]? = some x → σ[i]? = some (some v) → Vis X.env.scope x → ∃ u, RelV v u ∧ Look X.env s.heap m x u)
    (hn : h'.Ns X.env.locals (fun x => if x = n then v else m x)) (hs : Heap.SameBut X.env.locals s.heap h') : Inv X pins (σ.set j none) H { s with heap := h', toks := t' } where
  ok := I.ok
  os := I.os
  bare := I.bare
  base := ⟨fun b o e k hb hx => (hs.2 b (Nat.ne_of_lt (Nat.lt_of_lt_of_le (Heap.lt_size e) I.ok.above))).trans (I.base.keep b o e k hb hx), fun b o e k hb hx => by
      obtain ⟨sl, q⟩ := I.base.slot b o e k hb hx
      exact ⟨sl, (hs.2 b (Nat.ne_of_lt (Nat.lt_of_lt_of_le (Heap.lt_size e) I.ok.above))).trans q⟩, I.base.free, fun b o e hx => by
      obtain ⟨o', q⟩ := I.base.there b o e hx
      exact ⟨o', (hs.2 b (Nat.ne_of_lt (Nat.lt_of_lt_of_le (Heap.lt_size e) I.ok.above))).trans q⟩, I.base.tups, I.base.frzs, I.base.tbls⟩
  loc := by
    refine ⟨_, hn, fun i x v' e1 e2 e3 => ?_⟩
    have hij : j ≠ i := fun z => by
      subst z
      have hlt : j < σ.length := by rw [I.len]; exact (List.getElem?_eq_some_iff.mp hj).1
      rw [List.getElem?_set_self hlt] at e2
      cases e2
    rw [List.getElem?_set_ne hij] at e2
    have hx : x ≠ n := fun z => hij (nodup_ix hN hj (z ▸ e1))
    obtain ⟨u, ru, l⟩ := hl i x v' e1 e2 e3
    refine ⟨u, ru, ?_⟩
    rcases l with ⟨k, e⟩ | ⟨k, c, e, z⟩
    · exact .inl ⟨k, by show (if x = n then v else m x) = _; rw [if_neg hx]; exact e⟩
    · exact .inr ⟨k, c, e, z.sameBut hs (I.cne x c e)⟩
  cell := fun x c e => by
    obtain ⟨v', z⟩ := I.cell x c e
    exact ⟨v', z.sameBut hs (I.cne x c e)⟩
  free := I.free
  freeC := I.freeC
  pin := fun p hp => by
    obtain ⟨e, k, ne, r⟩ := I.pin p hp
    exact ⟨(hs.2 p.1 ne).trans e, k, ne, r⟩
  hok := fun b o e => (I.hok b o e).stay (fun c u hc q => (hs.2 c (by
    rcases hc with z | z
    · rw [z]; exact ne_of_none e I.free
    · exact ne_of_none z I.free)).trans q) (fun _ q => q) fun _ _ q => q
  len := by rw [List.length_set]; exact I.len
end
def CXv (P : Program) (w : World) : CXT := fun outer H s E e s' => ∃ (ea T C : Addr) (H' : Hp), e = .ref ea ∧ Exc s'.heap ea T C .none ∧ s.heap.get? ea = none ∧ s.heap.get? T = none ∧ H' ea = none ∧ H' T = none ∧
  s'.os = s.os ∧ AllBare s'.gens ∧ Un (frs outer) [] H H' s.heap s'.heap ∧ HOk P w H' s'.heap ∧ E (.ref C) none H'
def Lands (X : Cx) (E : XK) : Prop := ∀ (pins : List (Addr × Obj)) (σ : L2.St) (H : Hp) (s : Shared) (h' : Heap) (ea C : Addr) (vs : Array Value), Inv X pins σ H s → (∀ b o, s.heap.get? b = some o → h'.get? b = some o) → s.heap.get? ea = none →
  h'.get? ea = some { cls := .ref C, data := .fields vs } → vs[1]? = some .none → E (.ref C) none H → X.xe (.ref ea) { s with heap := h' }
section
variable {P : Program} {w : World} {K : PySem.W.Frag} {mg : Str → Option Value} {base : Heap} {N : List Str} {qual : Str} {scope : Scope} {f : Addr} {cd : Value} {A : Around} {outer : List Env} {s0 : Shared} {H0 : Hp} {E : XK}
theorem old_none {X : Cx} {pins : List (Addr × Obj)} {σ : L2.St} {H : Hp} {s : Shared} (I : Inv X pins σ H s) (hex : X.ex = []) {b : Addr} (e : s.heap.get? b = none) : X.s₀.heap.get? b = none := by
  cases q : X.s₀.heap.get? b with
  | none => rfl
  | some o =>
    obtain ⟨o', z⟩ := I.base.there b o q (by rw [hex]; simp)
    rw [e] at z
    cases z
theorem size_none {h : Heap} {b : Addr} (e : h.objs.size ≤ b) : h.get? b = none := Heap.get?_none_of_le e
theorem Fun.okX {x : Str} {st : Stmt} {f : Addr} {fd : FuncData} {N ps : List Str} {k : Nat} {sp : Sp} (F : Fun K x x st f fd) (S : FnScope N ps (defScope st)) (len : ∀ vs H Q E, sp vs H Q E → vs.length = ps.length)
    (hbody : ∀ (cdv : Value) (A : Around) (outer : List Env) (s : Shared) (H : Hp) (vs : List V) (Q : VK) (E : XK), Room k (A.deeper (envOfC x (defScope st) s.heap.objs.size f cdv)) → sp vs H Q E →
      ∃ t, PSs (cxOf (CXv P w) P w K mg base N x (defScope st) f cdv A outer s H E) (defBody st) t ∧ t { nx := fun _ H' => Q .non H', rt := Q } (start N vs) H) : FnOk P w K mg base (CXv P w) (k + 1) f fd ps sp := by
  obtain ⟨oc, od, kV, doc, pm, an, cdv, ct, osl, rfl, lk, hcd⟩ := F.ex
  exact fn_of lk hcd S len fun A outer s H vs Q E hr hsp => hbody cdv A outer s H vs Q E hr hsp
end
theorem exc_obj {K : PySem.W.Frag} {h : Heap} {C : Addr} {bmB : List Value} {newId : String} (X : K.In h) (q : PySem.W.excIn K C bmB newId = true) :
    ∃ bm N nm qn bs hd sn sub ab col dd k0 k1 k2 k3 k5 mN, K.lookup C = some (excClassObj nm qn C N bs bm hd sn sub ab col dd k0 k1 k2 k3 k5 newId) ∧ h.Ns N mN ∧ mN "__init__" = none ∧ PySem.W.tailIn K bmB bm = true := by
  unfold PySem.W.excIn at q
  cases e1 : K.lookup C with
  | none => rw [e1] at q; cases q
  | some ob =>
    rw [e1] at q
    obtain ⟨cl, dd, dt, sl⟩ := ob
    split at q
    · rename_i dd' cd sl' hq
      cases hq
      split at q
      · rename_i C' bm k0 k1 k2 k3 n k5 hm hs
        simp only [Bool.and_eq_true, beq_iff_eq, Bool.not_eq_true'] at q
        obtain ⟨⟨⟨⟨⟨rfl, rfl⟩, hdel⟩, ht⟩, hok⟩, hni⟩ := q
        obtain ⟨nm, bs, mro, ns, qn, hd, sn, sub, ab, col, del⟩ := cd
        dsimp only at hm hdel hok hni
        subst hm hdel
        have hsl : sl = #[k0, k1, k2, k3, some (.builtin n), k5] := by
          cases sl
          exact congrArg Array.mk hs
        subst hsl
        exact ⟨bm, ns, nm, qn, bs, hd, sn, sub, ab, col, dd, k0, k1, k2, k3, k5, _, rfl, .of_isNs (PySem.W.isNs_of_in X hok), PySem.W.nsMap_none_of_in X hok hni, ht⟩
      · cases q
    · cases q
def vmro : List Value := [.type "ValueError", .type "Exception", .type "BaseException", .type "object"]
abbrev VEx (K : PySem.W.Frag) (C : Addr) : Prop := PySem.W.excIn K C vmro "ValueError.__new__" = true
theorem VEx.cls {K : PySem.W.Frag} {h : Heap} {C : Addr} (X : K.In h) (q : VEx K C) : ∃ bm, XCls h C bm := by
  obtain ⟨bm, N, nm, qn, bs, hd, sn, sub, ab, col, dd, k0, k1, k2, k3, k5, mN, e, _, _, ht⟩ := exc_obj X q
  exact ⟨bm, ⟨nm, qn, N, bs, hd, sn, sub, ab, col, dd, k0, k1, k2, k3, k5, _, X _ _ e⟩, (PySem.W.tail_of_in X ht).hasType (by decide)⟩
section
variable {X : Cx} {x : Str} {C : Addr} {a : Expr} {ta : TE} {E : XK} {np cpos pos : Pos}
def tRaise (C : Addr) (ta : TE) (E : XK) : TS := fun _ σ H => tCons ta tNil σ H fun vs H1 => vs.length ≤ sizeLine ∧ E (.ref C) none H1
theorem ps_raise (hc : X.calm = true) (hg : Gl X x) (hm : X.mg x = some (.ref C)) (hx : VEx X.K C) (L : Lands X E) (ha : PE X a ta) (hdb : (x == ("__debug__" : Str)) = false := by decide)
    (hs : starEach [a] X.env = [(false, eval a X.env)] := by rfl) (hpl : (backTo cpos (starEach [a] X.env)).any (·.1) = false := by rfl) :
    PS X (.Raise (some (.Call (.Name x np) [a] [] cpos)) none pos) (tRaise C ta E) := by
  intro pins s σ H D I h
  obtain ⟨bm, N, nm, qn, bs, hd, sn, sub, ab, col, dd, k0, k1, k2, k3, k5, mN, e, hN, hni, ht⟩ := exc_obj I.ok.mod.kin hx
  have T0 := PySem.W.tail_of_in I.kIn ht
  refine wpAny_Raise_call_subT (C := C) (nm := nm) (q := qn) (N := N) (bs := bs) (bm := bm) (hdct := hd) (sn := sn) (sub := sub) (ab := ab) (col := col) (dd := dd) (k0 := k0) (k1 := k1) (k2 := k2) (k3 := k3) (k5 := k5) (mN := mN) F.excBase_ValueError (T0.hasType (by decide)) (I.ok.hd hc) hpl hni (ld_glob I hg hm ⟨rfl, ?_⟩ hdb)
  have pa : PA X [a] (tCons ta tNil) := pa_cons ha pa_nil hs
  have hA := pa cpos pins s σ H _ I h
  rw [hs] at hA ⊢
  refine Calls.evalArgs_plain (thn hA fun us s2 ⟨vs, H2, I2, r, hz, q⟩ => ?_)
  refine ⟨rfl, by rw [← r.length]; exact hz, I2.kIn _ _ e, hN.keeps I2.bk, PySem.W.tail_of_in I2.kIn ht, fun h' ea hm' => ?_⟩
  obtain ⟨t, he, _, _⟩ := hm'.there
  exact L pins σ H2 s2 h' ea C _ I2 hm'.keeps hm'.new he rfl q
end
def hand (X : Cx) (ea : Addr) : Cx := { X with A := X.A.mark (some (.ref ea)), calm := false, xe := fun _ _ => False }
section
variable {X : Cx} {pins : List (Addr × Obj)} {σ : L2.St} {H : Hp} {s : Shared} {ea : Addr}
theorem ok_hand (ok : X.Ok) : (hand X ea).Ok :=
  ⟨ok.mod, ok.kind, ok.glob, ok.blt, ok.above, ok.inj, ok.has, ok.cab, fun z => absurd (show false = true from z) Bool.false_ne_true, ok.frames, ok.stk, ok.exf, ok.bs, ok.bsz, ok.noex, ok.exfs, ok.funs, ok.frf⟩
theorem inv_hand (I : Inv X pins σ H s) : Inv (hand X ea) pins σ H s := ⟨ok_hand I.ok, I.os, I.bare, I.base, I.loc, I.cell, I.free, I.freeC, I.pin, I.hok, I.len⟩
theorem inv_unhand (ok : X.Ok) (I : Inv (hand X ea) pins σ H s) : Inv X pins σ H s := ⟨ok, I.os, I.bare, I.base, I.loc, I.cell, I.free, I.freeC, I.pin, I.hok, I.len⟩
end
def excO (ea C : Addr) : HO := .ext fun h => ∃ vs, h.get? ea = some { cls := .ref C, data := .fields vs }
theorem excO_ok {P : Program} {w : World} {H : Hp} {h : Heap} {ea C : Addr} {vs : Array Value} (e : h.get? ea = some { cls := .ref C, data := .fields vs }) : ObjOk P w H h ea (excO ea C) :=
  ⟨⟨vs, e⟩, ⟨_, e⟩, fun _ _ ⟨ws, q⟩ k => ⟨ws, k _ q⟩⟩
section
variable {X : Cx} {CX : CXT} {k : Nat} {f : Addr} {fd : FuncData} {ps : List Str} {sp : Sp} {fx x n c : Str} {e : Expr} {es : List Expr} {ta : TA} {p pos : Pos}
theorem eval_call {pins : List (Addr × Obj)} {σ : L2.St} {H : Hp} {s : Shared} {Q : VK} {E : XK} (hne : ∀ e s, X.xe e s → False) (F : FnOk X.prog X.w X.K X.mg X.base CX k f fd ps sp) (hr : Room k X.A) (hg : Gl X fx) (hm : X.mg fx = some (.ref f)) (hk : PySem.W.keepIn X.K (.ref f) = true) (hb : Binds X.K fd ps [])
    (ha : PA X (e :: es) ta) (I : Inv X pins σ H s) (h : ta σ H fun vs H1 => sp vs H1 Q E) (hdb : (fx == ("__debug__" : Str)) = false) (he : starEach (e :: es) X.env = (false, eval e X.env) :: starEach es X.env) (hpl : (backTo pos (starEach es X.env)).any (·.1) = false) :
    wpAny (model X.prog X.w) X.A (eval (.Call (.Name fx p) (e :: es) [] pos) X.env) (EP X pins σ Q) (fun e s' => ∃ H1 s1, Inv X pins σ H1 s1 ∧ CX X.stack H1 s1 E e s') s := by
  refine wpAny_Call_Name_kw (ld_glob I hg hm ?_ hdb)
  refine PySem.W.callWith_K (h₀ := X.base) I.ok.mod.kin hk (wpAny_mono (ha pos pins s σ H _ I h) (fun us s1 ⟨vs, H1, I1, r, q⟩ => ⟨I1.kIn, ?_⟩) fun _ _ z => (hne _ _ z).elim) he hpl
  have hl : us.length = ps.length := by rw [← r.length]; exact F.len _ _ _ _ q
  have hb' := hb s1 us I1.kIn (by rw [List.append_nil]; exact hl)
  rw [List.append_nil] at hb'
  refine wpAny_call (codeAny_mono (F.run X.A X.stack s1 H1 ⟨us, []⟩ us vs Q E hr I1.env0 hb' r q) fun r' s' hq => ?_)
  cases r' with
  | error e => exact ⟨H1, s1, I1, hq⟩
  | ok fl =>
    cases fl with
    | ret u => exact I1.after hq
    | next => exact False.elim hq
    | brk => exact False.elim hq
    | cont => exact False.elim hq
def Hits (K : PySem.W.Frag) (C D : Addr) : Prop := VEx K C ∧ VEx K D ∧ ∀ h : Heap, K.In h → ∀ bm, XCls h C bm → (Value.ref C :: bm).contains (.ref D) = true
def tTry (sp : Sp) (i j : Nat) (K : PySem.W.Frag) (D : Addr) (ta : TA) (tb : TS) : TS := fun De σ H => ta σ H fun vs H1 => sp vs H1 (fun v H2 => De.nx (σ.set i (some v)) H2) fun Cv _ H2 => ∃ C, Cv = .ref C ∧ Hits K C D ∧
  ∀ ea, H2 ea = none → tb { nx := fun σ3 H3 => De.nx (σ3.set j none) H3, rt := De.rt, bk := fun σ3 H3 => De.bk (σ3.set j none) H3, ct := fun σ3 H3 => De.ct (σ3.set j none) H3 } (σ.set j (some (.ref ea))) (upd H2 ea (excO ea C))
theorem ps_try {i j : Nat} {D : Addr} {b0 : Stmt} {suite : List Stmt} {tb : TS} {px ap np hp tp : Pos} (hne : ∀ e s, X.xe e s → False) (hst : X.stack = X.env :: X.outer ∧ X.env.frame = some X.env.locals) (hex : X.ex = [])
    (F : FnOk X.prog X.w X.K X.mg X.base (CXv X.prog X.w) k f fd ps sp) (hr : Room k X.A) (hg : Gl X fx) (hm : X.mg fx = some (.ref f)) (hk : PySem.W.keepIn X.K (.ref f) = true) (hb : Binds X.K fd ps []) (ha : PA X (e :: es) ta)
    (hN : X.N.Nodup) (hi : X.N[i]? = some x) (hx : X.env.scope.names.lookup x = some .local) (hj : X.N[j]? = some n) (hn : X.env.scope.names.lookup n = some .local)
    (hgc : Gl X c) (hmc : X.mg c = some (.ref D)) (hs : ∀ ea, PSs (hand X ea) (b0 :: suite) tb)
    (hsw : swapsWith (.Call (.Name fx p) (e :: es) [] pos) (some (.Name x px)) ap.line X.env = pure false := by rfl)
    (hdb : (fx == ("__debug__" : Str)) = false := by decide) (hdc : (c == ("__debug__" : Str)) = false := by decide) (he : starEach (e :: es) X.env = (false, eval e X.env) :: starEach es X.env := by rfl) (hpl : (backTo pos (starEach es X.env)).any (·.1) = false := by rfl) :
    PS X (.Try [.Assign [.Name x px] (.Call (.Name fx p) (e :: es) [] pos) ap] [.ExceptHandler (some (.Name c np)) (some n) (b0 :: suite) hp] [] [] tp) (tTry sp i j X.K D ta tb) := by
  intro pins s σ H De I h
  refine wpAny_Try_except (wpAny_execs_cons (wpAny_Assign_Name (wpAny_mono (eval_call (pos := pos) (p := p) hne F hr hg hm hk hb ha I h hdb he hpl) (fun v s1 ⟨y, H1, I1, r1, q1⟩ => ?_) fun e0 s1 hx1 => ?_) hsw))
  · exact store_ok I1 hN hi (.inl hx) r1 (fun s2 I2 => wpAny_execs_nil (wpAny_execs_nil ⟨_, H1, I2, q1⟩)) (.inr hx)
  obtain ⟨H1, s1', I1, ea, T0, C, H', rfl, xx, n1, n2, t1, t2, os, bare, un, hok, C', eC, ⟨vC, vD, hitF⟩, hand'⟩ := hx1
  cases eC
  have I' : Inv X pins σ H' s1 := I1.call' os un hok bare fun b z => absurd z (by simp)
  -- what is true of the exception's records
  have p0 : ∀ b ∈ [ea, T0], s1'.heap.get? b = none := fun b hb => by
    rcases List.mem_cons.mp hb with z | z
    · rw [z]; exact n1
    · rw [List.mem_singleton.mp z]; exact n2
  have ne0 : ∀ b, s1'.heap.get? b = none → X.s₀.heap.get? b = none ∧ b ≠ X.env.locals ∧ (∀ x c, X.env.cells.lookup x = some c → c ≠ b) ∧ ∀ p ∈ X.pn ++ pins, p.1 ≠ b := fun b hb => by
    refine ⟨old_none I1 hex hb, fun z => ?_, fun y c' ec z => ?_, fun q hq z => ?_⟩
    · obtain ⟨m, ⟨o, _, _, ho, _⟩, _⟩ := I1.loc
      rw [← z, hb] at ho; cases ho
    · obtain ⟨v, o, ho, _⟩ := I1.cell y c' ec
      rw [z, hb] at ho; cases ho
    · have := (I1.pin q hq).1
      rw [z, hb] at this; cases this
  have tH : ∀ b ∈ [ea, T0], H' b = none := fun b hb => by
    rcases List.mem_cons.mp hb with z | z
    · rw [z]; exact t1
    · rw [List.mem_singleton.mp z]; exact t2
  have fr := I'.ok.frames
  have stk := I'.stack
  rw [hst.1] at fr stk
  refine note_on (base := X.base) (outer := X.outer) fr stk hst.2 xx fun k1 T hT x1 kp1 => ?_
  have nT1 : s1.heap.get? T = none := size_none hT
  have J1 : Inv X pins σ H' { s1 with heap := k1 } := inv_kpt (t' := s1.toks) I' (S := [ea, T0]) (by rw [hst.1]; exact kp1) (fun b hb => (ne0 b (p0 b hb)).1) (fun b hb => (ne0 b (p0 b hb)).2.1) (fun b hb => (ne0 b (p0 b hb)).2.2.1) (fun b hb => (ne0 b (p0 b hb)).2.2.2) tH
  have neT : X.s₀.heap.get? T = none ∧ T ≠ X.env.locals ∧ (∀ x c, X.env.cells.lookup x = some c → c ≠ T) ∧ (∀ p ∈ X.pn ++ pins, p.1 ≠ T) ∧ H' T = none := by
    refine ⟨old_none I' hex nT1, fun z => ?_, fun y c' ec z => ?_, fun q hq z => ?_, hok_none I'.hok nT1⟩
    · obtain ⟨m, ⟨o, _, _, ho, _⟩, _⟩ := I'.loc
      rw [← z, nT1] at ho; cases ho
    · obtain ⟨v, o, ho, _⟩ := I'.cell y c' ec
      rw [z, nT1] at ho; cases ho
    · have := (I'.pin q hq).1
      rw [z, nT1] at this; cases this
  have one : ∀ {Pr : Addr → Prop}, Pr T → ∀ b ∈ [T], Pr b := fun {Pr} a b hb => by rw [List.mem_singleton.mp hb]; exact a
  have turnT : ∀ {st : Shared} {k2 : Heap} {Hx : Hp} {σx : L2.St}, Inv X pins σx Hx st → Hx T = none → (∀ b, b ≠ T → k2.get? b = st.heap.get? b) → Inv X pins σx Hx { st with heap := k2 } := fun {st k2 Hx σx} J hT' oth =>
    inv_kpt (t' := st.toks) J (S := [T]) ⟨fun b o e nb _ => (oth b fun z => nb (by rw [z]; simp)).trans e, fun b o e nb _ => ⟨o.slots, (oth b fun z => nb (by rw [z]; simp)).trans e⟩⟩ (one neT.1) (one neT.2.1) (one neT.2.2.1) (one neT.2.2.2.1) (one hT')
  refine flight_set (to := none) x1 fun k2 x2 oth2 _ => ?_
  have J2 : Inv X pins σ H' { s1 with heap := k2 } := turnT (st := { s1 with heap := k1 }) J1 neT.2.2.2.2 oth2
  obtain ⟨bmC, xC⟩ := VEx.cls J2.kIn vC
  obtain ⟨bmD, xD⟩ := VEx.cls J2.kIn vD
  obtain ⟨vs2, ob2, _⟩ := x2.ob
  refine wpAny_handleBy_cons (codeAny_handlers_test (ld_glob (X := hand X ea) (inv_hand J2) hgc hmc ?_ hdc)) (fun z => by cases z)
  refine exc_hit (s := { s1 with heap := k2 }) xC xD ob2 rfl (hitF _ J2.kIn _ xC) ?_
  show codeAny _ _ _ _ _
  refine codeAny_handlers_suite_as ?_
  refine flight_set (s := { s1 with heap := k2 }) (to := none) x2 fun k3 x3 oth3 _ => ?_
  have J3 : Inv X pins σ H' { s1 with heap := k3 } := turnT (st := { s1 with heap := k2 }) J2 neT.2.2.2.2 oth3
  obtain ⟨vs3, ob3, _⟩ := x3.ob
  have ne1 := ne0 ea n1
  have J4 : Inv X pins σ (upd H' ea (excO ea C)) { s1 with heap := k3 } := inv_track J3 ne1.1 ne1.2.1 ne1.2.2.1 ne1.2.2.2 t1 (excO_ok ob3)
  refine store_ok (X := hand X ea) (inv_hand J4) hN hj (.inl hn) (show RelV (.ref ea) (.ref ea) from rfl) (fun s5 I5 => ?_) (.inr hn)
  refine wpAny_mono (hs ea pins s5 _ _ _ I5 (hand' ea t1)) (fun fl s6 q6 => ?_) fun _ _ z => False.elim z
  have hcls : (X.env.scope.kind == .class || (X.env.scope.kind == .module && X.env.locals != X.env.globals)) = false := by rw [I.ok.kind]; rfl
  have goes : ∀ {σ6 : L2.St} {H6 : Hp} {Qx : Shared → Prop}, Inv (hand X ea) pins σ6 H6 s6 → (∀ s7, Inv X pins (σ6.set j none) H6 s7 → Qx s7) → wpAny (model X.prog X.w) X.A (do bindName X.env n .none; unbindBehindTheSuite X.env n hp) (fun _ s7 => Qx s7) X.xe s6 := fun {σ6 H6 Qx} I6 hq => by
    have I7 : Inv X pins σ6 H6 s6 := inv_unhand I.ok I6
    obtain ⟨m, hns, hl⟩ := id I7.loc
    exact wpAny_nameGoes_keeps hn hns hcls fun h' v hn' hs' => hq _ (inv_unname I7 hN hj hns hl hn' hs')
  cases fl with
  | next =>
    obtain ⟨σ6, H6, I6, q⟩ := q6
    exact goes I6 fun s7 I7 => ⟨_, H6, I7, q⟩
  | brk =>
    obtain ⟨σ6, H6, I6, q⟩ := q6
    exact goes I6 fun s7 I7 => ⟨_, H6, I7, q⟩
  | cont =>
    obtain ⟨σ6, H6, I6, q⟩ := q6
    exact goes I6 fun s7 I7 => ⟨_, H6, I7, q⟩
  | ret u =>
    obtain ⟨v, σ6, H6, I6, r6, q⟩ := q6
    exact goes I6 fun s7 I7 => ⟨v, _, H6, I7, r6, q⟩
end
end L3
set_option Elab.async false
set_option linter.all false
set_option maxRecDepth 100000
set_option maxHeartbeats 4000000
namespace L3
open PySem PySem.Spec PyProof.Rows L2
def EqQ (K : PySem.W.Frag) (H : Hp) : Nat → V → V → Bool → Prop
  | 0, x, y, b => flatV x = true ∧ flatV y = true ∧ b = eqV x y
  | n + 1, x, y, b => EqQ K H n x y b ∨ ∃ (p r : Addr) (xs ys : List V) (e : Nat → Bool), x = .ref p ∧ y = .ref r ∧ ((SqL K H p xs ∧ SqL K H r ys) ∨ (SqT K H p xs ∧ SqT K H r ys)) ∧
      (∀ (i : Nat) (x y : V), xs[i]? = some x → ys[i]? = some y → EqQ K H n x y (e i)) ∧ b = (decide (xs.length = ys.length) && (List.range xs.length).all e)
def EqS (K : PySem.W.Frag) (H : Hp) (n : Nat) (x y : V) (b : Bool) : Prop := ∃ (p r : Addr) (xs ys : List V) (e : Nat → Bool), x = .ref p ∧ y = .ref r ∧ ((SqL K H p xs ∧ SqL K H r ys) ∨ (SqT K H p xs ∧ SqT K H r ys)) ∧
      (∀ (i : Nat) (x y : V), xs[i]? = some x → ys[i]? = some y → EqQ K H n x y (e i)) ∧ b = (decide (xs.length = ys.length) && (List.range xs.length).all e)
theorem EqQ.flat {K : PySem.W.Frag} {H : Hp} {x y : V} (hx : flatV x = true) (hy : flatV y = true) : ∀ n, EqQ K H n x y (eqV x y)
  | 0 => ⟨hx, hy, rfl⟩
  | n + 1 => .inl (EqQ.flat hx hy n)
theorem eqV_self {x : V} (h : flatV x = true) : eqV x x = true := by
  cases x with
  | non => rfl
  | bl b => show (b == b) = true; simp
  | int b => show (b == b) = true; simp
  | str b => show (b == b) = true; simp
  | _ => exact absurd (show false = true from h) Bool.false_ne_true
theorem EqQ.self {K : PySem.W.Frag} {H : Hp} {x : V} (hx : flatV x = true) (n : Nat) : EqQ K H n x x true := by
  have := EqQ.flat (K := K) (H := H) hx hx n
  rw [eqV_self hx] at this; exact this
theorem all_true (n : Nat) : (List.range n).all (fun _ => true) = true := by simp
theorem EqS.yes {K : PySem.W.Frag} {H : Hp} {n : Nat} {p r : Addr} {xs ys : List V} (h : (SqL K H p xs ∧ SqL K H r ys) ∨ (SqT K H p xs ∧ SqT K H r ys)) (hl : xs.length = ys.length) (he : ∀ (i : Nat) (x y : V), xs[i]? = some x → ys[i]? = some y → EqQ K H n x y true) : EqS K H n (.ref p) (.ref r) true :=
  ⟨p, r, xs, ys, fun _ => true, rfl, rfl, h, he, by rw [decide_eq_true hl, all_true]; rfl⟩
theorem EqS.same {K : PySem.W.Frag} {H : Hp} {p r : Addr} {xs : List V} (h : (SqL K H p xs ∧ SqL K H r xs) ∨ (SqT K H p xs ∧ SqT K H r xs)) (hf : xs.all flatV = true) : EqS K H 0 (.ref p) (.ref r) true :=
  EqS.yes h rfl fun i x y hx hy => by
    rw [hx] at hy; cases hy
    exact EqQ.self (List.all_eq_true.mp hf x (List.mem_of_getElem? hx)) 0
section
variable {X : Cx} {pins : List (Addr × Obj)} {σ : L2.St} {H : Hp} {s : Shared}
theorem eqq_self (I : Inv X pins σ H s) : ∀ {n : Nat} {x : V} {b : Bool}, EqQ X.K H n x x b → b = true
  | 0, x, b, h => by
    obtain ⟨h1, _, e⟩ := h
    rw [e]; exact eqV_self h1
  | n + 1, x, b, h => by
    rcases h with h | ⟨p, r, xs, ys, e, e1, e2, hq, he, rfl⟩
    · exact eqq_self I h
    · rw [e1] at e2; cases e2
      have exy : xs = ys := by
        rcases hq with ⟨a, c⟩ | ⟨a, c⟩
        · exact I.list_inj a c
        · exact I.tuple_inj a c
      subst exy
      rw [decide_eq_true rfl, Bool.true_and, List.all_eq_true]
      intro i hi
      have hlt := List.mem_range.mp hi
      exact eqq_self I (he i xs[i] xs[i] (List.getElem?_eq_getElem hlt) (List.getElem?_eq_getElem hlt))
theorem vals_at {xs : List V} {us : List Value} (r : Vals xs us) {j : Nat} (h : j < us.length) : ∃ x, xs[j]? = some x ∧ RelV x us[j] := by
  have hx : j < xs.length := by rw [r.length]; exact h
  obtain ⟨u, e, q⟩ := r.get (List.getElem?_eq_getElem hx)
  rw [List.getElem?_eq_getElem h] at e
  cases e
  exact ⟨_, List.getElem?_eq_getElem hx, q⟩
theorem rng_min {a b : Nat} {e : Nat → Bool} : ((List.range (min a b)).all e && a == b) = (decide (a = b) && (List.range a).all e) := by
  by_cases h : a = b
  · subst h; simp
  · simp [h]
theorem eqs_rc {n : Nat} {A : Around} (I : Inv X pins σ H s) (hu : A.units + 1 < cLine) (ih : ∀ (x y : V) (b : Bool) (u v : Value), RelV x u → RelV y v → EqQ X.K H n x y b → SeqAt.EqAt A.in1 s u v b)
    {p r : Addr} {xs ys : List V} {e : Nat → Bool} (hq : (SqL X.K H p xs ∧ SqL X.K H r ys) ∨ (SqT X.K H p xs ∧ SqT X.K H r ys)) (he : ∀ (i : Nat) (x y : V), xs[i]? = some x → ys[i]? = some y → EqQ X.K H n x y (e i)) :
    SeqAt.RcAt A s (.ref p) (.ref r) (decide (xs.length = ys.length) && (List.range xs.length).all e) := by
  have hu' : A.units < cLine := by omega
  rcases hq with ⟨a, c⟩ | ⟨a, c⟩
  · obtain ⟨is, r1, p1, z1⟩ := I.list a
    obtain ⟨js, r2, p2, z2⟩ := I.list c
    have l1 := r1.length
    have l2 := r2.length
    by_cases hl : xs.length = ys.length
    · rw [decide_eq_true hl, Bool.true_and]
      have q := SeqAt.RcAt.lists (e := e) p1.isList p2.isList (by rw [List.size_toArray, List.size_toArray]; omega) hu' fun j h1 h2 => by
        rw [List.size_toArray] at h1 h2
        obtain ⟨x, ex, rx⟩ := vals_at r1 h1
        obtain ⟨y, ey, ry⟩ := vals_at r2 h2
        rw [List.getElem_toArray, List.getElem_toArray]
        exact ih x y _ _ _ rx ry (he j x y ex ey)
      rw [List.size_toArray, ← l1] at q
      exact q
    · rw [decide_eq_false hl, Bool.false_and]
      exact SeqAt.RcAt.lists_lengths p1.isList p2.isList (by rw [List.size_toArray, List.size_toArray]; simp; omega) hu'
  · obtain ⟨is, r1, p1, z1⟩ := I.tuple a
    obtain ⟨js, r2, p2, z2⟩ := I.tuple c
    have l1 := r1.length
    have l2 := r2.length
    have q := SeqAt.RcAt.tuples (e := e) p1 p2 hu' fun j h1 h2 => by
      rw [List.size_toArray] at h1 h2
      obtain ⟨x, ex, rx⟩ := vals_at r1 h1
      obtain ⟨y, ey, ry⟩ := vals_at r2 h2
      rw [List.getElem_toArray, List.getElem_toArray]
      exact ih x y _ _ _ rx ry (he j x y ex ey)
    rw [List.size_toArray, List.size_toArray, ← l1, ← l2, rng_min] at q
    exact q
theorem eqs_ne {n : Nat} {A : Around} (I : Inv X pins σ H s) (hu : A.units + 1 < cLine) (ih : ∀ (x y : V) (b : Bool) (u v : Value), RelV x u → RelV y v → EqQ X.K H n x y b → SeqAt.EqAt A.in1 s u v b)
    {p r : Addr} {xs ys : List V} {e : Nat → Bool} (hq : (SqL X.K H p xs ∧ SqL X.K H r ys) ∨ (SqT X.K H p xs ∧ SqT X.K H r ys)) (he : ∀ (i : Nat) (x y : V), xs[i]? = some x → ys[i]? = some y → EqQ X.K H n x y (e i)) :
    SeqAt.RcNeAt A s (.ref p) (.ref r) (!(decide (xs.length = ys.length) && (List.range xs.length).all e)) := by
  have hu' : A.units < cLine := by omega
  rcases hq with ⟨a, c⟩ | ⟨a, c⟩
  · obtain ⟨is, r1, p1, z1⟩ := I.list a
    obtain ⟨js, r2, p2, z2⟩ := I.list c
    have l1 := r1.length
    have l2 := r2.length
    by_cases hl : xs.length = ys.length
    · rw [decide_eq_true hl, Bool.true_and]
      have q := SeqAt.RcNeAt.lists (e := e) p1.isList p2.isList (by rw [List.size_toArray, List.size_toArray]; omega) hu' fun j h1 h2 => by
        rw [List.size_toArray] at h1 h2
        obtain ⟨x, ex, rx⟩ := vals_at r1 h1
        obtain ⟨y, ey, ry⟩ := vals_at r2 h2
        rw [List.getElem_toArray, List.getElem_toArray]
        exact ih x y _ _ _ rx ry (he j x y ex ey)
      rw [List.size_toArray, ← l1] at q
      exact q
    · rw [decide_eq_false hl, Bool.false_and]
      exact SeqAt.RcNeAt.lists_lengths p1.isList p2.isList (by rw [List.size_toArray, List.size_toArray]; simp; omega) hu'
  · obtain ⟨is, r1, p1, z1⟩ := I.tuple a
    obtain ⟨js, r2, p2, z2⟩ := I.tuple c
    have l1 := r1.length
    have l2 := r2.length
    have q := SeqAt.RcNeAt.tuples (e := e) p1 p2 hu' fun j h1 h2 => by
      rw [List.size_toArray] at h1 h2
      obtain ⟨x, ex, rx⟩ := vals_at r1 h1
      obtain ⟨y, ey, ry⟩ := vals_at r2 h2
      rw [List.getElem_toArray, List.getElem_toArray]
      exact ih x y _ _ _ rx ry (he j x y ex ey)
    rw [List.size_toArray, List.size_toArray, ← l1, ← l2, rng_min] at q
    exact q
theorem eqq_at (I : Inv X pins σ H s) : ∀ {n : Nat} {A : Around} {x y : V} {b : Bool} {u v : Value}, A.units + n < cLine → RelV x u → RelV y v → EqQ X.K H n x y b → SeqAt.EqAt A s u v b
  | 0, A, x, y, b, u, v, hu, rx, ry, h => by
    obtain ⟨h1, h2, e⟩ := h
    rw [e]; exact eqAt_V rx ry h1 h2
  | n + 1, A, x, y, b, u, v, hu, rx, ry, h => by
    rcases h with h | ⟨p, r, xs, ys, e, rfl, rfl, hq, he, hb⟩
    · exact eqq_at I (by omega) rx ry h
    · cases rx; cases ry
      by_cases hp : p = r
      · subst hp
        have := eqq_self I (n := n + 1) (.inr ⟨p, p, xs, ys, e, rfl, rfl, hq, he, hb⟩)
        rw [this]; exact SeqAt.EqAt.same _
      · rw [hb]
        exact SeqAt.EqAt.of_refs hp (eqs_rc I (by omega) (fun x y b u v rx ry q => eqq_at I (A := A.in1) (by show A.units + 1 + n < cLine; omega) rx ry q) hq he)
theorem op_eqS (hu : X.A.units + 64 < cLine) : OpR X (compareOp .Eq) (fun x y H Q => ∃ n b, n ≤ 20 ∧ EqS X.K H n x y b ∧ Q (.bl b) H) := by
  intro pins s σ H x y v u Q I rx ry h
  obtain ⟨n, b, hn, ⟨p, r, xs, ys, e, rfl, rfl, hq, he, rfl⟩, q⟩ := h
  cases rx; cases ry
  exact eqs_rc I (by omega) (fun x y b u v rx ry q => eqq_at I (A := X.A.in1) (by show X.A.units + 1 + n < cLine; omega) rx ry q) hq he _ _ _ _ ⟨.bl _, H, I, rfl, q⟩
theorem op_neS (hu : X.A.units + 64 < cLine) : OpR X (compareOp .NotEq) (fun x y H Q => ∃ n b, n ≤ 20 ∧ EqS X.K H n x y b ∧ Q (.bl (!b)) H) := by
  intro pins s σ H x y v u Q I rx ry h
  obtain ⟨n, b, hn, ⟨p, r, xs, ys, e, rfl, rfl, hq, he, rfl⟩, q⟩ := h
  cases rx; cases ry
  exact eqs_ne I (by omega) (fun x y b u v rx ry q => eqq_at I (A := X.A.in1) (by show X.A.units + 1 + n < cLine; omega) rx ry q) hq he _ _ _ _ ⟨.bl _, H, I, rfl, q⟩
end
end L3
namespace L3
open PySem PySem.Spec PyProof.Rows L2 PySem.W
theorem ga_kind : builtinKind "BaseException.__getattribute__" = some .slot := by decide +kernel
theorem ga_split : splitId "BaseException.__getattribute__" = some ("BaseException", "__getattribute__") := by decide +kernel
section
variable {M : Model} {A : Around} {E : Value → Shared → Prop} {s : Shared}
theorem ga_check {x : Addr} {nameV : Value} {Q : Unit → Shared → Prop} (L : PySem.W.Looks M s.heap (isInstance (.ref x) (.type "BaseException")) true) (hq : Q () s) : wpAny M A (checkBuiltinCall "BaseException.__getattribute__" ⟨[.ref x, nameV], []⟩) Q E s := by
  have ha := PySem.F.args_bexc_ga (.ref x) nameV
  simp only [checkBuiltinCall, ga_kind, ga_split]
  refine wpAny_bind (L.here ?_)
  simp only [Bool.not_true, Bool.false_eq_true, if_false]
  cases hsig : Manifest.signature? "BaseException.__getattribute__" with
  | none => exact wpAny_pure hq
  | some sig =>
    simp only [argsOk, hsig] at ha
    have h2 : Bind.checkArgs "BaseException.__getattribute__" sig ⟨[.ref x, nameV], []⟩ = pure () := ha
    show wpAny M A (Bind.checkArgs "BaseException.__getattribute__" sig ⟨[.ref x, nameV], []⟩) Q E s
    rw [h2]; exact wpAny_pure hq
end
section
variable {prog : Program} {w : World} {A : Around} {E : Value → Shared → Prop} {s : Shared} {K : PySem.W.Frag} {x D : Addr} {ox : Obj}
theorem exc_entry {tk : Tok} {Q : Fin → Shared → Prop} (hf : PySem.W.findObj K D none "__class__" = some (.bind (.builtin "getset_descriptor.__get__") (.builtin "object.__class__"))) (hm : PySem.W.mroIn K D (.type "object") = some true)
    (X : K.In s.heap) (I : PySem.W.InstAt s.heap x ox D none) (h : Q (.done (.ret (.ref D))) s) : wpAny (model prog w) A (Builtin.«object.__getattribute__» ⟨[.ref x, .str "__class__" tk], []⟩) Q E s := by
  have L0 := I.type (M := model prog w)
  have L1 := PySem.W.looks_find (M := model prog w) X I hf
  refine wpAny_bind (wpAny_pure (wpAny_bind (wpAny_pure (wpAny_bind (L0.here (wpAny_bind (L1.here ?_)))))))
  show wpAny _ _ (holding [.builtin "object.__class__"] (call (.builtin "getset_descriptor.__get__") [.builtin "object.__class__", .ref x, .ref D]) >>= ret) _ _ _
  exact wpAny_bind (wpAny_holding (wpAny_call (PySem.W.class_get (tp := .ref D) X I hm (wpAny_pure h))))
theorem exc_call {tk : Tok} {R : Result → Shared → Prop} (hb : PySem.W.mroIn K D (.type "BaseException") = some true)
    (hf : PySem.W.findObj K D none "__class__" = some (.bind (.builtin "getset_descriptor.__get__") (.builtin "object.__class__"))) (hm : PySem.W.mroIn K D (.type "object") = some true)
    (X : K.In s.heap) (I : PySem.W.InstAt s.heap x ox D none) (h : R (.ok (.ret (.ref D))) s) : codeAny (model prog w) A (.call (.builtin "BaseException.__getattribute__") ⟨[.ref x, .str "__class__" tk], []⟩) R s :=
  codeAny_call_builtin PySem.F.excAttr_ValueError.ga.plain PySem.F.entry_bexc_ga (ga_check (I.type.andThen (PySem.W.looks_mroIn X hb)) (exc_entry hf hm X I h))
theorem exc_own {tk : Tok} {Q : Value → Shared → Prop} (gh : PySem.W.findIn K (.ref D) "__getattr__" = some none) (hb : PySem.W.mroIn K D (.type "BaseException") = some true)
    (hf : PySem.W.findObj K D none "__class__" = some (.bind (.builtin "getset_descriptor.__get__") (.builtin "object.__class__"))) (hm : PySem.W.mroIn K D (.type "object") = some true)
    (X : K.In s.heap) (I : PySem.W.InstAt s.heap x ox D none) (h : Q (.ref D) s) : wpAny (model prog w) A (getAttrByItsOwn (.ref x) (.str "__class__" tk) (.ref D) (.builtin "BaseException.__getattribute__") false false) Q E s := by
  have L2 := PySem.W.looks_findIn (M := model prog w) X gh
  have f3 := PySem.F.excAttr_ValueError.ga.bind (.ref x)
  unfold getAttrByItsOwn
  refine wpAny_bind ?_
  show wpAny _ _ (typeLookup (.ref D) "__getattr__") _ _ _
  refine L2.here ?_
  refine wpAny_bind (wpAny_attempt (wpAny_holding ?_))
  show wpAny _ _ (boundAndCalled _ _ _) _ _ _
  unfold boundAndCalled
  rw [f3]
  refine wpAny_bind (wpAny_pure ?_)
  refine wpAny_call (exc_call hb hf hm X I ?_)
  refine PySem.W.handed_on rfl ?_
  exact h
theorem exc_class {Q : Option Value → Shared → Prop} (ga : PySem.W.findIn K (.ref D) "__getattribute__" = some (some (.builtin "BaseException.__getattribute__"))) (gh : PySem.W.findIn K (.ref D) "__getattr__" = some none) (hb : PySem.W.mroIn K D (.type "BaseException") = some true)
    (hf : PySem.W.findObj K D none "__class__" = some (.bind (.builtin "getset_descriptor.__get__") (.builtin "object.__class__"))) (hm : PySem.W.mroIn K D (.type "object") = some true)
    (X : K.In s.heap) (I : PySem.W.InstAt s.heap x ox D none) (h : Q (some (.ref D)) { s with toks := s.toks + 1 }) : wpAny (model prog w) A (getAttr? (.ref x) "__class__") Q E s := by
  obtain ⟨hh, g, d, t, os⟩ := s
  have L0 := I.type (M := model prog w)
  have L1 := PySem.W.looks_findIn (M := model prog w) X ga
  have hx2 : (Value.builtin "BaseException.__getattribute__" == Value.builtin "object.__getattribute__") = false := by decide +kernel
  have hx1 : (onTheHeap (Value.ref D) && Value.builtin "BaseException.__getattribute__" == Value.builtin "object.__getattribute__") = false := by rw [hx2]; rfl
  unfold getAttr? getAttrBy? getAttrBy
  refine wpAny_bind (wpAny_mkText (wpAny_bind (wpAny_attempt (wpAny_holding (wpAny_bind (L0.at (wpAny_bind (L1.at ?_))))))))
  dsimp only
  rw [hx1]
  rw [if_neg Bool.false_ne_true]
  exact exc_own (s := ⟨hh, g, d, t + 1, os⟩) gh hb hf hm X I (wpAny_pure h)
end
end L3
namespace L3
open PySem PySem.Spec PyProof.Rows L2
structure Exk (K : PySem.W.Frag) (D : Addr) : Prop where
  vx : VEx K D
  ga : PySem.W.findIn K (.ref D) "__getattribute__" = some (some (.builtin "BaseException.__getattribute__"))
  gh : PySem.W.findIn K (.ref D) "__getattr__" = some none
  fnd : PySem.W.findIn K (.ref D) "__class__" = some (some (.builtin "object.__class__"))
  spc : PySem.W.specialIn K (.builtin "object.__class__") "__get__" = some (some (.builtin "getset_descriptor.__get__"))
  tks : PySem.W.takesIn K (.builtin "object.__class__") = some true
  mro : PySem.W.mroIn K D (.type "object") = some true
  bex : PySem.W.mroIn K D (.type "BaseException") = some true
theorem mro_cls {K : PySem.W.Frag} {D : Addr} {b : Value} {r : Bool} (h : PySem.W.mroIn K D b = some r) : (PySem.W.clsIn K D).isSome = true := by
  unfold PySem.W.mroIn at h
  cases e : PySem.W.clsIn K D with
  | none => rw [e] at h; cases h
  | some _ => rfl
open PySem.W in
theorem kitx_exc {K : PySem.W.Frag} {x D : Addr} (k : Exk K D) : PySem.W.KitX K (.ref x) (.ref D) (fun h => ∃ vs, h.get? x = some { cls := .ref D, data := .fields vs }) where
  ty := fun M h _ p => by
    obtain ⟨vs, e⟩ := p
    have I : PySem.W.InstAt h x { cls := .ref D, data := .fields vs } D none := ⟨e, rfl, rfl, trivial⟩
    exact I.type
  it := fun _ _ X _ => by
    have hcD := mro_cls k.mro
    unfold PySem.W.clsIn at hcD
    split at hcD
    · rename_i c' d' cd' sl' ho
      intro A' Q' E' s' k q
      unfold isType loadHead
      exact wpAny_bind (wpAny_loadPart (k _ _ (X _ _ ho)) (wpAny_pure q))
    · cases hcD
  ne := fun h tp dd its n sl X htp => by
    have hcD := mro_cls k.mro
    refine Bool.eq_false_iff.mpr fun q => ?_
    have e : D = tp := Value.ref.inj (beq_iff_eq.mp q)
    subst e
    unfold PySem.W.clsIn at hcD
    split at hcD
    · rename_i c' d' cd' sl' ho
      have z := (X _ _ ho).symm.trans htp
      cases z
    · cases hcD
  ca := fun {prog w A E Q s} X p h => by
    obtain ⟨vs, e⟩ := p
    have I : PySem.W.InstAt s.heap x { cls := .ref D, data := .fields vs } D none := ⟨e, rfl, rfl, trivial⟩
    have hf : PySem.W.findObj K D none "__class__" = some (.bind (.builtin "getset_descriptor.__get__") (.builtin "object.__class__")) := by
      obtain ⟨cd, hc⟩ := Option.isSome_iff_exists.mp (mro_cls k.mro)
      unfold PySem.W.findObj
      rw [hc, Option.bind_some, k.fnd, Option.bind_some]
      simp [k.spc, k.tks]
    exact exc_class k.ga k.gh k.bex hf k.mro X I h
section
variable {X : Cx}
theorem call_isx {K : PySem.W.Frag} (hK : X.K = K) : CallR X (.builtin "isinstance") (fun xs H Q => ∃ ea C b, (∃ D, xs = [.ref ea, .ref D] ∧ PySem.W.kitOne K (.ref C) (.ref D) = some b ∨ ∃ n, xs = [.ref ea, .ty n] ∧ PySem.W.kitOne K (.ref C) (.type n) = some b) ∧ H ea = some (excO ea C) ∧ Exk K C ∧ Q (.bl b) H) := by
  subst hK
  intro pins s σ H xs us Q I r h
  obtain ⟨ea, C, b, hx, he, kx, q⟩ := h
  have p : ∃ vs, s.heap.get? ea = some { cls := .ref C, data := .fields vs } := (show ObjOk X.prog X.w H s.heap ea (excO ea C) from I.hok ea _ he).1
  obtain ⟨D, hx⟩ := hx
  rcases hx with ⟨rfl, e⟩ | ⟨n, rfl, e⟩
  · obtain ⟨u, u2, rfl, r1, r2⟩ := r.two
    cases r1; cases r2
    exact PySem.W.kia_one (kitx_exc kx) I.kIn p e (fun z => nomatch z) fun tk => ⟨.bl b, H, I.tok _, rfl, q⟩
  · obtain ⟨u, u2, rfl, r1, r2⟩ := r.two
    cases r1; cases r2
    exact PySem.W.kia_one (kitx_exc kx) I.kIn p e (fun z => nomatch z) fun tk => ⟨.bl b, H, I.tok _, rfl, q⟩
theorem call_isxT {K : PySem.W.Frag} (hK : X.K = K) : CallR X (.builtin "isinstance") (fun xs H Q => ∃ (ea C : Addr) (b : Bool) (tp : Addr) (ds : List Addr), xs = [.ref ea, .ref tp] ∧ H tp = some (.tup (ds.map V.ref)) ∧ PySem.W.kitAny K (.ref C) (ds.map Value.ref) = some b ∧ H ea = some (excO ea C) ∧ Exk K C ∧ Q (.bl b) H) := by
  subst hK
  intro pins s σ H xs us Q I r h
  obtain ⟨ea, C, b, tp, ds, rfl, ht, e, he, kx, q⟩ := h
  have p : ∃ vs, s.heap.get? ea = some { cls := .ref C, data := .fields vs } := (show ObjOk X.prog X.w H s.heap ea (excO ea C) from I.hok ea _ he).1
  obtain ⟨u, u2, rfl, r1, r2⟩ := r.two
  cases r1; cases r2
  obtain ⟨hz, its, rv, ⟨o, h1, h2, n, h3⟩⟩ := (show ObjOk X.prog X.w H s.heap tp (.tup (ds.map V.ref)) from I.hok tp _ ht)
  have ei : its = ds.map Value.ref := by
    clear e ht h3 hz
    induction ds generalizing its with
    | nil => cases rv; rfl
    | cons d ds ih =>
      cases rv with
      | cons a b =>
        cases a
        rw [ih _ b]; rfl
  obtain ⟨c, dd, dt, sl⟩ := o
  dsimp only at h2 h3
  subst h2 h3
  rw [ei] at h1
  exact PySem.W.kia_tup (kitx_exc kx) I.kIn p h1 e (fun z => nomatch z) fun tk => ⟨.bl b, H, I.tok _, rfl, q⟩
end
section
variable {X : Cx} {K : PySem.W.Frag}
theorem ix_tupK (hK : X.K = K) : IxR X (rIxT K) := by subst hK; exact ix_tup
end
theorem Hits.of {K : PySem.W.Frag} {C D : Addr} (vC : VEx K C) (vD : VEx K D) (m : PySem.W.mroIn K C (.ref D) = some true) : Hits K C D := by
  refine ⟨vC, vD, fun h X bm xc => ?_⟩
  obtain ⟨⟨nm, q, N, bs, hd, sn, sub, ab, col, dd, k0, k1, k2, k3, k5, ni, hC⟩, _⟩ := xc
  unfold PySem.W.mroIn PySem.W.clsIn at m
  split at m
  · rename_i c' d' cd' sl' ho
    have z := (X _ _ ho).symm.trans hC
    cases z
    dsimp only [Option.bind_some] at m
    split at m
    · cases m
    · exact Option.some.inj m
  · cases m
end L3
set_option Elab.async false
set_option linter.all false
set_option maxRecDepth 100000
set_option maxHeartbeats 4000000
namespace Vm
open PySem PySem.Spec PyProof.Rows L2 L3
def mkS (l : List Nat) : Str := ⟨l.toArray⟩
theorem mkS_list (l : List Nat) : (mkS l).cps.toList = l := mk_list l
theorem mkS_len (l : List Nat) : (mkS l).length = l.length := mk_len l
end Vm
set_option Elab.async false
set_option linter.all false
set_option maxRecDepth 100000
set_option maxHeartbeats 4000000
namespace L3
open PySem PySem.Spec PyProof.Rows L2
section
variable {X : Cx}
theorem call_int_text : CallR X (.type "int") (fun xs H Q => ∃ (z : Str) (n : Int), xs = [.str z] ∧ PySem.intText? z = some n ∧ z.length ≤ 640 ∧ Q (.int n) H) := by
  intro pins s σ H xs us Q I r h
  obtain ⟨z, n, rfl, hn, hl, q⟩ := h
  obtain ⟨u, rfl, t, rfl⟩ := vals1 r
  exact PySem.W.KIN.call_text hn hl ⟨.int n, H, I.tok _, ⟨_, rfl⟩, q⟩
theorem op_mul_str : OpR X (binaryOp .Mult) (fun x y H Q => ∃ (z : Str) (n : Int), x = .str z ∧ y = .int n ∧ MulOk z n ∧ Q (.str (Txt.mul z n)) H) := by
  intro pins s σ H x y v u Q I rx ry h
  obtain ⟨z, n, rfl, rfl, ok, q⟩ := h
  obtain ⟨t, rfl⟩ := rx
  obtain ⟨t', rfl⟩ := ry
  exact SB.mul ok fun t' k => ⟨.str _, H, I.tok _, ⟨_, rfl⟩, q⟩
end
end L3
namespace Vm
open PySem PySem.Spec PyProof.Rows L2 L3 PySem.NumText
def figures : Str := "0123456789"
theorem figures_cps : figures.cps.toList = (List.range 10).map (48 + ·) := by decide +kernel
theorem mem_figures {c : Nat} : c ∈ figures.cps.toList ↔ 48 ≤ c ∧ c ≤ 57 := by
  rw [figures_cps, List.mem_map]
  constructor
  · rintro ⟨i, hi, rfl⟩
    have := List.mem_range.mp hi
    omega
  · intro h
    exact ⟨c - 48, List.mem_range.mpr (by omega), by omega⟩
theorem fold_low : ∀ (l : List Nat) (acc : Nat), acc * 10 ^ l.length ≤ l.foldl (fun acc c => acc * 10 + (c - 48)) acc
  | [], acc => by simp
  | c :: r, acc => by
    rw [List.foldl_cons, List.length_cons]
    refine Nat.le_trans ?_ (fold_low r _)
    rw [Nat.pow_succ, Nat.mul_comm (10 ^ r.length) 10, ← Nat.mul_assoc]
    exact Nat.mul_le_mul_right _ (by omega)
theorem fold_high : ∀ (l : List Nat) (acc : Nat), (∀ c ∈ l, 48 ≤ c ∧ c ≤ 57) → l.foldl (fun acc c => acc * 10 + (c - 48)) acc < (acc + 1) * 10 ^ l.length
  | [], acc, _ => by simp
  | c :: r, acc, h => by
    rw [List.foldl_cons, List.length_cons]
    refine Nat.lt_of_lt_of_le (fold_high r _ fun d hd => h d (List.mem_cons_of_mem _ hd)) ?_
    rw [Nat.pow_succ, Nat.mul_comm (10 ^ r.length) 10, ← Nat.mul_assoc]
    have := h c List.mem_cons_self
    exact Nat.mul_le_mul_right _ (by omega)
theorem val_low {c : Nat} {r : List Nat} (h : 48 < c) : 10 ^ r.length ≤ digitsVal (c :: r) := by
  unfold digitsVal
  rw [List.foldl_cons]
  refine Nat.le_trans ?_ (fold_low r _)
  calc 10 ^ r.length = 1 * 10 ^ r.length := (Nat.one_mul _).symm
    _ ≤ _ := Nat.mul_le_mul_right _ (by omega)
theorem val_high {l : List Nat} (h : ∀ c ∈ l, 48 ≤ c ∧ c ≤ 57) : digitsVal l < 10 ^ l.length := by
  have := fold_high l 0 h
  unfold digitsVal
  omega
def numS (n : Int) : Str := Str.ofString (toString n)
theorem numS_list (m : Nat) : (numS (m : Int)).cps.toList = (Nat.toDigits 10 m).map Char.toNat := PySem.W.KIN.signs_num m
theorem numS_digits (m : Nat) : ∀ c ∈ (numS (m : Int)).cps.toList, 48 ≤ c ∧ c ≤ 57 := by
  intro c hc
  rw [numS_list] at hc
  obtain ⟨ch, hch, e⟩ := List.mem_map.mp hc
  rw [← e]
  exact digit_range (Nat.isDigit_of_mem_toDigits (by decide) (by decide) hch)
theorem numS_lt (m : Nat) : m < 10 ^ (numS (m : Int)).length := by
  have h := val_high (numS_digits m)
  rw [numS_list, PySem.W.KIN.val_back, ← numS_list, clen] at h
  exact h
theorem digits_le : ∀ (k m : Nat), m < 10 ^ (k + 1) → (Nat.toDigits 10 m).length ≤ k + 1
  | 0, m, h => by
    rw [Nat.toDigits_of_lt_base (by omega)]
    exact Nat.le_refl _
  | k + 1, m, h => by
    by_cases h9 : m < 10
    · rw [Nat.toDigits_of_lt_base h9]
      exact Nat.succ_le_succ (Nat.zero_le _)
    · have hm : m % 10 < 10 := Nat.mod_lt m (by decide)
      have t : Nat.toDigits 10 (m / 10) ++ Nat.toDigits 10 (m % 10) = Nat.toDigits 10 (10 * (m / 10) + m % 10) := Nat.toDigits_append_toDigits (by decide) (by omega) hm
      rw [Nat.div_add_mod] at t
      rw [← t, List.length_append, Nat.toDigits_of_lt_base hm]
      have h2 : m / 10 < 10 ^ (k + 1) := by
        rw [Nat.pow_succ] at h
        exact Nat.div_lt_of_lt_mul (by omega)
      have := digits_le k (m / 10) h2
      show _ + 1 ≤ _
      omega
theorem numS_len {n : Int} (h0 : 0 ≤ n) (h1 : n < 10 ^ 40) : (numS n).length ≤ 40 := by
  obtain ⟨m, rfl⟩ := Int.eq_ofNat_of_zero_le h0
  rw [← clen, numS_list, List.length_map]
  exact digits_le 39 m (by exact_mod_cast h1)
theorem numS_pos (n : Int) (h0 : 0 ≤ n) : 1 ≤ (numS n).length := by
  obtain ⟨m, rfl⟩ := Int.eq_ofNat_of_zero_le h0
  rw [← clen, numS_list, List.length_map]
  exact toDigits_len_ge 10 m
theorem log_ok {n : Int} (h0 : 0 ≤ n) (h1 : n < 10 ^ 40) : n.natAbs.log2 < 1920 := by
  obtain ⟨m, rfl⟩ := Int.eq_ofNat_of_zero_le h0
  rw [Int.natAbs_natCast]
  by_cases hm : m = 0
  · subst hm; decide
  · rw [Nat.log2_lt hm]
    refine Nat.lt_of_lt_of_le (by exact_mod_cast h1 : m < 10 ^ 40) ?_
    refine Nat.le_trans (show 10 ^ 40 ≤ 2 ^ 160 by decide) (Nat.pow_le_pow_right (by decide) (by decide))
def writesB (z : Str) : Bool := if z = Str.ofString "" then false else if onlyB z figures = true then decide (z = Str.ofString "0") || !decide (z.cps.toList[0]? = some 48) else false
def pnum (z : Str) (most : Int) : Option Int := if writesB z = true then (if ((digitsVal z.cps.toList : Nat) : Int) ≤ most then some ((digitsVal z.cps.toList : Nat) : Int) else none) else none
theorem only_digits {z : Str} (h : onlyB z figures = true) : ∀ c ∈ z.cps.toList, 48 ≤ c ∧ c ≤ 57 := by
  unfold onlyB at h
  rw [List.all_eq_true] at h
  exact fun c hc => mem_figures.mp (of_decide_eq_true (h c hc))
theorem ne_nil {z : Str} (h : z ≠ Str.ofString "") : z.cps.toList ≠ [] := fun e => h (by
  have e2 : (Str.ofString "").cps.toList = [] := by decide +kernel
  rw [← str_mk z, ← str_mk (Str.ofString ""), e, e2])
theorem digits_read {z : Str} (h : onlyB z figures = true) (hne : z ≠ Str.ofString "") (hl : z.length ≤ 640) : PySem.intText? z = some ((digitsVal z.cps.toList : Nat) : Int) :=
  intText_digits (only_digits h) (ne_nil hne) (by omega)
theorem writes_low {z : Str} (h : writesB z = true) (h2 : 2 ≤ z.length) : 10 ^ (z.length - 1) ≤ digitsVal z.cps.toList := by
  unfold writesB at h
  by_cases h0 : z = Str.ofString ""
  · rw [if_pos h0] at h; cases h
  rw [if_neg h0] at h
  by_cases h1 : onlyB z figures = true
  · rw [if_pos h1] at h
    have hd := only_digits h1
    have hz := clen z
    rcases Bool.or_eq_true_iff.mp h with h | h
    · have e := of_decide_eq_true h
      rw [e] at h2
      exact absurd h2 (by decide +kernel)
    · cases hl : z.cps.toList with
      | nil => exact absurd hl (ne_nil h0)
      | cons c r =>
        rw [hl] at h hd hz
        have hc : c ≠ 48 := fun e => by rw [e] at h; simp at h
        have := hd c List.mem_cons_self
        rw [← hz, List.length_cons, Nat.add_sub_cancel]
        exact val_low (by omega)
  · rw [if_neg h1] at h; cases h
theorem pnum_long {z : Str} {most : Int} {k : Nat} (hk : most < 10 ^ k) (h1 : 1 ≤ k) (hl : k < z.length) : pnum z most = none := by
  unfold pnum
  by_cases h : writesB z = true
  · rw [if_pos h, if_neg ?_]
    have := writes_low h (by omega)
    have h3 : 10 ^ k ≤ 10 ^ (z.length - 1) := Nat.pow_le_pow_right (by decide) (by omega)
    have h4 : (10 : Int) ^ k ≤ ((digitsVal z.cps.toList : Nat) : Int) := by exact_mod_cast Nat.le_trans h3 this
    omega
  · rw [if_neg h]
theorem most_lt {most : Int} (h0 : 0 ≤ most) : most < 10 ^ (numS most).length := by
  obtain ⟨m, rfl⟩ := Int.eq_ofNat_of_zero_le h0
  exact_mod_cast numS_lt m
def optV : Option Int → V
  | none => .non
  | some i => .int i
end Vm
set_option Elab.async false
set_option linter.all false
set_option maxRecDepth 100000
set_option maxHeartbeats 4000000
namespace HT
open PySem PySem.Spec PyProof.Rows
section
variable {prog : Program} {w : World} {A : Around} {E : Value → Shared → Prop} {s : Shared}
end
end HT
namespace L3
open PySem PySem.Spec PyProof.Rows L2
section
variable {X : Cx}
end
end L3
namespace Vm
open PySem PySem.Spec PyProof.Rows L2 L3
theorem iteK {c A B : Prop} [Decidable c] (h : ¬ c) (hb : B) : if decide c = true then A else B := by rw [decide_eq_false h]; exact hb
theorem iteY {c A B : Prop} [Decidable c] (h : c) (ha : A) : if decide c = true then A else B := by rw [decide_eq_true h]; exact ha
end Vm
set_option Elab.async false
set_option linter.all false
set_option maxRecDepth 100000
set_option maxHeartbeats 4000000
namespace L3
open PySem PySem.Spec PyProof.Rows L2
structure NB (X : Cx) (pins : List (Addr × Obj)) (H : Hp) (b : Addr) : Prop where
  s0 : X.s₀.heap.get? b = none
  loc : b ≠ X.env.locals
  cel : ∀ x c, X.env.cells.lookup x = some c → c ≠ b
  pin : ∀ p ∈ X.pn ++ pins, p.1 ≠ b
  hp : H b = none
section
variable {X : Cx} {pins : List (Addr × Obj)} {σ : L2.St} {H H' : Hp} {s : Shared} {b : Addr}
theorem nb_of (I : Inv X pins σ H s) (hex : X.ex = []) (hb : s.heap.get? b = none) : NB X pins H b := by
  refine ⟨old_none I hex hb, fun z => ?_, fun y c' ec z => ?_, fun q hq z => ?_, hok_none I.hok hb⟩
  · obtain ⟨m, ⟨o, _, _, ho, _⟩, _⟩ := I.loc
    rw [← z, hb] at ho; cases ho
  · obtain ⟨v, o, ho, _⟩ := I.cell y c' ec
    rw [z, hb] at ho; cases ho
  · have := (I.pin q hq).1
    rw [z, hb] at this; cases this
theorem NB.to (n : NB X pins H b) (h : H' b = none) : NB X pins H' b := ⟨n.s0, n.loc, n.cel, n.pin, h⟩
theorem inv_nb {h' : Heap} {t' : Nat} {S : List Addr} (I : Inv X pins σ H s) (k : Kpt S (frs X.stack) s.heap h') (n : ∀ b ∈ S, NB X pins H b) : Inv X pins σ H { s with heap := h', toks := t' } :=
  inv_kpt I k (fun b hb => (n b hb).s0) (fun b hb => (n b hb).loc) (fun b hb => (n b hb).cel) (fun b hb => (n b hb).pin) fun b hb => (n b hb).hp
end
def FlyN (X : Cx) (E : XK) (e : Value) (s : Shared) : Prop := ∃ (pins : List (Addr × Obj)) (σ : L2.St) (H : Hp) (ea T C : Addr), e = .ref ea ∧ Inv X pins σ H s ∧ NB X pins H ea ∧ NB X pins H T ∧ E (.ref C) none H ∧ Exc s.heap ea T C (rawInt X.env.locals)
def Fly (X : Cx) (E : XK) (e : Value) (s : Shared) : Prop := ∃ (pins : List (Addr × Obj)) (σ : L2.St) (H : Hp) (ea C : Addr), e = .ref ea ∧ Inv X pins σ H s ∧ NB X pins H ea ∧ E (.ref C) none H ∧
  ((∃ vs, s.heap.get? ea = some { cls := .ref C, data := .fields vs } ∧ vs[1]? = some .none) ∨ ∃ (T : Addr) (fl : Value), Exc s.heap ea T C fl ∧ NB X pins H T ∧ (fl = .none ∨ fl = rawInt X.env.locals))
section
variable {X : Cx} {E : XK} {e : Value} {s : Shared}
theorem note_same {M : Model} {A : Around} {E' : Value → Shared → Prop} {env : Env} {L ea T C : Addr} {Q : Unit → Shared → Prop} (hf : env.frame = some L) (x : Exc s.heap ea T C (rawInt L)) (h : Q () s) : wpAny M A (noteFrame (.ref ea) env) Q E' s := by
  obtain ⟨⟨vs, he, h1⟩, ⟨oT, ts, hT, dT, h3⟩, ne⟩ := x
  unfold noteFrame
  simp only [hf]
  refine wpAny_bind (wpAny_field he rfl h1 ?_)
  rw [if_pos (show (Value.ref T != Value.none) = true by simp)]
  refine wpAny_bind (wpAny_field hT dT h3 ?_)
  rw [if_pos (beq_self_eq_true _)]
  exact wpAny_pure h
theorem fly_note {M : Model} {E' : Value → Shared → Prop} {Q : Unit → Shared → Prop} (hst : X.stack = X.env :: X.outer ∧ X.env.frame = some X.env.locals) (hex : X.ex = []) (F : Fly X E e s) (hQ : ∀ s', FlyN X E e s' → Q () s') : wpAny M X.A (noteFrame e X.env) Q E' s := by
  obtain ⟨pins, σ, H, ea, C, rfl, I, n1, hE, hx⟩ := F
  have fr := I.ok.frames
  have stk := I.stack
  rw [hst.1] at fr stk
  rcases hx with ⟨vs, ho, h1⟩ | ⟨T0, fl, x, n2, hfl⟩
  · refine note_new (base := X.base) (outer := X.outer) fr stk hst.2 ho h1 fun k1 T hT x1 kp1 => hQ _ ?_
    have nT := nb_of I hex (size_none hT)
    have kp : Kpt [ea] (frs X.stack) s.heap k1 := by rw [hst.1]; exact kp1
    exact ⟨pins, σ, H, ea, T, C, rfl, inv_nb (t' := s.toks) I kp (fun b hb => by rw [List.mem_singleton.mp hb]; exact n1), n1, nT, hE, x1⟩
  · rcases hfl with rfl | rfl
    · refine note_on (base := X.base) (outer := X.outer) fr stk hst.2 x fun k1 T hT x1 kp1 => hQ _ ?_
      have nT := nb_of I hex (size_none hT)
      have kp : Kpt [ea, T0] (frs X.stack) s.heap k1 := by rw [hst.1]; exact kp1
      exact ⟨pins, σ, H, ea, T, C, rfl, inv_nb (t' := s.toks) I kp (fun b hb => by
        rcases List.mem_cons.mp hb with z | z
        · rw [z]; exact n1
        · rw [List.mem_singleton.mp z]; exact n2), n1, nT, hE, x1⟩
    · exact note_same hst.2 x (hQ s ⟨pins, σ, H, ea, T0, C, rfl, I, n1, n2, hE, x⟩)
theorem fly_set {M : Model} {A : Around} {E' : Value → Shared → Prop} {to : Option Addr} {Q : Unit → Shared → Prop} (F : FlyN X E e s)
    (hQ : ∀ s' pins σ H ea T C, e = .ref ea → Inv X pins σ H s' → NB X pins H ea → NB X pins H T → E (.ref C) none H → Exc s'.heap ea T C (to.elim Value.none fun f => rawInt f) → Q () s') : wpAny M A (setFlight e to) Q E' s := by
  obtain ⟨pins, σ, H, ea, T, C, rfl, I, n1, n2, hE, x⟩ := F
  refine flight_set (to := to) x fun k2 x2 oth _ => hQ _ pins σ H ea T C rfl ?_ n1 n2 hE x2
  refine inv_nb (t' := s.toks) (S := [T]) I ⟨fun b o eb nb _ => (oth b fun z => nb (by rw [z]; simp)).trans eb, fun b o eb nb _ => ⟨o.slots, (oth b fun z => nb (by rw [z]; simp)).trans eb⟩⟩ fun b hb => by
    rw [List.mem_singleton.mp hb]; exact n2
theorem passes_fly (hst : X.stack = X.env :: X.outer ∧ X.env.frame = some X.env.locals) (hex : X.ex = []) : PassesOwn (model X.prog X.w) X.A X.env (Fly X E) := fun e s' F => by
  show wpAny _ X.A (noteFrame e X.env) _ _ s'
  refine fly_note hst hex F fun s'' N => ?_
  have N' := N
  obtain ⟨pins, σ, H, ea, T, C, rfl, I, n1, n2, hE, ⟨vs, he, h1⟩, _⟩ := N'
  unfold cameBackBy
  refine wpAny_bind (wpAny_field he rfl h1 ?_)
  rw [if_neg (show ¬ (Value.ref T == Value.none) = true by simp)]
  first
    | refine fly_set (to := X.env.frame) N fun s3 pins σ H ea T C e1 I3 m1 m2 hE3 x3 => ?_
    | refine wpAny_bind (wpAny_pure (fly_set (to := X.env.frame) N fun s3 pins σ H ea T C e1 I3 m1 m2 hE3 x3 => ?_))
  rw [hst.2] at x3
  exact ⟨pins, σ, H, ea, C, e1, I3, m1, hE3, .inr ⟨T, _, x3, m2, .inr rfl⟩⟩
theorem lands_fly (hex : X.ex = []) : Lands (X.wish (Fly X E)) E := by
  intro pins σ H s h' ea C vs I kp new ho h1 hE
  have I0 := I.unwish
  exact ⟨pins, σ, H, ea, C, rfl, I0.kept (t' := s.toks) kp, nb_of I0 hex new, hE, .inl ⟨vs, ho, h1⟩⟩
end
section
variable {P : Program} {w : World} {K : PySem.W.Frag} {mg : Str → Option Value} {base : Heap} {N : List Str} {qual : Str} {scope : Scope} {f : Addr} {cd : Value} {A : Around} {outer : List Env} {s0 : Shared} {H0 : Hp} {E : XK}
abbrev cxF (P : Program) (w : World) (K : PySem.W.Frag) (mg : Str → Option Value) (base : Heap) (N : List Str) (qual : Str) (scope : Scope) (f : Addr) (cd : Value) (A : Around) (outer : List Env) (s0 : Shared) (H0 : Hp) (E : XK) : Cx :=
  (cxOf (CXv P w) P w K mg base N qual scope f cd A outer s0 H0 E).wish (Fly (cxOf (CXv P w) P w K mg base N qual scope f cd A outer s0 H0 E) E)
theorem passesF : Passes (CXv P w) (cxF P w K mg base N qual scope f cd A outer s0 H0 E) E := by
  intro pins σ H s e s' I hx
  obtain ⟨ea, T0, C, H', rfl, x, n1, n2, t1, t2, os, bare, un, hok, hE⟩ := hx
  have I0 := I.unwish
  have I' : Inv (cxOf (CXv P w) P w K mg base N qual scope f cd A outer s0 H0 E) pins σ H' s' := I0.call' os un hok bare fun b z => absurd z (by simp)
  exact ⟨pins, σ, H', ea, C, rfl, I', (nb_of I0 rfl n1).to t1, hE, .inr ⟨T0, .none, x, (nb_of I0 rfl n2).to t2, .inl rfl⟩⟩
theorem fly_leave {e : Value} {s : Shared} (F : Fly (cxOf (CXv P w) P w K mg base N qual scope f cd A outer s0 H0 E) E e s) : (cxOf (CXv P w) P w K mg base N qual scope f cd A outer s0 H0 E).xe e s := by
  show wpAny (model P w) (A.deeper (envOfC qual scope s0.heap.objs.size f cd)) (leaving (envOfC qual scope s0.heap.objs.size f cd) e) _ _ s
  unfold leaving
  refine wpAny_bind (fly_note ⟨rfl, rfl⟩ rfl F fun s'' Nn => ?_)
  refine fly_set (to := none) Nn fun s3 pins σ H ea T C e1 I3 m1 m2 hE3 x3 => ?_
  exact ⟨ea, T, C, H, e1, x3, m1.s0, m2.s0, m1.hp, m2.hp, I3.os, I3.bare, I3.base, I3.hok, hE3⟩
theorem PSs.fly {sts : List Stmt} {t : TS} (h : PSs (cxF P w K mg base N qual scope f cd A outer s0 H0 E) sts t) : PSs (cxOf (CXv P w) P w K mg base N qual scope f cd A outer s0 H0 E) sts t := fun pins s σ H D I hw =>
  wpAny_mono (h pins s σ H D (I.wish _) hw) (fun _ _ q => q.unwish) fun _ _ z => fly_leave z
theorem passF : PassesOwn (model P w) (cxF P w K mg base N qual scope f cd A outer s0 H0 E).A (cxF P w K mg base N qual scope f cd A outer s0 H0 E).env (cxF P w K mg base N qual scope f cd A outer s0 H0 E).xe := passes_fly (X := cxOf (CXv P w) P w K mg base N qual scope f cd A outer s0 H0 E) ⟨rfl, rfl⟩ rfl
theorem landsF : Lands (cxF P w K mg base N qual scope f cd A outer s0 H0 E) E := lands_fly rfl
end
end L3
set_option Elab.async false
set_option linter.all false
set_option maxRecDepth 100000
set_option maxHeartbeats 4000000
namespace L3
open PySem PySem.Spec PyProof.Rows L2
section
variable {X : Cx} {k : Nat} {f : Addr} {fd : FuncData} {ps : List Str} {sp : Sp} {fx x c : Str} {e : Expr} {es : List Expr} {ta : TA} {p pos : Pos}
end
end L3
namespace Vm
open PySem PySem.Spec PyProof.Rows L2 L3
theorem sameT {K : PySem.W.Frag} {H H' : Hp} {a : Addr} {xs : List V} (S : Same H H') (h : SqT K H a xs) : SqT K H' a xs := by
  rcases h with (h | ⟨o, h⟩) | h
  · exact .inl (.inl (S _ _ h))
  · exact .inl (.inr ⟨o, S _ _ h⟩)
  · exact .inr h
end Vm
set_option Elab.async false
set_option linter.all false
set_option maxRecDepth 100000
set_option maxHeartbeats 4000000
namespace L3
open PySem PySem.Spec PyProof.Rows L2
section
variable {prog : Program} {w : World}
section
variable {A : Around} {E : Value → Shared → Prop} {s : Shared} {z TI TO i1 i2 t1 t2 : Addr} {xs ys : Array Value} {S1 S2 : Nat → Heap → Prop} {k : Nat}
end
end
end L3
namespace L3
open PySem PySem.Spec PyProof.Rows L2
section
variable {X : Cx} {pins : List (Addr × Obj)} {σ : L2.St} {H : Hp} {s : Shared} {h' : Heap}
theorem turnedL {t' : Nat} {L : List Addr} (I : Inv X pins σ H s) (k : ∀ b o, b ∉ L → s.heap.get? b = some o → h'.get? b = some o) (hf : ∀ b ∈ L, FpOk X pins H b) : Inv X pins σ H { s with heap := h', toks := t' } := by
  have nit : ∀ b u, H b = some u → b ∉ L := fun b u e z => by rw [(hf b z).1] at e; cases e
  have nl : X.env.locals ∉ L := fun z => (hf _ z).2.1 rfl
  refine I.step (g' := s.gens) (d' := s.drawn) (ch := L) (fun b hb => ?_) (fun b o _ _ hc e _ => k b o hc e) (fun b o _ _ hc e _ => ⟨o.slots, k b o hc e⟩) (fun _ _ _ _ n => n)
    (fun b o hc e => ⟨o, k b o hc e⟩) (fun _ _ e => e) (fun _ _ _ e => e) (fun b ps e => ⟨#[], by rw [e]; simp⟩) (fun m hm => ?_) (fun b u e => ?_) I.bare
  · obtain ⟨f0, f1, f2, f3, f4, f5⟩ := hf b hb
    exact ⟨f3, f1, f4, f5⟩
  · obtain ⟨o, es, ep, ho, r⟩ := hm
    exact ⟨o, es, ep, k _ o nl ho, r⟩
  · refine (I.hok b u e).stay (fun c v hc q => k c v ?_ q) (fun _ q => q) fun _ _ q => q
    rcases hc with z | z
    · rw [z]; exact nit b u e
    · exact nit c _ z
end
section
variable {prog : Program} {w : World} {A : Around} {E : Value → Shared → Prop} {s : Shared} {z TI TO i1 i2 t1 t2 : Addr} {xs ys : Array Value} {k : Nat}
end
section
variable {X : Cx} {es : List Expr} {x1 : Nat} {tpos : Pos}
end
end L3
set_option Elab.async false
set_option linter.all false
set_option maxRecDepth 100000
set_option maxHeartbeats 4000000
namespace L3
open PySem PySem.Spec PyProof.Rows L2
section
variable {X : Cx}
theorem passE {P : Program} {w : World} {X : Cx} : Passes (CXv P w) X E0 := fun _ _ _ _ _ _ _ h => by
  obtain ⟨_, _, _, _, _, _, _, _, _, _, _, _, _, _, hE⟩ := h
  exact False.elim hE
theorem call_str_any : CallR X (.type "str") (fun xs H Q => (∃ i, xs = [.int i] ∧ i.natAbs.log2 < 1920 ∧ Q (.str (toString i)) H) ∨ ∃ z, xs = [.str z] ∧ Q (.str z) H) := by
  intro pins s σ H xs us Q I r h
  rcases h with ⟨i, rfl, hz, q⟩ | ⟨z, rfl, q⟩
  · obtain ⟨u, rfl, t, rfl⟩ := vals1 r
    exact PySem.P.str_of_int hz ⟨.str _, H, I.tok _, ⟨_, rfl⟩, q⟩
  · obtain ⟨u, rfl, t, rfl⟩ := vals1 r
    exact PySem.P.str_of_str ⟨.str _, H, I, ⟨_, rfl⟩, q⟩
end
end L3
namespace Vm
open PySem PySem.Spec PyProof.Rows L2 L3
section
open PySem.StrLaws Builtin Builtin.Str
theorem kind_pos (x : Str) : 1 ≤ Builtin.Str.strKind x := by
  unfold Builtin.Str.strKind
  split
  · exact Nat.le_refl _
  · split <;> decide
end
theorem comp_grow {α : Type} {J : It} {H : Hp} {as : List α} {v : α → V} {te : TE} {Q : VK} {rest : L2.St} (I : Nat → List V → Hp → Prop) (hs : ∀ i acc H', i ≤ as.length → I i acc H' → Src J H' (as.map v)) (hz : as.length ≤ sizeLine) (h0 : I 0 [] H)
    (hl : ∀ i acc H', I i acc H' → acc.length = i) (he : ∀ i a acc H', as[i]? = some a → I i acc H' → ∀ k : VK, (∀ x H2, I (i + 1) (acc ++ [x]) H2 → k x H2) → te (some (v a) :: rest) H' k)
    (hq : ∀ acc H', I as.length acc H' → ∀ D, H' D = none → Q (.ref D) (upd H' D (.lst acc))) : wComp J (gName 0) tYes te Q (none :: rest) H := by
  refine ⟨fun i m σ acc H' => I i acc H' ∧ i ≤ as.length ∧ m = as.length - i ∧ ∃ o, σ = o :: rest, ⟨as.length, h0, Nat.zero_le _, rfl, none, rfl⟩, ?_⟩
  rintro i m σ acc H' ⟨hI, hi, rfl, o, rfl⟩
  have hacc := hl i acc H' hI
  have S := hs i acc H' hi hI
  by_cases hlt : i < as.length
  · refine .inr ⟨S.go i (by rw [List.length_map]; exact hlt), fun x H1 y => ?_⟩
    obtain ⟨rfl, hx⟩ := S.yld i x H1 (by rw [List.length_map]; exact hlt) y
    rw [List.getElem?_map, List.getElem?_eq_getElem hlt] at hx
    have hx' : v as[i] = x := Option.some.inj hx
    subst hx'
    show te (some (v as[i]) :: rest) H1 _
    exact he i as[i] acc H1 (List.getElem?_eq_getElem hlt) hI _ fun x H2 h2 => ⟨by omega, as.length - (i + 1), by omega, h2, hlt, rfl, _, rfl⟩
  · have ei : i = as.length := by omega
    subst ei
    exact .inl ⟨S.stop _ (by rw [List.length_map]; exact Nat.le_refl _), by omega, hq acc H' hI⟩
end Vm
set_option Elab.async false
set_option linter.all false
set_option maxRecDepth 100000
set_option maxHeartbeats 4000000
namespace L3
open PySem PySem.Spec PyProof.Rows L2
section
variable {X : Cx} {tg : Expr}
end
end L3
set_option Elab.async false
set_option linter.all false
set_option maxRecDepth 100000
set_option maxHeartbeats 4000000
namespace L3
open PySem PySem.Spec PyProof.Rows L2
section
variable {X : Cx}
theorem op_mulB : OpR X (binaryOp .Mult) (rI (fun i j => IntMulOk i j) fun i j => .int (i * j)) := opI fun _ _ _ _ _ _ _ hc q => mul_int q hc
end
end L3
namespace HT
open PySem PySem.Spec PyProof.Rows
section
variable {prog : Program} {w : World} {A : Around} {E : Value → Shared → Prop} {s : Shared}
end
end HT
namespace L3
open PySem PySem.Spec PyProof.Rows L2
section
variable {X : Cx} {e es : Expr} {te ts : TE} {pos p2 : Pos}
end
end L3
namespace L3
open PySem PySem.W PySem.Calls PySem.Spec PyProof.Rows L2
theorem bits_lay {ns : List Int} (h : WData.layableAll [WData.list (ns.map WData.int)] = true) : ∀ m ∈ ns, Builtin.Int.intBits m ≤ 1048576 := fun m hm => by
  have h1 : (WData.list (ns.map WData.int)).layable = true := layableW_arg h _ List.mem_cons_self
  have h2 : (WData.int m).layable = true := layableW_item h1 _ (List.mem_map.mpr ⟨m, hm, rfl⟩)
  exact PyData.bits_of_layable (layable0_of_all (lay0_int h2))
theorem walk_ofB {l : PySem.W.OpenLaw} {n k : Nat} {q : Program} {loose : List Str} {XP : (Str → Option Value) → Heap → Prop} {YP : World → Heap → Prop} {d : DefRec} {K : Params → PySem.W.Frag} {CX : World → CXT} {sp : World → Sp} {x : Str}
    (hn : l.most = some n) (hn2 : n ≤ sizeLine) (hdf : d.params.defaults = []) (hr : Room k callerA) (hY : ∀ (w : World) (h : Heap), YP w h → (K w.params).In h)
    (F : ∀ (w : World) (mg : Str → Option Value) (fa : Addr) (h : Heap), (K w.params).In h → h.Ns mainGlobals mg → mg d.name = some (.ref fa) →
      ∃ fd : FuncData, (∀ (s : Shared) (u : Value), BindsTo s fd ⟨[u], []⟩ [(x, u)]) ∧ ∀ base : Heap, (K w.params).In base → base.Ns mainGlobals mg → FnOk l.prog w (K w.params) mg base (CX w) k fa fd [x] (sp w))
    (hsp : ∀ (w : World) (H : Hp) (a : Addr) (ns : List Int), ns.length ≤ n → (∀ m ∈ ns, Builtin.Int.intBits m ≤ 1048576) → Only H → SqL (K w.params) H a (ns.map V.int) → sp w [.ref a] H (fun v _ => v = .bl true) fun _ _ _ => False)
    (hCX : ∀ (w : World) (H : Hp) (s : Shared) (e : Value) (s' : Shared), CX w [] H s (fun _ _ _ => False) e s' → False) :
    PySem.W.WalkO q loose XP YP l.row.toRowW d [] (fun f vs => PySem.call f vs) := by
  intro w s₀ s₁ mg mb G Y fa o pm cd doc dV kV ho hd hcd hD hmg hg args vals as hpre hlay hrd hwl hlo
  obtain rfl : dV = .none := Dflts.none hD hdf
  obtain rfl : kV = .none := Dflts.noKw hD
  obtain ⟨a, vs, ns, rfl, rfl, hobj, hints, hlen⟩ := Att.script_of hn hpre hwl
  have KX := hY w _ Y
  obtain ⟨fd, hb, hF⟩ := F w mg fa _ KX G.T.g hmg
  refine enter_call (codeAny_mono (law_call KX G.T.g G.T.b G.T.builtins G.T.nolimit hg hobj hints (Nat.le_trans hlen hn2) hr hF hb (fun H hO hS => hsp w H a ns hlen (bits_lay hlay) hO hS) fun H e s' => hCX w H s₁ e s') fun r s' hq => ?_)
  obtain ⟨rfl, h2, h3, h4⟩ := hq
  exact ⟨.inl ⟨.bool true, .bool true, [], rfl, fun _ => rfl, .bool true, Att.post_true l _, fun _ => ⟨List.Pairwise.nil, fun _ hm => (nomatch hm)⟩⟩, h2, h3, h4⟩
end L3
set_option Elab.async false
set_option linter.all false
set_option maxRecDepth 100000
set_option maxHeartbeats 4000000
namespace Vm
open PySem PySem.Spec PyProof.Rows L2 L3
end Vm
set_option Elab.async false
set_option linter.all false
namespace Vm
open PySem PySem.Spec PyProof.Rows L2 L3
end Vm
set_option Elab.async false
set_option linter.all false
set_option maxRecDepth 100000
set_option maxHeartbeats 4000000
namespace L3
open PySem PySem.Spec PyProof.Rows L2
theorem rep_fold (u : Value) : ∀ (k : Nat) (acc : Array Value), List.foldl (fun x1 x2 => x1 ++ x2) acc (List.replicate k #[u]) = acc ++ (List.replicate k u).toArray
  | 0, acc => by simp
  | k + 1, acc => by
    rw [List.replicate_succ, List.foldl_cons, rep_fold u k, List.replicate_succ]
    apply Array.ext'
    simp
section
variable {pg : Program} {wo : World} {Ar : Around} {Ex : Value → Shared → Prop} {st : Shared}
theorem mulL_new {a : Addr} {its : Array Value} {c : Nat} {n : Int} {tk : Tok} {R : Value → Shared → Prop} (ha : st.heap.get? a = some { cls := .type "list", data := .seq its c })
    (h1 : 0 ≤ n) (h2 : n < 2 ^ 40) (h3 : its.size * n.toNat ≤ 2 ^ 24)
    (hR : R (.ref st.heap.objs.size) { st with heap := st.heap.push { cls := .type "list", data := .seq (List.foldl (· ++ ·) #[] (List.replicate (if its.isEmpty = true then 0 else n.toNat) its)) } }) :
    wpAny (model pg wo) Ar (binaryOp .Mult (.ref a) (.int n tk)) R Ex st := by
  have fits : ¬ (!Builtin.List.listFitsIndex n) = true := by
    unfold Builtin.List.listFitsIndex
    simp
    omega
  have short : ¬ Builtin.List.listTooLong (its.size * n.toNat) = true := by
    unfold Builtin.List.listTooLong sizeLine
    simp
    omega
  have isL : st.TypeIs (.ref a) "list" := ⟨_, ha, rfl⟩
  refine wpAny_binaryOp_repeat_ref (by decide : (Value.type "list" == Value.type "int") = false) isL (fun s' => typeIs_int s' n tk) noFill_list_mul F.fills_int_mul F.slot_int_rmul repeat_list F.slot_int_index.lookup ?_
  refine call_meets F.slot_int_rmul (typeIs_int st n tk) F.entry_int_rmul (F.args_int_rmul_2 _ _) (int___rmul___int_list n tk a its c) ?_
  refine ⟨ha, rfl, isL, ?_⟩
  exact call_meets F.slot_list_mul isL F.entry_list_mul (F.args_list_mul_2 _ _) (AutoListH.list___mul___list_int_3 a its c n tk fits (by omega) short) ⟨ha, hR⟩
end
section
variable {X : Cx}
theorem vals_rep {v : V} {u : Value} (r : RelV v u) : ∀ k : Nat, Vals (List.replicate k v) (List.replicate k u)
  | 0 => .nil
  | k + 1 => .cons r (vals_rep r k)
theorem op_mulL : OpR X (binaryOp .Mult) (fun x y H Q => ∃ (a : Addr) (v : V) (n : Nat), x = .ref a ∧ y = .int ((n : Nat) : Int) ∧ H a = some (.lst [v]) ∧ n ≤ 100000 ∧ ∀ p, H p = none → Q (.ref p) (upd H p (.lst (List.replicate n v)))) := by
  intro pins s σ H x y w u Q I rx ry h
  obtain ⟨a, v, n, rfl, rfl, hH, hn, q⟩ := h
  obtain rfl : w = Value.ref a := rx
  obtain ⟨t, rfl⟩ := ry
  obtain ⟨its, k, r, e, z⟩ := I.lst hH
  obtain ⟨u, rfl, ru⟩ := vals1 r
  have hf : H s.heap.objs.size = none := I.hok.fresh (Nat.le_refl _)
  have hx : ((n : Nat) : Int).toNat = n := Int.toNat_natCast n
  have hE : (if (#[u] : Array Value).isEmpty = true then 0 else ((n : Nat) : Int).toNat) = n := by rw [if_neg (by simp), hx]
  refine mulL_new (its := #[u]) e (by omega) (by omega) (by rw [hx]; show 1 * n ≤ 2 ^ 24; omega) ?_
  rw [hE, rep_fold]
  refine ⟨.ref s.heap.objs.size, upd H s.heap.objs.size (.lst (List.replicate n v)), I.laid (t' := s.toks) (fun b u e => Heap.get?_push_of_some _ e) (Nat.le_refl _) ?_, rfl, q _ hf⟩
  refine ⟨by rw [List.length_replicate]; show n ≤ sizeLine; unfold sizeLine; omega, List.replicate n u, 0, vals_rep ru n, ?_⟩
  have : (#[] ++ (List.replicate n u).toArray : Array Value) = (List.replicate n u).toArray := by simp
  rw [this]
  exact Heap.get?_push_size _ rfl
end
end L3
namespace Vm
open PySem PySem.Spec PyProof.Rows L2 L3
theorem ixN_nat {n j : Nat} (h : j < n) : ixN n ((j : Nat) : Int) = some j := by
  unfold ixN
  have h1 : ¬ ((j : Int) < 0) := by omega
  simp [h1, h]
end Vm
set_option Elab.async false
set_option linter.all false
set_option maxRecDepth 100000
namespace L2
open PySem PySem.Spec PyProof.Rows
section
variable {κ : Type} [DecidableEq κ]
def valV (kvs : List (κ × V)) (k : κ) : Option V := (kvs.find? fun kv => decide (kv.1 = k)).map (·.2)
def putK (kvs : List (κ × V)) (k : κ) (v : V) : List (κ × V) :=
  if (kvs.any fun kv => decide (kv.1 = k)) = true then kvs.map (fun kv => if kv.1 = k then (kv.1, v) else kv) else kvs ++ [(k, v)]
theorem valV_pos {p : κ × V} {r : List (κ × V)} {k : κ} (e : p.1 = k) : valV (p :: r) k = some p.2 := by simp [valV, List.find?_cons, e]
theorem valV_neg {p : κ × V} {r : List (κ × V)} {k : κ} (e : ¬ p.1 = k) : valV (p :: r) k = valV r k := by simp [valV, List.find?_cons, e]
theorem valV_any (k : κ) : ∀ kvs : List (κ × V), (kvs.any fun kv => decide (kv.1 = k)) = (valV kvs k).isSome
  | [] => rfl
  | p :: r => by
    rw [List.any_cons]
    by_cases e : p.1 = k
    · simp only [valV_pos e, decide_eq_true e, Bool.true_or, Option.isSome_some]
    · rw [valV_neg e, decide_eq_false e, Bool.false_or]; exact valV_any k r
theorem length_putK (kvs : List (κ × V)) (k : κ) (v : V) : (putK kvs k v).length ≤ kvs.length + 1 := by
  unfold putK
  split
  · rw [List.length_map]; omega
  · rw [List.length_append, List.length_cons, List.length_nil]; omega
theorem putK_new {kvs : List (κ × V)} {k : κ} (v : V) (h : valV kvs k = none) : putK kvs k v = kvs ++ [(k, v)] := by
  unfold putK
  rw [valV_any, h]
  exact if_neg (by decide)
theorem RelO.getD {o : Option V} {u : Option Value} {d : V} {d' : Value} (r : RelO o u) (rd : RelV d d') : RelV (o.getD d) (u.getD d') := by
  cases o with
  | none => cases u with
    | none => exact rd
    | some _ => exact (show False from r).elim
  | some _ => cases u with
    | none => exact (show False from r).elim
    | some _ => exact r
theorem KV.val {kvs : List (κ × V)} {vs : List (κ × Value)} (r : KV kvs vs) (k : κ) : RelO (valV kvs k) (valueAt vs k) := by
  unfold KV at r
  induction r with
  | nil => exact True.intro
  | @cons p q ps qs h t ih =>
    obtain ⟨h1, h2⟩ := h
    by_cases e : p.1 = k
    · have e' : q.1 = k := h1.symm.trans e
      have b : valueAt (q :: qs) k = some q.2 := by simp [valueAt, List.find?_cons, e']
      rw [valV_pos e, b]; exact h2
    · have e' : ¬ q.1 = k := fun z => e (h1.trans z)
      have b : valueAt (q :: qs) k = valueAt qs k := by simp [valueAt, List.find?_cons, e']
      rw [valV_neg e, b]; exact ih
theorem KV.any {kvs : List (κ × V)} {vs : List (κ × Value)} (r : KV kvs vs) (k : κ) : (kvs.any fun kv => decide (kv.1 = k)) = vs.any fun kv => decide (kv.1 = k) := by
  unfold KV at r
  induction r with
  | nil => rfl
  | cons h t ih => rw [List.any_cons, List.any_cons, ih, h.1]
theorem KV.repl {kvs : List (κ × V)} {vs : List (κ × Value)} (r : KV kvs vs) (k : κ) {y : V} {u : Value} (ry : RelV y u) :
    KV (kvs.map fun kv => if kv.1 = k then (kv.1, y) else kv) (vs.map fun kv => if kv.1 = k then (kv.1, u) else kv) := by
  unfold KV at r ⊢
  induction r with
  | nil => exact .nil
  | @cons p q ps qs h t ih =>
    rw [List.map_cons, List.map_cons]
    refine .cons ?_ ih
    obtain ⟨h1, h2⟩ := h
    by_cases e : p.1 = k
    · rw [if_pos e, if_pos (h1.symm.trans e)]; exact ⟨h1, ry⟩
    · rw [if_neg e, if_neg (fun z => e (h1.trans z))]; exact ⟨h1, h2⟩
theorem KV.put {kvs : List (κ × V)} {vs : List (κ × Value)} (r : KV kvs vs) (k : κ) {y : V} {u : Value} (ry : RelV y u) : KV (putK kvs k y) (stored vs k u) := by
  unfold putK stored
  rw [r.any k]
  by_cases e : (vs.any fun kv => decide (kv.1 = k)) = true
  · rw [if_pos e, if_pos e]; exact r.repl k ry
  · rw [if_neg e, if_neg e]; exact Paired.snoc r ⟨rfl, ry⟩
theorem KV.length {kvs : List (κ × V)} {vs : List (κ × Value)} (r : KV kvs vs) : kvs.length = vs.length := Paired.length r
end
section
variable {P : Program} {w : World} {H : Hp} {h : Heap} {a : Addr}
end
section
variable {X : Cx} {pins : List (Addr × Obj)} {σ : St} {H : Hp} {s : Shared} {a : Addr} {y v : V} {u r : Value} {o : Option V} {A : Around} {E : Value → Shared → Prop}
theorem Inv.big (I : Inv X pins σ H s) : sysModules < s.heap.objs.size := by
  have h : mainGlobals < s.heap.objs.size := (I.mod.glob.keeps I.bk).lt
  exact Nat.lt_trans (by decide) h
theorem d_write {h' : Heap} {t' : Nat} {ob : HO} (I : Inv X pins σ H s) (mu : Mut (H a)) (hs : Heap.SameBut a s.heap h') (he : ∃ q, h'.get? a = some q) (new : ObjOk X.prog X.w (upd H a ob) h' a ob) :
    Inv X pins σ (upd H a ob) { s with heap := h', toks := t' } :=
  I.write (x := a) (e := a) mu (.inl rfl) (fun b q hb z => (hs.2 b hb).trans z) he new
end
end L2
set_option Elab.async false
set_option linter.all false
set_option maxRecDepth 100000
set_option maxHeartbeats 4000000
namespace L2
open PySem PySem.Spec PyProof.Rows
def optIs : Option Str → Value → Bool
  | none, .none => true
  | none, _ => false
  | some x, v => keyIs (.inr x) v
theorem optIs_shape {k : Option Str} {v : Value} (h : optIs k v = true) : (k = none ∧ v = .none) ∨ ∃ x t, k = some x ∧ v = .str x t := by
  cases k with
  | none => cases v <;> first | exact .inl ⟨rfl, rfl⟩ | cases h
  | some x =>
    rcases keyIs_shape (show keyIs (.inr x) v = true from h) with ⟨i, t, e, _⟩ | ⟨y, t, e, rfl⟩
    · cases e
    · cases e; exact .inr ⟨x, t, rfl, rfl⟩
theorem eqBool_nones {prog : Program} {w : World} {A : Around} {E : Value → Shared → Prop} {s : Shared} {Q : Bool → Shared → Prop} (h : Q true s) : wpAny (model prog w) A (PySem.eqBool .none .none) Q E s := by
  unfold PySem.eqBool
  refine wpAny_holding ?_
  rw [if_pos (by rfl)]
  exact wpAny_bind (wpAny_rule (wpAny_pure h))
def optH (w : World) : Option Str → Int
  | none => PySem.W.hashW w.params .none
  | some x => keyH w (.inr x)
def optKind (prog : Program) (w : World) : PySem.KeyKind prog w (Option Str) where
  is := optIs
  hash := optH w
  inj := fun v a b ha hb => by
    rcases optIs_shape ha with ⟨rfl, rfl⟩ | ⟨x, t, rfl, rfl⟩
    · rcases optIs_shape hb with ⟨rfl, e⟩ | ⟨y, u, rfl, e⟩
      · rfl
      · exact nomatch e
    · rcases optIs_shape hb with ⟨rfl, e⟩ | ⟨y, u, rfl, e⟩
      · exact nomatch e
      · injection e with e1 _; rw [e1]
  byValue := fun k v h => by
    rcases optIs_shape h with ⟨rfl, rfl⟩ | ⟨x, t, rfl, rfl⟩ <;> rfl
  pyHash := fun hv h => by
    rcases optIs_shape hv with ⟨rfl, rfl⟩ | ⟨x, t, rfl, rfl⟩
    · exact PySem.W.pyHash_slot (T := "NoneType") rfl F.slot_NoneType_hash F.entry_NoneType_hash (F.args_NoneType_hash_1 _) (beq_builtin_none _) (.inl rfl) (wpAny_bind (wpAny_pure (wpAny_bind (wpAny_mkInt (wpAny_pure ⟨_, _, rfl, h⟩)))))
    · exact wpAny_pyHash_str h
  eqBool := fun hu hv h => by
    rcases optIs_shape hu with ⟨rfl, rfl⟩ | ⟨x, t, rfl, rfl⟩
    · rcases optIs_shape hv with ⟨rfl, rfl⟩ | ⟨y, u, rfl, rfl⟩
      · rw [decide_eq_true rfl] at h
        exact eqBool_nones h
      · rw [decide_eq_false (fun q => nomatch q)] at h; exact SeqAt.EqAt.none_str y u _ _ _ _ h
    · rcases optIs_shape hv with ⟨rfl, rfl⟩ | ⟨y, u, rfl, rfl⟩
      · rw [decide_eq_false (fun q => nomatch q)] at h; exact SeqAt.EqAt.str_none x t _ _ _ _ h
      · rw [show decide ((some x : Option Str) = some y) = decide (x = y) by
          by_cases e : x = y
          · subst e; simp
          · rw [decide_eq_false e, decide_eq_false (fun q => e (Option.some.inj q))]] at h
        exact wpAny_eqBool_str h
  «strs» := fun k x t v h => by
    rcases optIs_shape h with ⟨rfl, e⟩ | ⟨y, u, rfl, e⟩
    · exact nomatch e
    · injection e with e1 _
      subst e1
      cases v <;> rfl
def optV : Option Str → V
  | none => .non
  | some x => .str x
theorem optV_is {P : Program} {w : World} {k : Option Str} {u : Value} (r : RelV (optV k) u) : (optKind P w).is k u = true := by
  cases k with
  | none => cases (show u = Value.none from r); rfl
  | some x =>
    obtain ⟨t, rfl⟩ := (show ∃ t, u = Value.str x t from r)
    exact keyIs_str x t
def DN (P : Program) (w : World) (a : Addr) (kvs : List (Option Str × V)) : HO := .ext fun h => kvs.length ≤ sizeLine ∧ (a == sysModules) = false ∧ ∃ vs, KV kvs vs ∧ h.DictOf (optKind P w) a vs
def ViewO (v d : Addr) : HO := .ext fun h => h.get? v = some { cls := .type "dict_items", data := .fields #[.ref d] }
section
variable {X : Cx} {pins : List (Addr × Obj)} {σ : St} {H : Hp} {s : Shared} {a : Addr} {kvs : List (Option Str × V)}
theorem dn_ok {P : Program} {w : World} {h : Heap} {vs : List (Option Str × Value)} (hl : kvs.length ≤ sizeLine) (hd : (a == sysModules) = false) (rel : KV kvs vs) (dd : h.DictOf (optKind P w) a vs) : ObjOk P w H h a (DN P w a kvs) := by
  obtain ⟨o, es, ep, ho, r⟩ := id dd
  refine ⟨⟨hl, hd, vs, rel, dd⟩, ⟨o, ho⟩, fun h1 h2 x k => ?_⟩
  obtain ⟨z1, z2, ws, z3, o', es', ep', ho', r'⟩ := x
  exact ⟨z1, z2, ws, z3, o', es', ep', k _ ho', r'⟩
theorem dn_of (I : Inv X pins σ H s) (e : H a = some (DN X.prog X.w a kvs)) : kvs.length ≤ sizeLine ∧ (a == sysModules) = false ∧ ∃ vs, KV kvs vs ∧ s.heap.DictOf (optKind X.prog X.w) a vs := (I.hok a _ e).1
theorem dn_type (I : Inv X pins σ H s) (e : H a = some (DN X.prog X.w a kvs)) : s.TypeIs (.ref a) "dict" ∧ ∀ b, Value.ref a = .ref b → ∃ ob, s.heap.get? b = some ob ∧ ob.dict = none := by
  obtain ⟨_, _, vs, _, dd⟩ := dn_of I e
  refine ⟨dd.typeIs, fun b q => ?_⟩
  cases q
  obtain ⟨ob, _, _, h1, h2, _⟩ := dd
  exact ⟨ob, h1, h2.2.1⟩
end
def tDNewN (P : Program) (w : World) : TE := fun _ H Q => ∀ p, H p = none → Q (.ref p) (upd H p (DN P w p []))
theorem pe_dnewN {X : Cx} {pos : Pos} : PE X (.Dict [] [] pos) (tDNewN X.prog X.w) := fun pins s σ H Q I h =>
  wpAny_Dict_empty ⟨.ref s.heap.objs.size, _, I.laid (a := s.heap.objs.size) (o := DN X.prog X.w s.heap.objs.size []) (t' := s.toks) (fun _ _ q => Heap.get?_push_of_some _ q) (Nat.le_refl _) (dn_ok (Nat.zero_le _) (beq_eq_false_iff_ne.mpr (Ne.symm (Nat.ne_of_lt I.big))) .nil (Heap.DictOf.new s.heap)), rfl, h _ (I.hok.fresh (Nat.le_refl _))⟩
section
variable {X : Cx} {o e : Expr} {es : List Expr} {to : TE} {t : TA} {name : Str} {apos cpos : Pos} {id : String} {r : V → List V → Hp → VK → Prop}
def tBMN (P : Program) (w : World) (r : V → List V → Hp → VK → Prop) (to : TE) (t : TA) : TE := fun σ H Q => to σ H fun x H1 => ∃ a kvs, x = .ref a ∧ H1 a = some (DN P w a kvs) ∧ t σ H1 fun xs H2 => r x xs H2 Q
def tBMN0 (P : Program) (w : World) (r : V → List V → Hp → VK → Prop) (to : TE) : TE := fun σ H Q => to σ H fun x H1 => ∃ a kvs, x = .ref a ∧ H1 a = some (DN P w a kvs) ∧ r x [] H1 Q
theorem pe_bmN0 (slot : Slot "dict" name id) (hty : typeOf (.builtin id) = pure (.type "method_descriptor")) (hm : MtM X id r) (ho : PE X o to)
    (hbase : attributeBase o name X.env (eval o X.env) = eval o X.env := by rfl) (hline : (apos.endLine == cpos.line) = true := by rfl) : PE X (.Call (.Attribute o name apos) [] [] cpos) (tBMN0 X.prog X.w r to) := by
  intro pins s σ H Q I h
  refine wpAny_Call_method0_late hbase hline (thn (ho pins s σ H _ I h) fun v s1 ⟨x, H1, I1, r1, a, kvs, ex, hd, q1⟩ => ?_)
  subst ex
  cases r1
  obtain ⟨h1, h2⟩ := dn_type I1 hd
  exact ⟨"dict", id, F.plainAttrs_dict, slot, hty, h1, h2, Calls.callWith_builtin rfl (PySem.evalArgs_none (hm pins s1 σ H1 (.ref a) [] _ [] Q I1 rfl .nil q1))⟩
theorem pe_bmN (slot : Slot "dict" name id) (hty : typeOf (.builtin id) = pure (.type "method_descriptor")) (hm : MtM X id r) (ho : PE X o to) (ha : PA X (e :: es) t)
    (hbase : attributeBase o name X.env (eval o X.env) = eval o X.env := by rfl)
    (hfew : ((backTo cpos (starEach (e :: es) X.env)).all (fun x => !x.1) && (backToKw cpos (keywordEach [] X.env)).all (fun x => x.1.isSome)
      && decide ((e :: es).length + ([] : List Keyword).length + (if ([] : List Keyword).isEmpty then 0 else 1) < 30)) = true := by rfl)
    (hline : (apos.endLine == cpos.line) = true := by rfl) (hs : starEach (e :: es) X.env = (false, eval e X.env) :: starEach es X.env := by rfl) (hplain : (backTo cpos (starEach es X.env)).any (·.1) = false := by rfl) :
    PE X (.Call (.Attribute o name apos) (e :: es) [] cpos) (tBMN X.prog X.w r to t) := by
  intro pins s σ H Q I h
  refine wpAny_Call_method_late hbase hfew hline rfl (thn (ho pins s σ H _ I h) fun v s1 ⟨x, H1, I1, r1, a, kvs, ex, hd, q1⟩ => ?_)
  subst ex
  cases r1
  obtain ⟨h1, h2⟩ := dn_type I1 hd
  refine ⟨"dict", id, F.plainAttrs_dict, slot, hty, h1, h2, ?_⟩
  have hA := ha cpos pins s1 σ H1 _ I1 q1
  rw [hs] at hA ⊢
  refine Calls.callWith_builtin (by show (false || (backTo cpos (starEach es X.env)).any (·.1)) = false; rw [hplain] <;> rfl) (Calls.evalArgs_plain ?_)
  exact thn hA fun us s2 ⟨vs, H2, I2, r2, q2⟩ => hm pins s2 σ H2 (.ref a) vs _ us Q I2 rfl r2 q2
end
section
variable {X : Cx}
def rDGetN (P : Program) (w : World) : V → List V → Hp → VK → Prop := fun x vs H Q => ∃ a kvs k y, x = .ref a ∧ vs = [optV k, y] ∧ H a = some (DN P w a kvs) ∧ Q ((valV kvs k).getD y) H
theorem mt_dgetN : MtM X "dict.get" (rDGetN X.prog X.w) := by
  intro pins s σ H x vs v us Q I rx rv h
  obtain ⟨a, kvs, k, y, rfl, rfl, e, q⟩ := h
  cases rx
  obtain ⟨u1, u2, rfl, r1, r2⟩ := vals2 rv
  obtain ⟨z, hd, ws, rel, dd⟩ := dn_of I e
  exact call_meetsIn PySem.F.slot_dict_get dd.typeIs PySem.F.entry_dict_get (PySem.F.args_dict_get_3 _ _ _) (meets_dict_get_default (optKind X.prog X.w) a (optV_is r1) hd u2) ⟨_, dd.mapOf, _, H, I.tok _, (rel.val k).getD r2, q⟩
def rSetN (P : Program) (w : World) : V → V → V → Hp → (Hp → Prop) → Prop := fun o i v H Q => ∃ a kvs k, o = .ref a ∧ i = optV k ∧ H a = some (DN P w a kvs) ∧ kvs.length < sizeLine ∧ Q (upd H a (DN P w a (putK kvs k v)))
theorem set_dictN : PSet X (rSetN X.prog X.w) := by
  intro pins s σ H o i v ov iv u Q I ro ri rv h
  obtain ⟨a, kvs, k, rfl, rfl, e, l, q⟩ := h
  cases ro
  obtain ⟨z, hd, vs, rel, dd⟩ := dn_of I e
  have hz : vs.length ≤ sizeLine := by rw [← rel.length]; exact z
  have hl : (putK kvs k v).length ≤ sizeLine := by have := length_putK kvs k v; omega
  refine wpAny_setItem_pairs (hsz := hz) (optV_is ri) dd fun h' dd' hs => ⟨_, ?_, q⟩
  have he : ∃ q, h'.get? a = some q := let ⟨q, _, _, hq, _⟩ := dd'; ⟨q, hq⟩
  exact d_write I (by rw [e]; exact True.intro) hs he (dn_ok hl hd (rel.put k rv) dd')
def rItemsN (P : Program) (w : World) : V → List V → Hp → VK → Prop := fun x vs H Q => ∃ a kvs, x = .ref a ∧ vs = [] ∧ H a = some (DN P w a kvs) ∧ ∀ v, H v = none → Q (.ref v) (upd H v (ViewO v a))
theorem mt_itemsN : MtM X "dict.items" (rItemsN X.prog X.w) := by
  intro pins s σ H x vs v us Q I rx rv h
  obtain ⟨a, kvs, rfl, rfl, e, q⟩ := h
  cases rx
  cases rv
  obtain ⟨z, hd, ws, rel, dd⟩ := dn_of I e
  refine call_meetsIn PySem.F.slot_dict_items dd.typeIs PySem.F.entry_dict_items (PySem.F.args_dict_items_1 _) (meets_dict_items (optKind X.prog X.w) a hd) ⟨⟨_, dd⟩, .ref s.heap.objs.size, _, I.laid (a := s.heap.objs.size) (o := ViewO s.heap.objs.size a) (t' := s.toks) (fun _ _ q => Heap.get?_push_of_some _ q) (Nat.le_refl _) ?_, rfl, q _ (I.hok.fresh (Nat.le_refl _))⟩
  exact ⟨Heap.get?_push_size _ rfl, ⟨_, Heap.get?_push_size _ rfl⟩, fun h1 h2 x k => k _ x⟩
end
end L2
set_option Elab.async false
set_option linter.all false
set_option maxRecDepth 100000
set_option maxHeartbeats 4000000
namespace PySem
open AutoSeq1 (wpAny_loadPart')
open PySem.W (KdxG kdx_collect)
theorem tuple_of_items {prog : Program} {w : World} {K : Type} [DecidableEq K] {knd : KeyKind prog w K} {r d : Addr} {kvs : List (K × Value)} {ep : Nat} (hn : kvs.length ≤ sizeLine) :
    MeetsIn prog w (Builtin.«tuple.__new__» ⟨[.type "tuple", .ref r], []⟩)
      (fun A R s => A.handled = none ∧ s.heap.IsItemsView r d ∧ s.heap.DictAt knd d kvs ep ∧ ∀ (h' : Heap) (tk : Nat) (as : List Addr), (∀ b o, s.heap.get? b = some o → h'.get? b = some o) → as.length = kvs.length → KdxG knd kvs s.heap.objs.size h' as →
        R (.ok (.ret (.ref h'.objs.size))) { s with heap := h'.push { cls := .type "tuple", data := .seq (as.map Value.ref).toArray }, toks := tk }) :=
  .of_wp fun A R s h => by
    obtain ⟨hh, hv, hm, h⟩ := h
    have hsub := sub_tuple_self
    have hinit := init_tuple_lookup
    have hmh := madeHere_tuple
    obtain ⟨o, ho, hc, hd⟩ := id hv
    have hT : s.TypeIs (.ref r) "dict_items" := ⟨o, ho, hc⟩
    have hh1 : A.in1.handled = none := hh
    wp_walk using wpAny_loadPart' ho, wpAny_typeOf hT, kdx_collect (knd := knd) (kvs := kvs) (ep := ep) (d := d) hh1 hv hm hn
    intro h' tk as hk hl hG
    show wpAny _ _ (Builtin.Tuple.tupleExact (as.map Value.ref).toArray >>= fun v => ret v) _ _ _
    unfold Builtin.Tuple.tupleExact
    refine wpAny_bind (wpAny_newObj_type ?_ (show (as.map Value.ref).toArray.size ≤ sizeLine by rw [List.size_toArray, List.length_map, hl]; exact hn))
    exact wpAny_pure ⟨_, rfl, h h' tk as hk hl hG⟩
theorem call_tuple_items {prog : Program} {w : World} {K : Type} [DecidableEq K] {knd : KeyKind prog w K} {A : Around} {E : Value → Shared → Prop} {s : Shared} {r d : Addr} {kvs : List (K × Value)} {ep : Nat} {Q : Value → Shared → Prop} (hh : A.handled = none) (hv : s.heap.IsItemsView r d) (hm : s.heap.DictAt knd d kvs ep) (hn : kvs.length ≤ sizeLine)
    (h : ∀ (h' : Heap) (tk : Nat) (as : List Addr), (∀ b o, s.heap.get? b = some o → h'.get? b = some o) → as.length = kvs.length → KdxG knd kvs s.heap.objs.size h' as →
        Q (.ref h'.objs.size) { s with heap := h'.push { cls := .type "tuple", data := .seq (as.map Value.ref).toArray }, toks := tk }) : wpAny (model prog w) A (call (.type "tuple") [.ref r]) Q E s :=
  callType_newIn F.called_tuple (by decide) (F.typeCall_tuple_1 _) (F.newCall_tuple_1 _) (fun obj => F.args_object_init_2 obj _) F.entry_tuple_new
    (tuple_of_items (knd := knd) (ep := ep) (d := d) hn) ⟨hh, hv, hm, fun h' tk as hk hl hG => ⟨⟨_, Heap.get?_push_size _ rfl, rfl⟩, h h' tk as hk hl hG⟩⟩
end PySem
namespace L2
open PySem PySem.Spec PyProof.Rows
def updAll (H : Hp) (os : List (Addr × HO)) : Hp := fun b => match os.find? (fun p => p.1 == b) with | some p => some p.2 | none => H b
theorem updAll_in {H : Hp} {os : List (Addr × HO)} {b : Addr} {p : Addr × HO} (e : os.find? (fun p => p.1 == b) = some p) : updAll H os b = some p.2 := by unfold updAll; rw [e]
theorem updAll_out {H : Hp} {os : List (Addr × HO)} {b : Addr} (h : ∀ p ∈ os, p.1 ≠ b) : updAll H os b = H b := by
  unfold updAll
  rw [List.find?_eq_none.mpr fun p hp => by rw [beq_iff_eq]; exact h p hp]
theorem updAll_mem {H : Hp} {os : List (Addr × HO)} {p : Addr × HO} (hn : (os.map (·.1)).Nodup) (h : p ∈ os) : updAll H os p.1 = some p.2 := by
  induction os with
  | nil => cases h
  | cons q r ih =>
    unfold updAll
    rw [List.map_cons, List.nodup_cons] at hn
    rcases List.mem_cons.mp h with rfl | h
    · rw [List.find?_cons_of_pos (by simp)]
    · rw [List.find?_cons_of_neg (by
        rw [beq_iff_eq]
        intro e
        exact hn.1 (e ▸ List.mem_map.mpr ⟨p, h, rfl⟩))]
      exact ih hn.2 h
section
variable {X : Cx} {pins : List (Addr × Obj)} {σ : St} {H : Hp} {s : Shared}
theorem Inv.lays {h' : Heap} {t' : Nat} (I : Inv X pins σ H s) (k : ∀ b u, s.heap.get? b = some u → h'.get? b = some u) (os : List (Addr × HO)) (hp : ∀ p ∈ os, s.heap.objs.size ≤ p.1) (new : ∀ p ∈ os, ∀ H2, ObjOk X.prog X.w H2 h' p.1 p.2) : Inv X pins σ (updAll H os) { s with heap := h', toks := t' } := by
  have old : ∀ b, b < s.heap.objs.size → updAll H os b = H b := fun b hb => updAll_out fun p hp' e => absurd (e ▸ hp p hp') (Nat.not_le_of_lt hb)
  have oldH : ∀ b u, H b = some u → updAll H os b = H b := fun b u e => old b (I.hok b u e).lt
  refine I.un ⟨fun b u q _ _ _ => k b u q, fun b u q _ _ _ => ⟨u.slots, k b u q⟩, fun b u q n _ => by rw [old b (Heap.lt_size q)]; exact n, fun b u q _ => ⟨u, k b u q⟩, fun b xs q => by rw [oldH b _ q]; exact q, fun b u xs q => by rw [oldH b _ q]; exact q, fun b ps q => ⟨#[], by rw [oldH b _ q, q]; simp⟩⟩ ?_
  intro b u e
  cases ef : os.find? (fun p => p.1 == b) with
  | some p =>
    rw [updAll_in ef] at e
    cases e
    have h1 := List.mem_of_find?_eq_some ef
    have h2 := List.find?_some ef
    rw [beq_iff_eq] at h2
    subst h2
    exact new p h1 _
  | none =>
    have e2 : H b = some u := by unfold updAll at e; rw [ef] at e; exact e
    exact (I.hok b u e2).stay (fun c v _ q => k c v q) (fun c q => by rw [oldH c _ q]; exact q) fun c xs q => by rw [oldH c _ q]; exact q
end
structure PairsAt (H : Hp) (as : List Addr) (kvs : List (Option Str × V)) : Prop where
  len : as.length = kvs.length
  item : ∀ (i : Nat) (a : Addr) (k : Option Str) (v : V), as[i]? = some a → kvs[i]? = some (k, v) → H a = some (.tup [optV k, v])
theorem optV_rel {P : Program} {w : World} {k : Option Str} {u : Value} (h : (optKind P w).is k u = true) : RelV (optV k) u := by
  rcases optIs_shape (show optIs k u = true from h) with ⟨rfl, rfl⟩ | ⟨x, t, rfl, rfl⟩
  · rfl
  · exact ⟨t, rfl⟩
theorem vals_refs : ∀ as : List Addr, Vals (as.map V.ref) (as.map Value.ref)
  | [] => .nil
  | a :: r => .cons rfl (vals_refs r)
theorem Paired.at {α β : Type} {F : α → β → Prop} : ∀ {xs : List α} {ys : List β} {i : Nat} {x : α}, Paired F xs ys → xs[i]? = some x → ∃ y, ys[i]? = some y ∧ F x y
  | _, _, _, _, .nil, e => by simp at e
  | _, _, 0, _, .cons r _, e => by simp at e; subst e; exact ⟨_, rfl, r⟩
  | _, _, i + 1, x, .cons _ t, e => by
    obtain ⟨u, h1, h2⟩ := Paired.at (i := i) (x := x) t (by simpa using e)
    exact ⟨u, by simpa using h1, h2⟩
theorem call_tuple_view {X : Cx} (hc : X.calm = true) : CallR X (.type "tuple") (fun xs H Q => ∃ v a kvs, xs = [.ref v] ∧ H v = some (ViewO v a) ∧ H a = some (DN X.prog X.w a kvs) ∧
    ∀ (H' : Hp) (t : Addr) (as : List Addr), (∀ b o, H b = some o → H' b = some o) → H t = none → H' t = some (.tup (as.map V.ref)) → PairsAt H' as kvs → Q (.ref t) H') := by
  intro pins s σ H xs us Q I r h
  obtain ⟨v, a, kvs, rfl, hv, ha, q⟩ := h
  obtain ⟨u, rfl, rx⟩ := vals1 r
  cases rx
  obtain ⟨z, hd, ws, rel, dd⟩ := dn_of I ha
  obtain ⟨o, es, ep, ho, rr⟩ := dd
  have hview : s.heap.IsItemsView v a := ⟨_, (I.hok v _ hv).1, rfl, rfl⟩
  have hz : ws.length ≤ sizeLine := by rw [← rel.length]; exact z
  refine call_tuple_items (knd := optKind X.prog X.w) (kvs := ws) (ep := ep) (d := a) (I.ok.hd hc) hview ⟨o, es, ho, rr⟩ hz fun h' tk as hk hl hG => ?_
  have hlk : as.length = kvs.length := by rw [hl, rel.length]
  have enames : (((as.zip kvs).map fun p => (p.1, HO.tup [optV p.2.1, p.2.2])).map fun q => q.1) = as := by
    rw [List.map_map]
    exact List.map_fst_zip (Nat.le_of_eq hlk)
  have hnd : (((as.zip kvs).map fun p => (p.1, HO.tup [optV p.2.1, p.2.2])).map fun q => q.1).Nodup := by
    rw [enames]
    exact hG.rise.imp fun h => Nat.ne_of_lt h
  have I1 := I.lays (h' := h') (t' := tk) hk ((as.zip kvs).map fun p => (p.1, HO.tup [optV p.2.1, p.2.2])) (fun p hp => by
      have h1 : p.1 ∈ as := by rw [← enames]; exact List.mem_map.mpr ⟨p, hp, rfl⟩
      exact Nat.le_of_lt (hG.above _ h1)) (fun p hp H2 => by
      obtain ⟨x, hx, rfl⟩ := List.mem_map.mp hp
      obtain ⟨j, hj⟩ := List.mem_iff_getElem?.mp hx
      obtain ⟨h1, h2⟩ := List.getElem?_zip_eq_some.mp hj
      obtain ⟨key, k', x', e1, e2, e3⟩ := hG.pairs j _ h1
      obtain ⟨y, ey, r1, r2⟩ := Paired.at rel h2
      rw [e1] at ey
      cases ey
      refine ⟨by show 2 ≤ sizeLine; rw [sizeLine_eq]; omega, [key, x'], .cons ?_ (.cons r2 .nil), _, e3, rfl, 0, rfl⟩
      have r1 : x.2.1 = k' := r1
      rw [r1]
      exact optV_rel e2)
  have I2 : Inv X pins σ (upd (updAll H ((as.zip kvs).map fun p => (p.1, HO.tup [optV p.2.1, p.2.2]))) h'.objs.size (.tup (as.map V.ref))) { s with heap := h'.push { cls := .type "tuple", data := .seq (as.map Value.ref).toArray }, toks := tk } :=
    I1.laid (t' := tk) (fun b o e => Heap.get?_push_of_some _ e) (Nat.le_refl _) (show ObjOk X.prog X.w _ _ _ (.tup (as.map V.ref)) from ⟨by rw [List.length_map, hlk]; exact z, as.map Value.ref, vals_refs as, IsTup.new _ _⟩)
  have hfr := I1.hok.fresh (Nat.le_refl _)
  have keepsAll : ∀ b o, H b = some o → updAll H ((as.zip kvs).map fun p => (p.1, HO.tup [optV p.2.1, p.2.2])) b = some o := fun b o e => by
    rw [updAll_out fun p hp e2 => ?_]
    · exact e
    · have h1 : p.1 ∈ as := by rw [← enames]; exact List.mem_map.mpr ⟨p, hp, rfl⟩
      exact absurd (e2 ▸ hG.above _ h1) (Nat.not_lt_of_lt (I.hok b o e).lt)
  have nt : ∀ b o, updAll H ((as.zip kvs).map fun p => (p.1, HO.tup [optV p.2.1, p.2.2])) b = some o → b ≠ h'.objs.size := fun b o e e2 => by rw [e2, hfr] at e; cases e
  refine ⟨.ref h'.objs.size, _, I2, rfl, q _ _ as (fun b o e => by rw [upd_ne (nt b o (keepsAll b o e))]; exact keepsAll b o e) ?_ upd_same ⟨hlk, fun i c k y e1 e2 => ?_⟩⟩
  · cases e : H h'.objs.size with
    | none => rfl
    | some o => exact absurd rfl (nt _ o (keepsAll _ o e))
  · have hm := updAll_mem (H := H) hnd (p := (c, HO.tup [optV k, y])) (List.mem_map.mpr ⟨(c, k, y), List.mem_of_getElem? (List.getElem?_zip_eq_some.mpr ⟨e1, e2⟩), rfl⟩)
    rw [upd_ne (nt c _ hm)]
    exact hm
end L2
set_option Elab.async false
set_option linter.all false
set_option maxRecDepth 100000
set_option maxHeartbeats 4000000
namespace L3
open PySem PySem.Spec PyProof.Rows L2
section
variable {prog : Program} {w : World} {A : Around} {E : Value → Shared → Prop} {s : Shared} {z c t : Addr} {xs : Array Value} {S : Nat → Heap → Prop} {k : Nat}
end
section
variable {X : Cx} {es : List Expr} {x1 : Nat} {tpos : Pos}
end
end L3
set_option Elab.async false
set_option linter.all false
set_option maxRecDepth 100000
set_option maxHeartbeats 4000000
namespace Vm
open PySem PySem.Spec PyProof.Rows L2 L3
theorem tjoin (sep : Str) (ws : List Str) : Txt.join sep ws = Str.join sep ws := by
  show Builtin.Str.glued sep ws = _
  exact StrLaws.glued_eq_join ..
theorem join_len (sep : Str) : ∀ ws : List Str, (Str.join sep ws).length ≤ (ws.map (·.length)).sum + ws.length * sep.length
  | [] => Nat.zero_le _
  | [z] => by
    show z.length ≤ _
    simp
  | z :: y :: r => by
    have ih := join_len sep (y :: r)
    show (z ++ sep ++ Str.join sep (y :: r)).length ≤ _
    rw [app_len, app_len, List.map_cons, List.sum_cons, List.length_cons, Nat.succ_mul]
    omega
theorem sum_le {ws : List Str} {b : Nat} (h : ∀ z ∈ ws, z.length ≤ b) : (ws.map (·.length)).sum ≤ ws.length * b := by
  induction ws with
  | nil => simp
  | cons z r ih =>
    have := ih fun y hy => h y (List.mem_cons_of_mem _ hy)
    have := h z (List.mem_cons_self ..)
    rw [List.map_cons, List.sum_cons, List.length_cons, Nat.succ_mul]
    omega
theorem join_le {sep : Str} {ws : List Str} {b : Nat} (h : ∀ z ∈ ws, z.length ≤ b) : (Str.join sep ws).length ≤ ws.length * b + ws.length * sep.length := by
  have := join_len sep ws
  have := sum_le h
  omega
theorem numS_le {m k : Nat} (h : m < 10 ^ (k + 1)) : (numS ((m : Nat) : Int)).length ≤ k + 1 := by
  rw [← clen, numS_list, List.length_map]
  exact digits_le k m h
def Ent (v : V) : Prop := v = .non ∨ ∃ z, Good z ∧ v = .str z
def entS : V → Str
  | .str z => z
  | _ => Str.ofString "-"
theorem ent_len {v : V} (h : Ent v) : (entS v).length ≤ 12 := by
  rcases h with rfl | ⟨z, hz, rfl⟩
  · show (Str.ofString "-").length ≤ 12; decide +kernel
  · exact hz.hi
theorem ent_flat {v : V} (h : Ent v) : flatV v = true := by
  rcases h with rfl | ⟨z, hz, rfl⟩ <;> rfl
theorem ent_scal {v u : V} (h : Ent v) (h2 : Ent u) : scal v u = true := by
  rcases h with rfl | ⟨z, hz, rfl⟩ <;> rcases h2 with rfl | ⟨y, hy, rfl⟩ <;> rfl
abbrev Rdg := V × List Nat
def natV (n : Nat) : V := .int ((n : Nat) : Int)
def rdgS (x : Rdg) : Str := entS x.1 ++ Str.ofString " " ++ Str.join (Str.ofString ",") (x.2.map fun n => numS ((n : Nat) : Int))
def RdgOk (x : Rdg) : Prop := Ent x.1 ∧ x.2.length ≤ 30 ∧ ∀ n ∈ x.2, n < 30
def RdgAt (H : Hp) (t : Addr) (x : Rdg) : Prop := RdgOk x ∧ ∃ r, H t = some (.tup [x.1, .ref r]) ∧ H r = some (.tup (x.2.map natV))
theorem rows_len {x : Rdg} (h : RdgOk x) : (Str.join (Str.ofString ",") (x.2.map fun n => numS ((n : Nat) : Int))).length ≤ 100 := by
  have h1 := join_le (sep := Str.ofString ",") (ws := x.2.map fun n => numS ((n : Nat) : Int)) (b := 2) fun z hz => by
    obtain ⟨n, hn, rfl⟩ := List.mem_map.mp hz
    exact numS_le (k := 1) (by have := h.2.2 n hn; omega)
  have h2 : (Str.ofString ",").length = 1 := by decide +kernel
  rw [h2, List.length_map] at h1
  have := h.2.1
  omega
theorem rdg_len {x : Rdg} (h : RdgOk x) : (rdgS x).length ≤ 113 := by
  have h1 := rows_len h
  have h2 : (Str.ofString " ").length = 1 := by decide +kernel
  have h3 := ent_len h.1
  unfold rdgS
  rw [app_len, app_len, h2]
  omega
abbrev Note := Nat × List (Addr × Rdg)
def noteS (x : Note) : Str := numS ((x.1 : Nat) : Int) ++ Str.ofString ": " ++ Str.join (Str.ofString "; ") (x.2.map fun y => rdgS y.2)
theorem rdgs_len {xs : List (Addr × Rdg)} (h : ∀ y ∈ xs, RdgOk y.2) (hn : xs.length ≤ 30) : (Str.join (Str.ofString "; ") (xs.map fun y => rdgS y.2)).length ≤ 3450 := by
  have h1 := join_le (sep := Str.ofString "; ") (ws := xs.map fun y => rdgS y.2) (b := 113) fun z hz => by
    obtain ⟨y, hy, rfl⟩ := List.mem_map.mp hz
    exact rdg_len (h y hy)
  have h2 : (Str.ofString "; ").length = 2 := by decide +kernel
  rw [h2, List.length_map] at h1
  omega
def headS (es : List V) : Str := Str.join (Str.ofString " | ") (es.map entS)
end Vm
set_option Elab.async false
set_option linter.all false
set_option maxRecDepth 100000
set_option maxHeartbeats 4000000
namespace Vm
open PySem PySem.Spec PyProof.Rows L2 L3
section
variable {X : Cx}
end
end Vm
set_option Elab.async false
set_option linter.all false
set_option maxRecDepth 100000
set_option maxHeartbeats 4000000
namespace L3
open PySem PySem.Spec PyProof.Rows L2
theorem op_catH {X : Cx} : OpR X (binaryOp .Add) (fun x y H Q => ∃ (a b : Addr) (xs ys : List V), x = .ref a ∧ y = .ref b ∧ H a = some (.tup xs) ∧ H b = some (.tup ys) ∧ xs.length + ys.length ≤ sizeLine ∧ ∀ (r : Addr) (H2 : Hp), Same H H2 → H2 r = some (.tup (xs ++ ys)) → Q (.ref r) H2) := by
  intro pins s σ H x y v u Q I rx ry h
  obtain ⟨a, b, xs, ys, rfl, rfl, ha0, hb0, hz, q⟩ := h
  have ha : SqT X.K H a xs := SqT.of ha0
  have hb : SqT X.K H b ys := SqT.of hb0
  by_cases hx : xs = []
  · cases rx; cases ry
    obtain ⟨its, r1, p1, _⟩ := I.tuple ha
    obtain ⟨its2, r2, p2, _⟩ := I.tuple hb
    have hv : its = [] := r1.nil_iff.mpr hx
    obtain ⟨⟨c1, dd1, data1, sl1⟩, o1, hc1, n1, hd1⟩ := id p1
    obtain ⟨⟨c2, dd2, data2, sl2⟩, o2, hc2, n2, hd2⟩ := id p2
    simp only at hc1 hd1 hc2 hd2
    subst hc1 hd1 hc2 hd2
    exact concat_meets ⟨_, o1, rfl⟩ ⟨_, o2, rfl⟩ noFill_tuple_add seq_tuple_add PySem.F.slot_tuple_add PySem.F.entry_tuple_add (PySem.F.args_tuple_add_2 _ _) (tuple_addW0 a b its.toArray its2.toArray n1 n2 dd1 dd2 sl1 sl2 (by simp [hv])) ⟨o1, o2, ⟨.ref b, H, I, rfl, q b H (Same.refl H) (by rw [hx]; exact hb0)⟩⟩
  · exact op_catT pins s σ H _ _ v u Q I rx ry ⟨a, b, xs, ys, rfl, rfl, ha, hb, hx, hz, fun e => q a H (Same.refl H) (by rw [e, List.append_nil]; exact ha0), fun _ p hp => q p _ (same_upd hp) upd_same⟩
end L3
namespace Vm
open PySem PySem.Spec PyProof.Rows L2 L3
end Vm
set_option Elab.async false
set_option linter.all false
set_option maxRecDepth 100000
set_option maxHeartbeats 4000000
namespace L3
open PySem PySem.Spec PyProof.Rows L2
end L3
namespace Vm
open PySem PySem.Spec PyProof.Rows L2 L3
def entStep (e0 : V) (us : List V) (x : V) : List V := if x = e0 then us else if x ∈ us then us else us ++ [x]
def entTo (es : List V) (i : Nat) : List V := (es.take i).foldl (entStep (es.getD 0 .non)) []
def rowsTo (es : List V) (x : V) (n : Nat) : List Nat := (List.range n).filter fun k => decide (es.getD k .non = x)
def rdgsOf (es : List V) : List Rdg := (entTo es es.length).map fun x => (x, rowsTo es x es.length)
theorem entTo_step {es : List V} {i : Nat} {x : V} (h : es[i]? = some x) : entTo es (i + 1) = entStep (es.getD 0 .non) (entTo es i) x := by
  unfold entTo
  rw [List.take_add_one, h, List.foldl_append]
  rfl
theorem rowsTo_step (es : List V) (x : V) (n : Nat) : rowsTo es x (n + 1) = rowsTo es x n ++ (if es.getD n .non = x then [n] else []) := by
  unfold rowsTo
  rw [List.range_succ, List.filter_append]
  by_cases h : es.getD n .non = x
  · rw [if_pos h, List.filter_cons_of_pos (by exact decide_eq_true h)]
    rfl
  · rw [if_neg h, List.filter_cons_of_neg (by rw [decide_eq_false h]; exact Bool.false_ne_true)]
    rfl
theorem rowsTo_len (es : List V) (x : V) (n : Nat) : (rowsTo es x n).length ≤ n := by
  unfold rowsTo
  exact Nat.le_trans (List.length_filter_le _ _) (by rw [List.length_range]; exact Nat.le_refl _)
theorem rowsTo_lt {es : List V} {x : V} {n k : Nat} (h : k ∈ rowsTo es x n) : k < n := List.mem_range.mp (List.mem_filter.mp h).1
theorem entStep_mem {e0 x y : V} {us : List V} (h : y ∈ entStep e0 us x) : y ∈ us ∨ y = x ∧ x ≠ e0 := by
  unfold entStep at h
  split at h
  · exact .inl h
  · rename_i h1
    split at h
    · exact .inl h
    · rcases List.mem_append.mp h with h | h
      · exact .inl h
      · exact .inr ⟨List.mem_singleton.mp h, h1⟩
theorem entTo_mem {es : List V} {y : V} : ∀ i : Nat, y ∈ entTo es i → y ∈ es ∧ y ≠ es.getD 0 .non
  | 0, h => nomatch h
  | i + 1, h => by
    cases e : es[i]? with
    | none =>
      have : entTo es (i + 1) = entTo es i := by unfold entTo; rw [List.take_add_one, e]; simp
      rw [this] at h
      exact entTo_mem i h
    | some x =>
      rw [entTo_step e] at h
      rcases entStep_mem h with h | ⟨rfl, h⟩
      · exact entTo_mem i h
      · exact ⟨List.mem_of_getElem? e, h⟩
theorem entStep_len {e0 x : V} {us : List V} : (entStep e0 us x).length ≤ us.length + 1 := by
  unfold entStep
  split
  · omega
  · split
    · omega
    · rw [List.length_append]; exact Nat.le_refl _
theorem entTo_len (es : List V) : ∀ i : Nat, (entTo es i).length ≤ i
  | 0 => Nat.le_refl _
  | i + 1 => by
    have := entTo_len es i
    cases e : es[i]? with
    | none =>
      have h : entTo es (i + 1) = entTo es i := by unfold entTo; rw [List.take_add_one, e]; simp
      rw [h]; omega
    | some x =>
      rw [entTo_step e]
      have := entStep_len (e0 := es.getD 0 .non) (x := x) (us := entTo es i)
      omega
theorem rows_none {es : List V} {x : V} : ∀ i : Nat, i ≤ es.length → x ∉ entTo es i → x ≠ es.getD 0 .non → rowsTo es x i = []
  | 0, _, _, _ => rfl
  | i + 1, hi, h, h0 => by
    have e := List.getElem?_eq_getElem (l := es) (i := i) (by omega)
    rw [entTo_step e] at h
    have h1 : x ∉ entTo es i := fun z => h (by
      unfold entStep
      split
      · exact z
      · split
        · exact z
        · exact List.mem_append_left _ z)
    have h2 : es.getD i .non ≠ x := fun z => h (by
      have ez : es[i] = x := by rw [← z, List.getD_eq_getElem?_getD, e]; rfl
      rw [ez]
      unfold entStep
      rw [if_neg h0, if_neg h1]
      exact List.mem_append_right _ (List.mem_singleton.mpr rfl))
    rw [rowsTo_step, if_neg h2, rows_none i (by omega) h1 h0]
    rfl
theorem rdgs_ok {es : List V} (hE : ∀ e ∈ es, Ent e) (hl : es.length ≤ 30) {x : V} (hx : x ∈ entTo es es.length) : RdgOk (x, rowsTo es x es.length) :=
  ⟨hE x (entTo_mem _ hx).1, by have := rowsTo_len es x es.length; show (rowsTo es x es.length).length ≤ 30; omega, fun n hn => by have := rowsTo_lt (show n ∈ rowsTo es x es.length from hn); omega⟩
def vKey : V → Option Str
  | .str z => some z
  | _ => none
theorem vKey_ent {x : V} (h : Ent x) : L2.optV (vKey x) = x := by
  rcases h with rfl | ⟨z, _, rfl⟩ <;> rfl
theorem vKey_inj {x y : V} (h : Ent x) (h2 : Ent y) (e : vKey x = vKey y) : x = y := by rw [← vKey_ent h, ← vKey_ent h2, e]
def dnOf (ps : List (V × Addr)) : List (Option Str × V) := ps.map fun q => (vKey q.1, V.ref q.2)
theorem dn_none {ps : List (V × Addr)} {x : V} (hp : ∀ q ∈ ps, Ent q.1) (hx : Ent x) (h : x ∉ ps.map (·.1)) : valV (dnOf ps) (vKey x) = none := by
  induction ps with
  | nil => rfl
  | cons q r ih =>
    rw [List.map_cons, List.mem_cons, not_or] at h
    show valV ((vKey q.1, V.ref q.2) :: dnOf r) (vKey x) = none
    rw [valV_neg (fun e => h.1 (vKey_inj hx (hp q List.mem_cons_self) e.symm))]
    exact ih (fun q hq => hp q (List.mem_cons_of_mem _ hq)) h.2
theorem dn_some {ps : List (V × Addr)} {x : V} (hp : ∀ q ∈ ps, Ent q.1) (hx : Ent x) (h : x ∈ ps.map (·.1)) : ∃ a, (x, a) ∈ ps ∧ valV (dnOf ps) (vKey x) = some (.ref a) := by
  induction ps with
  | nil => cases h
  | cons q r ih =>
    by_cases c : x = q.1
    · refine ⟨q.2, by rw [c]; exact List.mem_cons_self, ?_⟩
      show valV ((vKey q.1, V.ref q.2) :: dnOf r) (vKey x) = _
      rw [valV_pos (by rw [c])]
    · rw [List.map_cons, List.mem_cons] at h
      obtain ⟨a, ha, e⟩ := ih (fun q hq => hp q (List.mem_cons_of_mem _ hq)) (h.resolve_left c)
      refine ⟨a, List.mem_cons_of_mem _ ha, ?_⟩
      show valV ((vKey q.1, V.ref q.2) :: dnOf r) (vKey x) = _
      rw [valV_neg (fun e => c (vKey_inj hx (hp q List.mem_cons_self) e.symm))]
      exact e
theorem dn_put {ps : List (V × Addr)} {x : V} {a : Addr} (hp : ∀ q ∈ ps, Ent q.1) (hx : Ent x) (h : x ∈ ps.map (·.1)) : putK (dnOf ps) (vKey x) (.ref a) = dnOf (ps.map fun q => if q.1 = x then (q.1, a) else q) := by
  obtain ⟨b, _, e⟩ := dn_some hp hx h
  unfold putK
  rw [if_pos (by rw [valV_any, e]; rfl)]
  unfold dnOf
  rw [List.map_map, List.map_map]
  refine List.map_congr_left fun q hq => ?_
  show (if vKey q.1 = vKey x then (vKey q.1, V.ref a) else (vKey q.1, V.ref q.2)) = (vKey (if q.1 = x then (q.1, a) else q).1, V.ref (if q.1 = x then (q.1, a) else q).2)
  by_cases c : q.1 = x
  · rw [if_pos (by rw [c]), if_pos c]
  · rw [if_neg (fun e => c (vKey_inj (hp q hq) hx e)), if_neg c]
theorem dn_new {ps : List (V × Addr)} {x : V} {a : Addr} (hp : ∀ q ∈ ps, Ent q.1) (hx : Ent x) (h : x ∉ ps.map (·.1)) : putK (dnOf ps) (vKey x) (.ref a) = dnOf (ps ++ [(x, a)]) := by
  rw [putK_new _ (dn_none hp hx h)]
  unfold dnOf
  rw [List.map_append]
  rfl
theorem zip_fst {α β γ : Type} (f : α → γ) : ∀ (as : List α) (bs : List β), as.length = bs.length → List.zipWith (fun a _ => f a) as bs = as.map f
  | [], [], _ => rfl
  | a :: r, b :: t, h => by
    show f a :: _ = f a :: _
    rw [zip_fst f r t (Nat.succ.inj h)]
theorem zip_snd {α β γ : Type} (f : β → γ) : ∀ (as : List α) (bs : List β), as.length = bs.length → List.zipWith (fun _ b => f b) as bs = bs.map f
  | [], [], _ => rfl
  | a :: r, b :: t, h => by
    show f b :: _ = f b :: _
    rw [zip_snd f r t (Nat.succ.inj h)]
end Vm
set_option Elab.async false
set_option linter.all false
set_option maxRecDepth 100000
set_option maxHeartbeats 4000000
namespace L3
open PySem PySem.Spec PyProof.Rows L2
def Iel (K : PySem.W.Frag) (t : Addr) : It := ⟨fun i H => ∃ xs a, SqL K H t xs ∧ xs[i]? = some a,
  fun i H x H' => ∃ T a, x = .ref T ∧ H T = none ∧ H' = upd H T (.tup [.int ((i : Nat) : Int), a]) ∧ ∀ xs, SqL K H t xs → xs[i]? = some a,
  fun i H => ∃ xs, SqL K H t xs ∧ xs.length ≤ i⟩
theorem turn_enumL {P : Program} {w : World} {K : PySem.W.Frag} {es : List Expr} {x1 : Nat} {tpos : Pos} {z c t : Addr} (n1 : c ≠ z) :
    Turn P w K (.Tuple es x1 tpos) (Iel K t) [z, c] z (fun i h => (∃ old, IsEnum h z c ((i : Nat) : Int) old) ∧ h.IsListIter c t i) where
  mem := by simp
  obj := fun i h st b hb => by
    obtain ⟨⟨old, q1⟩, ⟨o1, e1, _, d1⟩⟩ := st
    simp only [List.mem_cons, List.not_mem_nil, or_false] at hb
    rcases hb with rfl | rfl
    · exact ⟨_, q1, fun v u => nomatch u⟩
    · exact ⟨_, e1, fun v u => by rw [d1] at u; cases u⟩
  keep := fun i h h' st kp => by
    obtain ⟨⟨old, q1⟩, q4⟩ := st
    exact ⟨⟨old, kp z (by simp) _ q1⟩, q4.at fun o e => kp c (by simp) o e⟩
  item := by
    intro X hP hw hK hc i pins s σ H E I hf st hg
    subst hP hw hK
    obtain ⟨⟨old, q1⟩, q4⟩ := st
    obtain ⟨xs, a, hx, ex⟩ := hg
    obtain ⟨us, ru, pu, zu⟩ := I.list hx
    obtain ⟨u, eu, ra⟩ := ru.get ex
    refine wpAny_pyNext_enum_item q1 q4 pu.isList (x := u) (by simpa using eu) n1.symm fun g g1 g3 g5 _ kp => ⟨_, rfl, ?_⟩
    refine wpAny_letOwnedTupleGo_enum (s := { s with heap := g, toks := s.toks + 1 }) g1 fun h2 hz2 sb => ?_
    have lt : ∀ {b o}, s.heap.get? b = some o → s.heap.objs.size ≠ b := fun e => Nat.ne_of_gt (Heap.lt_size e)
    have kp2 : ∀ b o, b ∉ [z, c] → s.heap.get? b = some o → h2.get? b = some o := fun b o n e => by
      simp only [List.mem_cons, List.not_mem_nil, or_false, not_or] at n
      exact sb.extBut _ _ n.1 (kp b o n.1 n.2 e)
    have I1 : Inv X pins σ H { s with heap := h2, toks := s.toks + 1 } := turnedL (t' := s.toks + 1) I kp2 hf
    have T2 : h2.get? s.heap.objs.size = some { cls := .type "tuple", data := .seq #[.int i s.toks, u] } := sb.extBut _ _ (lt q1) g5
    have hN : H s.heap.objs.size = none := I.hok.fresh (Nat.le_refl _)
    have I2 : Inv X pins σ (upd H s.heap.objs.size (.tup [.int ((i : Nat) : Int), a])) { s with heap := h2, toks := s.toks + 1 } := inv_track I1 (Heap.get?_none_of_le I.sz) (Nat.ne_of_gt I.lt)
      (fun y b ec => by obtain ⟨_, o, ho, _⟩ := I.cell y b ec; exact Ne.symm (lt ho)) (fun p hp => Ne.symm (lt (I.pin p hp).1)) hN
      ⟨few (by show 2 ≤ _; omega), [.int i s.toks, u], .cons ⟨_, rfl⟩ (.cons ra .nil), ⟨_, T2, rfl, 0, rfl⟩⟩
    refine ⟨.ref s.heap.objs.size, _, I2, rfl, ⟨_, a, rfl, hN, rfl, fun xs' hx' => by rw [I.list_inj hx' hx]; exact ex⟩, ⟨⟨u, ?_⟩, ?_⟩, fun b hb => ?_⟩
    · have e : ((i + 1 : Nat) : Int) = (i : Int) + 1 := by omega
      rw [e]; exact hz2
    · exact g3.extBut sb.extBut n1
    · have ne : b ≠ s.heap.objs.size := by
        simp only [List.mem_cons, List.not_mem_nil, or_false] at hb
        obtain ⟨o1, e1, _⟩ := q4
        rcases hb with rfl | rfl
        · exact Ne.symm (lt q1)
        · exact Ne.symm (lt e1)
      rw [upd_ne ne]; exact (hf b hb).1
  done := by
    intro X hP hw hK hc i pins s σ H E I hf st hg
    subst hP hw hK
    obtain ⟨⟨old, q1⟩, q4⟩ := st
    obtain ⟨xs, hx, he⟩ := hg
    obtain ⟨us, ru, pu, zu⟩ := I.list hx
    have l1 := ru.length
    refine wpAny_pyNext_enum_end (I.ok.hd hc) q1 q4 pu.isList (by simp; omega) fun g kp => ⟨rfl, turnedL (t' := s.toks) I (fun b o n e => ?_) hf⟩
    simp only [List.mem_cons, List.not_mem_nil, or_false, not_or] at n
    exact kp b o n.2 e
  self := fun _ _ _ _ _ st h => by
    obtain ⟨⟨old, q1⟩, _⟩ := st
    exact wpAny_pyIter_enum q1 h
section
variable {X : Cx} {es : List Expr} {x1 : Nat} {tpos : Pos}
def iEnumL (K : PySem.W.Frag) (ta : TA) : TI := fun σ H R => ta σ H fun vs H1 => ∃ t : Addr, vs = [.ref t] ∧ (∃ xs, SqL K H1 t xs) ∧ R (Iel K t) H1
theorem pi_enumL {a : Expr} {ta : TA} {p pos : Pos} (hg : Gl X "enumerate") (hm : X.mg "enumerate" = none) (ha : PA X [a] ta) (hs : starEach [a] X.env = [(false, eval a X.env)] := by rfl) :
    PI X (.Tuple es x1 tpos) (.Call (.Name "enumerate" p) [a] [] pos) (iEnumL X.K ta) := by
  intro pins s σ H R I h
  refine Call_ (ld_blt I hg hm PyProof.Rows.boot_enumerate (PyProof.Rows.callWith_type1 (thn (ha pos pins s σ H _ I h) fun us s1 ⟨vs, H1, I1, r1, q1⟩ => ?_) (by rw [hs]; rfl) (by rfl)))
  obtain ⟨t, e, ⟨xs, hx⟩, q⟩ := q1
  subst e
  obtain ⟨u1, rfl, r1'⟩ := r1.one
  cases r1'
  obtain ⟨us, ru, pu, zu⟩ := I1.list hx
  refine call_enumerate_list pu.isList fun g g1 g4 _ kp => ?_
  refine wpAny_pyIter_enum (s := { s1 with heap := g }) g1 ?_
  refine ⟨_, _, _, Iel X.K t, H1, rfl, I1.kept (t' := s1.toks) kp, turn_enumL (Nat.ne_of_lt (Nat.lt_succ_self _)), ⟨⟨_, g1⟩, g4⟩, fun b hb => ?_, q⟩
  have hb' : s1.heap.objs.size ≤ b := by
    simp only [List.mem_cons, List.not_mem_nil, or_false] at hb
    rcases hb with rfl | rfl
    · exact Nat.le_add_right _ _
    · exact Nat.le_refl _
  have I2 : Inv X _ σ H1 _ := I1.kept (t' := s1.toks) kp
  exact I1.fpOk hb' (I1.hok.fresh hb')
end
theorem for_enumL {K : PySem.W.Frag} {a : Addr} {xs : List V} {g : TG} {tb : TS} {D : Ends} {σ : L2.St} {H : Hp} (Pv : Nat → L2.St → Hp → Prop) (h0 : Pv 0 σ H) (hl : ∀ i σ H, i ≤ xs.length → Pv i σ H → SqL K H a xs)
    (hs : ∀ i x σ H T, xs[i]? = some x → Pv i σ H → H T = none → g (.ref T) σ (upd H T (.tup [.int ((i : Nat) : Int), x])) fun σ2 H2 => tb { D with nx := Pv (i + 1), ct := Pv (i + 1), bk := D.nx } σ2 H2) (hd : ∀ σ H, Pv xs.length σ H → D.nx σ H) :
    ∃ W : Nat → Nat → L2.St → Hp → Prop, (∃ m, W 0 m σ H) ∧ ∀ i m σ H, W i m σ H →
      ((Iel K a).stop i H ∧ D.nx σ H) ∨ ((Iel K a).go i H ∧ ∃ N : L2.St → Hp → Prop, (∀ σ' H', N σ' H' → ∃ m', m' < m ∧ W (i + 1) m' σ' H') ∧ ∀ x H', (Iel K a).yld i H x H' → g x σ H' fun σ2 H2 => tb { D with nx := N, ct := N, bk := D.nx } σ2 H2) := by
  refine ⟨fun i m σ H => m = xs.length - i ∧ i ≤ xs.length ∧ Pv i σ H, ⟨xs.length, by simp, Nat.zero_le _, h0⟩, ?_⟩
  rintro i m σ H ⟨rfl, hi, p⟩
  have q := hl i σ H hi p
  rcases Nat.lt_or_ge i xs.length with hlt | hge
  · refine .inr ⟨⟨xs, xs[i], q, by simp [hlt]⟩, Pv (i + 1), fun σ' H' p' => ⟨xs.length - (i + 1), by omega, rfl, hlt, p'⟩, ?_⟩
    rintro x H' ⟨T, a', rfl, hT, rfl, hx⟩
    exact hs i a' σ H T (hx xs q) p hT
  · have e : i = xs.length := by omega
    subst e
    exact .inl ⟨⟨xs, q, Nat.le_refl _⟩, hd σ H p⟩
end L3
set_option Elab.async false
set_option linter.all false
set_option maxRecDepth 100000
set_option maxHeartbeats 4000000
namespace L3
open PySem PySem.Spec PyProof.Rows L2
open AutoSeq1 (wpAny_loadPart')
theorem noFill_tuple_mul : fillsNumberSlot (.type "tuple") "mul" = pure false :=
  PySem.fillsNumberSlot_seq (id := "tuple.__mul__") (r := some (.builtin "tuple.__rmul__")) F.slot_tuple_mul.lookup (by decide +kernel) F.slot_tuple_rmul.lookup (by decide +kernel)
theorem repeat_tuple : seqRepeat? (.type "tuple") = pure (some (.builtin "tuple.__mul__")) := by
  unfold seqRepeat?
  rw [PySem.seqSlot_of (T := "tuple") (name := "__mul__") (id := "tuple.__mul__") F.slot_tuple_mul.lookup (by decide +kernel), PySem.seqSlot_of (T := "tuple") (name := "__rmul__") (id := "tuple.__rmul__") F.slot_tuple_rmul.lookup (by decide +kernel)]
  rfl
theorem rmul_int_tuple (a : Int) (t : Tok) (l : Addr) (o : Obj) (its : Array Value) (k : Nat) (hc : o.cls = .type "tuple") (hd : o.data = .seq its k) :
    Meets (Builtin.«int.__rmul__» ⟨[.int a t, .ref l], []⟩) (fun _ R s => s.heap.get? l = some o ∧ R (.ok (.ret Value.notImplemented)) s) :=
  .of_wp fun prog w A R s h => by
    obtain ⟨hp, g, d, tk, os⟩ := s
    obtain ⟨hl, h⟩ := h
    obtain ⟨oc, od, oda, osl⟩ := o
    cases hc
    cases hd
    have hT : Shared.TypeIs ⟨hp, g, d, tk, os⟩ (.ref l) "tuple" := ⟨_, hl, rfl⟩
    wp_walk using wpAny_loadPart' hl, wpAny_typeOf hT
    exact ⟨_, rfl, h⟩
theorem tuple_mul_new (l : Addr) (o : Obj) (u : Value) (k n : Nat) (t : Tok) (hc : o.cls = .type "tuple") (hd : o.data = .seq #[u] k) (hn : n ≤ 100000) (h1 : n ≠ 1) :
    Meets (Builtin.«tuple.__mul__» ⟨[.ref l, .int (n : Int) t], []⟩) (fun _ R s => s.heap.get? l = some o ∧ R (.ok (.ret (.ref s.heap.objs.size))) { s with heap := s.heap.push { cls := .type "tuple", data := .seq (List.replicate n u).toArray } }) :=
  .of_wp fun prog w A R s h => by
    obtain ⟨hp, g, d, tk, os⟩ := s
    obtain ⟨hl, h⟩ := h
    have hT : Shared.TypeIs ⟨hp, g, d, tk, os⟩ (.ref l) "tuple" := ⟨o, hl, hc⟩
    have e1 : (decide ((n : Int) < -(2 ^ 63)) || decide ((n : Int) ≥ 2 ^ 63)) = false := by
      rw [decide_eq_false (by omega), decide_eq_false (by omega)]; rfl
    wp_walk using wpAny_loadPart' hl, wpAny_typeOf hT
    rw [if_neg (by rw [e1]; exact Bool.false_ne_true)]
    obtain ⟨oc, od, oda, osl⟩ := o
    cases hc
    cases hd
    wp_walk using wpAny_loadPart' hl, wpAny_typeOf hT
    have e2 : (#[u].isEmpty || ((n : Int) == 1)) = false := by
      have : ((n : Int) == 1) = false := beq_eq_false_iff_ne.mpr (by omega)
      rw [this]
      rfl
    rw [if_neg (by rw [e2]; exact Bool.false_ne_true)]
    show wpAny _ _ (if (decide ((n : Int) ≤ 0) || #[u].isEmpty) = true then _ else _) _ _ _
    by_cases h0 : n = 0
    · subst h0
      rw [if_pos (by rfl)]
      unfold Builtin.Tuple.tupleExact
      refine wpAny_bind (wpAny_newObj_type ?_ (by show 0 ≤ sizeLine; exact Nat.zero_le _))
      exact wpAny_pure ⟨_, rfl, h⟩
    · have e3 : (decide ((n : Int) ≤ 0) || #[u].isEmpty) = false := by rw [decide_eq_false (by omega)]; rfl
      rw [if_neg (by rw [e3]; exact Bool.false_ne_true)]
      show wpAny _ _ (if ((#[u].size : Nat) : Int) * (n : Int) > (2 ^ 63 - 1) / 8 then _ else _) _ _ _
      have e4 : ((#[u].size : Nat) : Int) * (n : Int) = (n : Int) := by show (1 : Int) * _ = _; omega
      rw [if_neg (by rw [e4]; omega)]
      show wpAny _ _ (if Builtin.Tuple.tupleTooMany (((#[u].size : Nat) : Int) * (n : Int)) = true then _ else _) _ _ _
      have e5 : Builtin.Tuple.tupleTooMany (((#[u].size : Nat) : Int) * (n : Int)) = false := by
        rw [e4]
        unfold Builtin.Tuple.tupleTooMany
        exact decide_eq_false (by unfold sizeLine; omega)
      rw [if_neg (by rw [e5]; exact Bool.false_ne_true)]
      show wpAny _ _ (Builtin.Tuple.tupleExact (List.foldl (fun x1 x2 => x1 ++ x2) #[] (List.replicate ((n : Int)).toNat #[u])) >>= fun v => ret v) _ _ _
      rw [Int.toNat_natCast, rep_fold]
      have e6 : (#[] ++ (List.replicate n u).toArray : Array Value) = (List.replicate n u).toArray := by simp
      rw [e6]
      unfold Builtin.Tuple.tupleExact
      refine wpAny_bind (wpAny_newObj_type ?_ (by show (List.replicate n u).toArray.size ≤ sizeLine; rw [List.size_toArray, List.length_replicate]; unfold sizeLine; omega))
      exact wpAny_pure ⟨_, rfl, h⟩
theorem tuple_mul_one (l : Addr) (o : Obj) (u : Value) (k : Nat) (t : Tok) (hc : o.cls = .type "tuple") (hd : o.data = .seq #[u] k) :
    Meets (Builtin.«tuple.__mul__» ⟨[.ref l, .int 1 t], []⟩) (fun _ R s => s.heap.get? l = some o ∧ R (.ok (.ret (.ref l))) s) :=
  .of_wp fun prog w A R s h => by
    obtain ⟨hp, g, d, tk, os⟩ := s
    obtain ⟨hl, h⟩ := h
    obtain ⟨oc, od, oda, osl⟩ := o
    cases hc
    cases hd
    have hT : Shared.TypeIs ⟨hp, g, d, tk, os⟩ (.ref l) "tuple" := ⟨_, hl, rfl⟩
    wp_walk using wpAny_loadPart' hl, wpAny_typeOf hT
    exact ⟨_, rfl, h⟩
section
variable {X : Cx}
theorem op_mulT : OpR X (binaryOp .Mult) (fun x y H Q => ∃ (a : Addr) (v : V) (n : Nat), x = .ref a ∧ y = .int ((n : Nat) : Int) ∧ H a = some (.tup [v]) ∧ n ≤ 100000 ∧ ∀ (r : Addr) (H2 : Hp), Same H H2 → H2 r = some (.tup (List.replicate n v)) → Q (.ref r) H2) := by
  intro pins s σ H x y w u Q I rx ry h
  obtain ⟨a, v, n, rfl, rfl, hH, hn, q⟩ := h
  obtain rfl : w = Value.ref a := rx
  obtain ⟨t, rfl⟩ := ry
  obtain ⟨hz, its, r, o, ho, hc, k, hd⟩ := I.hok a _ hH
  obtain ⟨u, rfl, ru⟩ := vals1 r
  have isT : s.TypeIs (.ref a) "tuple" := ⟨o, ho, hc⟩
  refine wpAny_binaryOp_repeat_ref (by decide : (Value.type "tuple" == Value.type "int") = false) isT (fun s' => typeIs_int s' _ t) noFill_tuple_mul F.fills_int_mul F.slot_int_rmul repeat_tuple F.slot_int_index.lookup ?_
  refine call_meets F.slot_int_rmul (typeIs_int s _ t) F.entry_int_rmul (F.args_int_rmul_2 _ _) (rmul_int_tuple _ t a o _ k hc hd) ?_
  refine ⟨ho, rfl, isT, ?_⟩
  by_cases h1 : n = 1
  · subst h1
    exact call_meets F.slot_tuple_mul isT F.entry_tuple_mul (F.args_tuple_mul_2 _ _) (tuple_mul_one a o u k t hc hd) ⟨ho, .ref a, H, I, rfl, q a H (fun _ _ e => e) hH⟩
  · refine call_meets F.slot_tuple_mul isT F.entry_tuple_mul (F.args_tuple_mul_2 _ _) (tuple_mul_new a o u k n t hc hd hn h1) ⟨ho, .ref s.heap.objs.size, upd H s.heap.objs.size (.tup (List.replicate n v)), ?_, rfl, ?_⟩
    · refine I.laid (t' := s.toks) (fun b u e => Heap.get?_push_of_some _ e) (Nat.le_refl _) ?_
      exact ⟨by rw [List.length_replicate]; show n ≤ sizeLine; unfold sizeLine; omega, List.replicate n u, vals_rep ru n, IsTup.new _ _⟩
    · exact q _ _ (same_upd (I.hok.fresh (Nat.le_refl _))) upd_same
end
end L3
set_option Elab.async false
set_option linter.all false
set_option maxRecDepth 100000
set_option maxHeartbeats 4000000
namespace Vm
open PySem PySem.Spec PyProof.Rows L2 L3
end Vm
set_option Elab.async false
set_option linter.all false
set_option maxRecDepth 100000
set_option maxHeartbeats 4000000
namespace L3
open PySem PySem.Spec PyProof.Rows L2
open Builtin Builtin.Str
section
variable {X : Cx}
def rSplitB : V → List V → Hp → VK → Prop := fun x vs H Q => ∃ z y, x = .str z ∧ vs = [.str y] ∧ 1 ≤ y.length ∧ z.length ≤ 10000000 ∧ ∀ p, H p = none → Q (.ref p) (upd H p (.lst ((Txt.split z y).map V.str)))
theorem mt_splitB : MtR X "str.split" rSplitB := by
  intro pins s σ H x xs v us Q I rx rv h
  obtain ⟨z, y, rfl, rfl, hy, hz, q⟩ := h
  obtain ⟨t, rfl⟩ := rx
  obtain ⟨u, rfl, ru⟩ := rv.one
  obtain ⟨t', rfl⟩ := ru
  have hs := szl
  have hy' : (y.length == 0) = false := by
    rw [beq_eq_false_iff_ne]; omega
  have hlen := PyProof.Rows.split_le z y
  have fin : ∀ (l : List (Str × Tok)) (k : Nat), l.map (·.1) = Txt.split z y → EP X pins σ Q (.ref s.heap.objs.size) { s with heap := s.heap.push { cls := .type "list", data := .seq (strValues l).toArray }, toks := k } := fun l k e => by
    have hv : Vals ((Txt.split z y).map V.str) (strValues l) := by rw [← e]; exact vals_values l
    exact ⟨.ref _, _, I.lnew (t' := k) hv (by rw [List.length_map]; omega), rfl, q _ I.fresh⟩
  have hn : (partsBetween z (occurrences z y 0 z.length (z.length + 1)) y.length).length ≤ sizeLine := by
    have h1 := StrLaws.occ_length_le z y 0 z.length (z.length + 1)
    unfold partsBetween
    simp only [List.length_map, List.length_zip, List.length_cons, List.length_append, List.length_singleton]
    omega
  cases h1 : (decide (z.length < y.length) || decide (strKind z < strKind y))
  · cases hf : (occurrences z y 0 z.length (z.length + 1)).isEmpty
    · refine call_meets F.slot_str_split (typeIs_str _ _ _) F.entry_str_split (F.args_str_split_2 _ _) (meets_str_split_sep z y t t' h1 hy' hf (by omega) hn) ?_
      show EP X pins σ Q (.ref s.heap.objs.size) { s with toks := _, heap := s.heap.push { cls := .type "list", data := .seq (strsFrom s.toks (partsBetween z (occurrences z y 0 z.length (z.length + 1)) y.length)).toArray } }
      rw [strsFrom_eq]
      exact fin (numbered s.toks _) _ ((numbered_texts _ _).trans ((if_neg (ne_true_of_eq_false h1)).trans (if_neg (ne_true_of_eq_false hf))).symm)
    · refine call_meets F.slot_str_split (typeIs_str _ _ _) F.entry_str_split (F.args_str_split_2 _ _) (meets_str_split_not_found z y t t' h1 hy' hf) ?_
      exact fin [(z, t)] s.toks ((if_neg (ne_true_of_eq_false h1)).trans (if_pos hf)).symm
  · refine call_meets F.slot_str_split (typeIs_str _ _ _) F.entry_str_split (F.args_str_split_2 _ _) (meets_str_split_cannot_occur z y t t' h1) ?_
    exact fin [(z, t)] s.toks (if_pos h1).symm
end
end L3
namespace Vm
open PySem PySem.Spec PyProof.Rows L2 L3
section
open PySem.StrLaws Builtin Builtin.Str
structure Sep (y : Str) (u : List Nat) (c : Nat) (t : List Nat) : Prop where
  e : y.cps.toList = u ++ c :: t
  hu : c ∉ u
  ht : c ∉ t
  kd : Builtin.Str.strKind y = 1
theorem Sep.len {y : Str} {u t : List Nat} {c : Nat} (S : Sep y u c t) : y.length = u.length + (t.length + 1) := by
  rw [← clen, S.e, List.length_append, List.length_cons]
def joinS (s : List Nat) : List (List Nat) → List Nat
  | [] => []
  | [l] => l
  | l :: m :: r => l ++ (s ++ joinS s (m :: r))
def cutsS (d : Nat) : Nat → List (List Nat) → List Nat
  | _, [] => []
  | _, [_] => []
  | a, l :: m :: r => (a + l.length) :: cutsS d (a + l.length + d) (m :: r)
def atS (x y : Str) (i : Nat) : Bool := decide (i + y.length ≤ x.length) && subAt x y i
theorem atS_get {x y : Str} {u t : List Nat} {c : Nat} (S : Sep y u c t) {i : Nat} (h : atS x y i = true) : x.cps.toList[i + u.length]? = some c := by
  unfold atS at h
  have h := (Bool.and_eq_true_iff.mp h).2
  rw [subAt_eq, beq_iff_eq] at h
  have h0 : ((x.cps.toList.drop i).take y.length)[u.length]? = some c := by rw [h, S.e, List.getElem?_append_right (Nat.le_refl _), Nat.sub_self]; rfl
  rw [List.getElem?_take, if_pos (by rw [S.len]; omega), List.getElem?_drop] at h0
  exact h0
theorem atS_of {x y : Str} {pre r : List Nat} (h : x.cps.toList = pre ++ (y.cps.toList ++ r)) : atS x y pre.length = true := by
  unfold atS
  rw [Bool.and_eq_true_iff, subAt_eq, decide_eq_true_iff, beq_iff_eq]
  constructor
  · rw [← clen x, h, List.length_append, List.length_append, clen]
    omega
  · rw [h, List.drop_left, ← clen y, List.take_left]
theorem join_mark {s u t : List Nat} {c : Nat} (hs : s = u ++ c :: t) (hu : c ∉ u) : ∀ (l : List Nat) (r : List (List Nat)), c ∉ l → ∀ o, o < l.length + u.length → (joinS s (l :: r))[o]? ≠ some c
  | l, [], hl, o, _, h => hl (List.mem_of_getElem? h)
  | l, m :: r, hl, o, ho, h => by
    have ej : joinS s (l :: m :: r) = l ++ (u ++ (c :: t ++ joinS s (m :: r))) := by
      show l ++ (s ++ joinS s (m :: r)) = _
      rw [hs, List.append_assoc]
    rw [ej] at h
    by_cases h1 : o < l.length
    · rw [List.getElem?_append_left h1] at h
      exact hl (List.mem_of_getElem? h)
    · rw [List.getElem?_append_right (by omega), List.getElem?_append_left (by omega)] at h
      exact hu (List.mem_of_getElem? h)
theorem occS {x y : Str} (lim : Nat) (hx : ∀ i, atS x y i = true → ∀ j, i < j → j < i + y.length → atS x y j = false) : ∀ (n a : Nat) (arr : Array Nat) (free : Nat), (∀ j, a ≤ j → j < free → atS x y j = false) → arr.size + n ≤ lim →
    (forIn (List.range' a n) (arr, free) (occBody x y x.length lim)).run.fst.toList = arr.toList ++ (List.range' a n).filter (atS x y)
  | 0, a, arr, free, _, _ => by simp
  | n + 1, a, arr, free, hf, hl => by
    rw [List.range'_succ, List.forIn_cons]
    unfold occBody
    cases ha : atS x y a with
    | true =>
      have hf' : free ≤ a := by
        rcases Nat.lt_or_ge a free with z | z
        · have := hf a (Nat.le_refl _) z
          rw [ha] at this
          cases this
        · exact z
      have h2 := Bool.and_eq_true_iff.mp ha
      have h3 := of_decide_eq_true h2.1
      rw [if_pos ⟨⟨⟨by show arr.size < lim; omega, hf'⟩, h3⟩, h2.2⟩, List.filter_cons_of_pos ha]
      have ih := occS lim hx n (a + 1) (arr.push a) (a + y.length) (fun j h1 h2 => hx a ha j (by omega) h2) (by rw [Array.size_push]; omega)
      unfold occBody at ih
      refine Eq.trans ih ?_
      rw [Array.toList_push, List.append_assoc]
      rfl
    | false =>
      rw [if_neg ?_, List.filter_cons_of_neg (by rw [ha]; exact Bool.false_ne_true)]
      · have ih := occS lim hx n (a + 1) arr free (fun j h1 h2 => hf j (by omega) h2) (by omega)
        unfold occBody at ih
        exact ih
      · rintro ⟨⟨_, h1⟩, h2⟩
        have : atS x y a = true := Bool.and_eq_true_iff.mpr ⟨decide_eq_true h1, h2⟩
        rw [ha] at this
        exact Bool.false_ne_true this
theorem cutsS_filter {x y : Str} {u t : List Nat} {c : Nat} (S : Sep y u c t) : ∀ (ls : List (List Nat)) (pre : List Nat), ls ≠ [] → (∀ l ∈ ls, c ∉ l) → x.cps.toList = pre ++ joinS y.cps.toList ls →
    (List.range' pre.length (x.length + 1 - pre.length)).filter (atS x y) = cutsS y.length pre.length ls ∧ ∀ i, pre.length ≤ i → atS x y i = true → ∀ j, i < j → j < i + y.length → atS x y j = false
  | [], _, h, _, _ => absurd rfl h
  | [l], pre, _, hc, hx => by
    have no : ∀ i, pre.length ≤ i → atS x y i = true → False := fun i hi h => by
      have h1 := atS_get S h
      rw [hx, List.getElem?_append_right (by omega)] at h1
      exact hc l List.mem_cons_self (List.mem_of_getElem? h1)
    refine ⟨?_, fun i hi h => absurd h (fun h => no i hi h)⟩
    show _ = []
    rw [List.filter_eq_nil_iff]
    intro i hi h
    obtain ⟨k, hk, rfl⟩ := List.mem_range'.mp hi
    exact no _ (by omega) h
  | l :: m :: r, pre, _, hc, hx => by
    have hlen : x.length = (pre ++ joinS y.cps.toList (l :: m :: r)).length := by rw [← hx, clen]
    have ej : joinS y.cps.toList (l :: m :: r) = l ++ (y.cps.toList ++ joinS y.cps.toList (m :: r)) := rfl
    have hL := S.len
    rw [ej, List.length_append, List.length_append, List.length_append, clen] at hlen
    have el : (pre ++ l ++ y.cps.toList).length = pre.length + l.length + y.length := by rw [List.length_append, List.length_append, clen]
    have er : x.length + 1 - pre.length = l.length + (y.length + (x.length + 1 - (pre ++ l ++ y.cps.toList).length)) := by
      rw [el]
      omega
    obtain ⟨ih, ihx⟩ := cutsS_filter S (m :: r) (pre ++ l ++ y.cps.toList) (fun e => nomatch e) (fun k hk => hc k (List.mem_cons_of_mem _ hk)) (by rw [hx, ej]; simp only [List.append_assoc])
    have no1 : ∀ o, o < l.length → atS x y (pre.length + o) = false := fun o ho => by
      cases h : atS x y (pre.length + o) with
      | false => rfl
      | true =>
        have h1 := atS_get S h
        rw [hx, List.getElem?_append_right (by omega)] at h1
        exact absurd h1 (join_mark S.e S.hu l (m :: r) (hc l List.mem_cons_self) _ (by omega))
    have t1 : atS x y (pre.length + l.length) = true := by
      have := atS_of (x := x) (y := y) (pre := pre ++ l) (r := joinS y.cps.toList (m :: r)) (by rw [hx, ej, List.append_assoc])
      rw [List.length_append] at this
      exact this
    have no2 : ∀ j, pre.length + l.length < j → j < pre.length + l.length + y.length → atS x y j = false := fun j h1 h2 => by
      cases h : atS x y j with
      | false => rfl
      | true =>
        exfalso
        have h3 := atS_get S h
        have e3 : x.cps.toList = (pre ++ l ++ (u ++ [c])) ++ (t ++ joinS y.cps.toList (m :: r)) := by
          rw [hx, ej, S.e]
          simp only [List.append_assoc, List.cons_append, List.nil_append]
        have l3 : (pre ++ l ++ (u ++ [c])).length = pre.length + l.length + u.length + 1 := by simp only [List.length_append, List.length_cons, List.length_nil]; omega
        rw [e3, List.getElem?_append_right (by rw [l3]; omega), l3] at h3
        by_cases h4 : j + u.length - (pre.length + l.length + u.length + 1) < t.length
        · rw [List.getElem?_append_left h4] at h3
          exact S.ht (List.mem_of_getElem? h3)
        · rw [List.getElem?_append_right (by omega)] at h3
          exact join_mark S.e S.hu m r (hc m (List.mem_cons_of_mem _ List.mem_cons_self)) _ (by omega) h3
    refine ⟨?_, fun i hi h j h1 h2 => ?_⟩
    · rw [er, ← List.range'_append_1, List.filter_append, ← List.range'_append_1, List.filter_append, ← el, ih, el]
      have f1 : (List.range' pre.length l.length).filter (atS x y) = [] := by
        rw [List.filter_eq_nil_iff]
        intro i hi h
        obtain ⟨k, hk, rfl⟩ := List.mem_range'.mp hi
        rw [Nat.one_mul, no1 k hk] at h
        cases h
      have f2 : (List.range' (pre.length + l.length) y.length).filter (atS x y) = [pre.length + l.length] := by
        rw [show y.length = (y.length - 1) + 1 from by omega, List.range'_succ, List.filter_cons_of_pos t1]
        congr 1
        rw [List.filter_eq_nil_iff]
        intro i hi h
        obtain ⟨k, hk, rfl⟩ := List.mem_range'.mp hi
        rw [no2 _ (by omega) (by omega)] at h
        cases h
      rw [f1, f2]
      rfl
    · by_cases h3 : i < pre.length + l.length
      · have := no1 (i - pre.length) (by omega)
        rw [show pre.length + (i - pre.length) = i from by omega, h] at this
        cases this
      · by_cases h4 : i < pre.length + l.length + y.length
        · have ei : i = pre.length + l.length := by
            rcases Nat.lt_or_ge (pre.length + l.length) i with z | z
            · have := no2 i z h4
              rw [h] at this
              cases this
            · omega
          subst ei
          exact no2 j h1 h2
        · exact ihx i (by rw [el]; omega) h j h1 h2
theorem parts_S (x : Str) (y : Str) : ∀ (ls : List (List Nat)) (pre : List Nat), ls ≠ [] → x.cps.toList = pre ++ joinS y.cps.toList ls → partsFrom x y.length pre.length (cutsS y.length pre.length ls) = ls.map mkS
  | [], _, h, _ => absurd rfl h
  | [l], pre, _, hx => by
    show [strSub x pre.length x.length] = [mkS l]
    congr 1
    apply Str.ext'
    apply Array.toList_inj.mp
    rw [strSub_toList, mkS_list, hx, List.drop_left]
    exact List.take_of_length_le (by
      have hlen : x.length = (pre ++ l).length := by rw [← clen x, hx]; rfl
      rw [hlen, List.length_append]
      show l.length ≤ _
      omega)
  | l :: m :: r, pre, _, hx => by
    have ej : joinS y.cps.toList (l :: m :: r) = l ++ (y.cps.toList ++ joinS y.cps.toList (m :: r)) := rfl
    have ih := parts_S x y (m :: r) (pre ++ l ++ y.cps.toList) (fun e => nomatch e) (by rw [hx, ej]; simp only [List.append_assoc])
    have el : (pre ++ l ++ y.cps.toList).length = pre.length + l.length + y.length := by rw [List.length_append, List.length_append, clen]
    rw [el] at ih
    show strSub x pre.length (pre.length + l.length) :: partsFrom x y.length (pre.length + l.length + y.length) (cutsS y.length (pre.length + l.length + y.length) (m :: r)) = _
    rw [ih, List.map_cons]
    congr 1
    apply Str.ext'
    apply Array.toList_inj.mp
    rw [strSub_toList, mkS_list, hx, List.drop_left, ej, Nat.add_sub_cancel_left, List.take_left]
theorem split_S {x y : Str} {u t : List Nat} {c : Nat} (S : Sep y u c t) {ls : List (List Nat)} (hn : ls ≠ []) (hc : ∀ l ∈ ls, c ∉ l) (hx : x.cps.toList = joinS y.cps.toList ls) : Txt.split x y = ls.map mkS := by
  obtain ⟨f, g⟩ := cutsS_filter S ls [] hn hc hx
  have ho : occurrences x y 0 x.length (x.length + 1) = cutsS y.length 0 ls := by
    rw [occ_eq]
    have := occS (x := x) (y := y) (x.length + 1) (fun i h => g i (Nat.zero_le _) h) (x.length + 1) 0 #[] 0 (fun j _ h => absurd h (Nat.not_lt_zero _)) (by simp)
    rw [show x.length + 1 - 0 = x.length + 1 from rfl, this]
    rw [show (#[] : Array Nat).toList = [] from rfl, List.nil_append]
    exact f
  have hp := parts_S x y ls [] hn hx
  have one : ∀ l, ls = [l] → [x] = ls.map mkS := fun l e => by
    rw [e, List.map_cons, List.map_nil]
    congr 1
    apply Str.ext'
    apply Array.toList_inj.mp
    rw [mkS_list, hx, e]; rfl
  unfold Txt.split
  rw [S.kd]
  have h2 : decide (Builtin.Str.strKind x < 1) = false := decide_eq_false (by have := kind_pos x; omega)
  rw [h2, Bool.or_false]
  cases ls with
  | nil => exact absurd rfl hn
  | cons l r =>
    cases r with
    | nil =>
      by_cases h1 : decide (x.length < y.length) = true
      · rw [if_pos h1]; exact one l rfl
      · rw [if_neg h1, ho, if_pos (show (cutsS y.length 0 [l]).isEmpty = true from rfl)]; exact one l rfl
    | cons m r =>
      have hlen : x.length = (joinS y.cps.toList (l :: m :: r)).length := by rw [← hx, clen]
      have ej : joinS y.cps.toList (l :: m :: r) = l ++ (y.cps.toList ++ joinS y.cps.toList (m :: r)) := rfl
      rw [ej, List.length_append, List.length_append, clen] at hlen
      rw [if_neg (fun h => by have := of_decide_eq_true h; omega), ho, if_neg (by intro h; cases h), partsBetween_eq]
      exact hp
theorem sjoin_S (y : Str) : ∀ ws : List Str, (Str.join y ws).cps.toList = joinS y.cps.toList (ws.map fun z => z.cps.toList)
  | [] => rfl
  | [z] => rfl
  | z :: w :: r => by
    have ih := sjoin_S y (w :: r)
    show (z ++ y ++ Str.join y (w :: r)).cps.toList = z.cps.toList ++ (y.cps.toList ++ joinS y.cps.toList ((w :: r).map fun z => z.cps.toList))
    rw [← ih, app_list, app_list, List.append_assoc]
theorem split_join_S {y : Str} {u t : List Nat} {c : Nat} (S : Sep y u c t) {ws : List Str} (hn : ws ≠ []) (hc : ∀ z ∈ ws, c ∉ z.cps.toList) : Txt.split (Str.join y ws) y = ws := by
  rw [split_S S (ls := ws.map fun z => z.cps.toList) (fun e => hn (List.map_eq_nil_iff.mp e)) (fun l hl => ?_) (sjoin_S y ws), List.map_map]
  · have : (mkS ∘ fun z : Str => z.cps.toList) = _root_.id := by funext z; exact str_mk z
    rw [this, List.map_id]
  · obtain ⟨z, hz, rfl⟩ := List.mem_map.mp hl
    exact hc z hz
theorem split_pair {y : Str} {u t : List Nat} {c : Nat} (S : Sep y u c t) {a b : Str} (ha : c ∉ a.cps.toList) (hb : c ∉ b.cps.toList) : Txt.split (a ++ y ++ b) y = [a, b] := by
  refine split_join_S S (ws := [a, b]) (fun e => nomatch e) fun z hz => ?_
  rcases List.mem_cons.mp hz with rfl | hz
  · exact ha
  · rw [List.mem_singleton.mp hz]; exact hb
theorem sep_bar : Sep (Str.ofString " | ") [32] 124 [32] := ⟨by decide +kernel, by decide, by decide, by decide +kernel⟩
theorem sep_nl : Sep (Str.ofString "\n") [] 10 [] := ⟨by decide +kernel, by decide, by decide, by decide +kernel⟩
theorem sep_colon : Sep (Str.ofString ": ") [] 58 [32] := ⟨by decide +kernel, by decide, by decide, by decide +kernel⟩
theorem sep_semi : Sep (Str.ofString "; ") [] 59 [32] := ⟨by decide +kernel, by decide, by decide, by decide +kernel⟩
theorem sep_sp : Sep (Str.ofString " ") [] 32 [] := ⟨by decide +kernel, by decide, by decide, by decide +kernel⟩
theorem sep_comma : Sep (Str.ofString ",") [] 44 [] := ⟨by decide +kernel, by decide, by decide, by decide +kernel⟩
theorem mem_join {y : Str} {c : Nat} : ∀ {ws : List Str}, c ∈ (Str.join y ws).cps.toList → c ∈ y.cps.toList ∨ ∃ z ∈ ws, c ∈ z.cps.toList
  | [], h => nomatch h
  | [z], h => .inr ⟨z, List.mem_cons_self, h⟩
  | z :: w :: r, h => by
    have h : c ∈ (z ++ y ++ Str.join y (w :: r)).cps.toList := h
    rw [app_list, app_list, List.mem_append, List.mem_append] at h
    rcases h with (h | h) | h
    · exact .inr ⟨z, List.mem_cons_self, h⟩
    · exact .inl h
    · rcases mem_join h with h | ⟨v, hv, h⟩
      · exact .inl h
      · exact .inr ⟨v, List.mem_cons_of_mem _ hv, h⟩
theorem ent_signs {v : V} (h : Ent v) {c : Nat} (hc : c ∈ (entS v).cps.toList) : c = 45 ∨ (97 ≤ c ∧ c ≤ 122) := by
  rcases h with rfl | ⟨z, hz, rfl⟩
  · have e : (entS .non).cps.toList = [45] := by decide +kernel
    rw [e] at hc
    exact .inl (List.mem_singleton.mp hc)
  · have := hz.al c hc
    unfold Al at this
    exact .inr (by omega)
theorem rows_signs {ns : List Nat} {c : Nat} (hc : c ∈ (Str.join (Str.ofString ",") (ns.map fun n => numS ((n : Nat) : Int))).cps.toList) : c = 44 ∨ (48 ≤ c ∧ c ≤ 57) := by
  rcases mem_join hc with h | ⟨z, hz, h⟩
  · rw [sep_comma.e] at h
    exact .inl (List.mem_singleton.mp h)
  · obtain ⟨n, _, rfl⟩ := List.mem_map.mp hz
    have := numS_digits n c h
    exact .inr (by omega)
theorem rdg_signs {x : Rdg} (h : RdgOk x) {c : Nat} (hc : c ∈ (rdgS x).cps.toList) : c = 32 ∨ c = 44 ∨ c = 45 ∨ (48 ≤ c ∧ c ≤ 57) ∨ (97 ≤ c ∧ c ≤ 122) := by
  unfold rdgS at hc
  rw [app_list, app_list, List.mem_append, List.mem_append, sep_sp.e] at hc
  rcases hc with (h1 | h1) | h1
  · have := ent_signs h.1 h1
    omega
  · have : c = 32 := List.mem_singleton.mp h1
    omega
  · have := rows_signs h1
    omega
theorem rdgs_signs {xs : List (Addr × Rdg)} (h : ∀ y ∈ xs, RdgOk y.2) {c : Nat} (hc : c ∈ (Str.join (Str.ofString "; ") (xs.map fun y => rdgS y.2)).cps.toList) : c = 59 ∨ c = 32 ∨ c = 44 ∨ c = 45 ∨ (48 ≤ c ∧ c ≤ 57) ∨ (97 ≤ c ∧ c ≤ 122) := by
  rcases mem_join hc with h1 | ⟨z, hz, h1⟩
  · rw [sep_semi.e] at h1
    rcases List.mem_cons.mp h1 with h1 | h1
    · exact .inl h1
    · exact .inr (.inl (List.mem_singleton.mp h1))
  · obtain ⟨y, hy, rfl⟩ := List.mem_map.mp hz
    exact .inr (rdg_signs (h y hy) h1)
theorem note_signs {x : Note} (h : ∀ y ∈ x.2, RdgOk y.2) {c : Nat} (hc : c ∈ (noteS x).cps.toList) : c ≠ 10 := by
  unfold noteS at hc
  rw [app_list, app_list, List.mem_append, List.mem_append, sep_colon.e] at hc
  rcases hc with (h1 | h1) | h1
  · have := numS_digits x.1 c h1
    omega
  · rcases List.mem_cons.mp h1 with h1 | h1
    · omega
    · have := List.mem_singleton.mp h1; omega
  · have := rdgs_signs h h1
    omega
theorem head_signs {es : List V} (h : ∀ e ∈ es, Ent e) {c : Nat} (hc : c ∈ (headS es).cps.toList) : c ≠ 10 := by
  unfold headS at hc
  rcases mem_join hc with h1 | ⟨z, hz, h1⟩
  · rw [sep_bar.e] at h1
    intro e
    rw [e] at h1
    revert h1
    decide
  · obtain ⟨e, he, rfl⟩ := List.mem_map.mp hz
    have := ent_signs (h e he) h1
    omega
theorem cut_head {es : List V} (hE : ∀ e ∈ es, Ent e) (hn : es ≠ []) : Txt.split (headS es) (Str.ofString " | ") = es.map entS := by
  unfold headS
  refine split_join_S sep_bar (fun e => hn (List.map_eq_nil_iff.mp e)) fun z hz h => ?_
  obtain ⟨e, he, rfl⟩ := List.mem_map.mp hz
  have := ent_signs (hE e he) h
  omega
theorem cut_note {x : Note} (h : ∀ y ∈ x.2, RdgOk y.2) : Txt.split (noteS x) (Str.ofString ": ") = [numS ((x.1 : Nat) : Int), Str.join (Str.ofString "; ") (x.2.map fun y => rdgS y.2)] := by
  refine split_pair sep_colon (fun hc => ?_) fun hc => ?_
  · have := numS_digits x.1 _ hc
    omega
  · have := rdgs_signs h hc
    omega
theorem cut_rdgs {xs : List (Addr × Rdg)} (h : ∀ y ∈ xs, RdgOk y.2) (hn : xs ≠ []) : Txt.split (Str.join (Str.ofString "; ") (xs.map fun y => rdgS y.2)) (Str.ofString "; ") = xs.map fun y => rdgS y.2 := by
  refine split_join_S sep_semi (fun e => hn (List.map_eq_nil_iff.mp e)) fun z hz hc => ?_
  obtain ⟨y, hy, rfl⟩ := List.mem_map.mp hz
  have := rdg_signs (h y hy) hc
  omega
theorem cut_rdg {x : Rdg} (h : RdgOk x) : Txt.split (rdgS x) (Str.ofString " ") = [entS x.1, Str.join (Str.ofString ",") (x.2.map fun n => numS ((n : Nat) : Int))] := by
  refine split_pair sep_sp (fun hc => ?_) fun hc => ?_
  · have := ent_signs h.1 hc
    omega
  · have := rows_signs hc
    omega
theorem cut_rows {ns : List Nat} (hn : ns ≠ []) : Txt.split (Str.join (Str.ofString ",") (ns.map fun n => numS ((n : Nat) : Int))) (Str.ofString ",") = ns.map fun n => numS ((n : Nat) : Int) := by
  refine split_join_S sep_comma (fun e => hn (List.map_eq_nil_iff.mp e)) fun z hz hc => ?_
  obtain ⟨n, _, rfl⟩ := List.mem_map.mp hz
  have := numS_digits n _ hc
  omega
theorem head_nil {es : List V} (hE : ∀ e ∈ es, Ent e) : headS es = Str.ofString "" ↔ es = [] := by
  constructor
  · intro h
    cases es with
    | nil => rfl
    | cons e r =>
      exfalso
      have h1 := cut_head hE (fun z => nomatch z)
      have h3 := congrArg (fun z : Str => z.cps.toList) h
      have e0 : (Str.ofString "").cps.toList = [] := by decide +kernel
      have h3 : (headS (e :: r)).cps.toList = [] := h3.trans e0
      have h4 : 0 < (entS e).length := by
        rcases hE e List.mem_cons_self with rfl | ⟨z, hz, rfl⟩
        · decide +kernel
        · exact hz.lo
      have h5 : ∃ c, c ∈ (entS e).cps.toList := by
        rw [← clen] at h4
        exact ⟨_, List.getElem_mem h4⟩
      obtain ⟨c, hc⟩ := h5
      have h6 : c ∈ (headS (e :: r)).cps.toList := by
        unfold headS
        rw [sjoin_S, List.map_cons, List.map_cons]
        cases r with
        | nil => exact hc
        | cons f r => exact List.mem_append_left _ hc
      rw [show (headS (e :: r)).cps.toList = [] from h3] at h6
      cases h6
  · rintro rfl
    rfl
end
end Vm
set_option Elab.async false
set_option linter.all false
set_option Elab.async false
set_option linter.all false
set_option maxRecDepth 100000
set_option maxHeartbeats 4000000
namespace L3
open PySem PySem.Spec PyProof.Rows L2
abbrev Cx.pinned (X : Cx) (pn : List (Addr × Obj)) : Cx := { X with pn := pn }
section
variable {X : Cx} {pins : List (Addr × Obj)} {σ : L2.St} {H : Hp} {s : Shared}
theorem ok_pinned (ok : X.Ok) (pn : List (Addr × Obj)) : (Cx.pinned X pn).Ok :=
  ⟨ok.mod, ok.kind, ok.glob, ok.blt, ok.above, ok.inj, ok.has, ok.cab, ok.hd, ok.frames, ok.stk, ok.exf, ok.bs, ok.bsz, ok.noex, ok.exfs, ok.funs, ok.frf⟩
theorem inv_pinned (I : Inv X pins σ H s) : Inv (Cx.pinned X (X.pn ++ pins)) [] σ H s :=
  ⟨ok_pinned I.ok _, I.os, I.bare, I.base, I.loc, I.cell, I.free, I.freeC, fun p hp => I.pin p (by simpa using hp), I.hok, I.len⟩
theorem inv_unpinned {pins' : List (Addr × Obj)} (ok : X.Ok) (I : Inv (Cx.pinned X (X.pn ++ pins)) pins' σ H s) : Inv X pins σ H s :=
  ⟨ok, I.os, I.bare, I.base, I.loc, I.cell, I.free, I.freeC, fun p hp => I.pin p (List.mem_append_left _ hp), I.hok, I.len⟩
end
end L3
set_option Elab.async false
set_option linter.all false
set_option maxRecDepth 100000
set_option maxHeartbeats 4000000
namespace L3
open PySem PySem.Spec PyProof.Rows L2
def FlyC (Y : Cx) (E : XK) (e : Value) (s : Shared) : Prop := ∃ (pins : List (Addr × Obj)) (σ : L2.St) (H : Hp) (ea T C : Addr), e = .ref ea ∧ Inv Y pins σ H s ∧ NB Y pins H ea ∧ NB Y pins H T ∧ E (.ref C) none H ∧ Exc s.heap ea T C .none
abbrev compF (X : Cx) (Nc : List Str) (scope : Scope) (cl : List (Str × Addr)) (C : Addr) (s : Shared) (H : Hp) (fp : List Addr) (pn : List (Addr × Obj)) (E : XK) : Cx := (Cx.pinned (comp X Nc scope cl C s H fp) pn).wish (FlyC (Cx.pinned (comp X Nc scope cl C s H fp) pn) E)
abbrev Held (fp : List Addr) (pn : List (Addr × Obj)) : Prop := ∀ b ∈ fp, ∃ o, (b, o) ∈ pn
section
variable {X : Cx} {scope : Scope} {Nc : List Str} {cl : List (Str × Addr)} {C : Addr} {s0 : Shared} {H0 : Hp} {fp : List Addr} {pn : List (Addr × Obj)} {E : XK}
theorem nb_in {Y : Cx} {pins : List (Addr × Obj)} {σ : L2.St} {H : Hp} {s : Shared} {b : Addr} (I : Inv Y pins σ H s) (hex : Held Y.ex Y.pn) (hb : s.heap.get? b = none) : NB Y pins H b := by
  refine ⟨?_, fun z => ?_, fun y c' ec z => ?_, fun q hq z => ?_, hok_none I.hok hb⟩
  · cases q : Y.s₀.heap.get? b with
    | none => rfl
    | some o =>
      obtain ⟨o', z⟩ := I.base.there b o q (fun hx => by
        obtain ⟨o2, m⟩ := hex b hx
        have := (I.pin (b, o2) (List.mem_append_left _ m)).1
        rw [hb] at this; cases this)
      rw [hb] at z
      cases z
  · obtain ⟨m, ⟨o, _, _, ho, _⟩, _⟩ := I.loc
    rw [← z, hb] at ho; cases ho
  · obtain ⟨v, o, ho, _⟩ := I.cell y c' ec
    rw [z, hb] at ho; cases ho
  · have := (I.pin q hq).1
    rw [z, hb] at this; cases this
theorem passesC {P : Program} {w : World} (hP : X.prog = P) (hw : X.w = w) (hpn : Held fp pn) : Passes (CXv P w) (compF X Nc scope cl C s0 H0 fp pn E) E := by
  subst hP hw
  intro pins σ H s e s' I hx
  obtain ⟨ea, T0, C', H', rfl, x, n1, n2, t1, t2, os, bare, un, hok, hE⟩ := hx
  have I0 : Inv (Cx.pinned (comp X Nc scope cl C s0 H0 fp) pn) pins σ H s := I.unwish
  have I' : Inv (Cx.pinned (comp X Nc scope cl C s0 H0 fp) pn) pins σ H' s' := I0.call' os un hok bare fun b z => absurd z (by simp)
  exact ⟨pins, σ, H', ea, T0, C', rfl, I', (nb_in I0 hpn n1).to t1, (nb_in I0 hpn n2).to t2, hE, x⟩
end
section
variable {M : Model} {A : Around} {E : Value → Shared → Prop} {s : Shared} {env : Env}
def compPostX (M : Model) (A : Around) (E : Value → Shared → Prop) (scope : Scope) (env : Env) (Q : Value → Shared → Prop) (acc : Value) (cenv : Env) (r : Result) (s' : Shared) : Prop :=
  match r with
  | .ok _ => ∃ m, s'.heap.Ns cenv.locals m ∧ ∀ h', Heap.SameBut cenv.locals s'.heap h' → Q acc { s' with heap := h' }
  | .error x => ∃ m, s'.heap.Ns cenv.locals m ∧ ∀ h', Heap.SameBut cenv.locals s'.heap h' → wpAny M A (passOn "comprehension.variables-let-go" x { cenv with scope := relabel scope env } : Sem Value) (fun _ _ => False) E { s' with heap := h' }
theorem comprehension_freeX {e : Expr} {scope : Scope} {pos : Pos} {newAcc first : Sem Value} {g : Comprehension} {gs : List Comprehension} {cl : List (Str × Addr)}
    {Q : Value → Shared → Prop}
    (hcl : clausesOf e = g :: gs) (hs : ∀ x, foldedSetIterable g.iter env x = pure x) (hclos : closureFor scope env = pure cl)
    (hkind : scope.kind = .function) (hnames : ∀ x ∈ scope.names, x.2 = .local → scope.names.lookup x.1 = some .local)
    (h : wpAny M A first (fun x s₁ => wpAny M A (pyIter x) (fun it s₂ => wpAny M A newAcc (fun acc s₃ =>
      wpAny M A (newFunctionEnv scope env.globals cl [] env.qual none .none (some env)) (fun cenv s₄ =>
        codeAny M A (.compStart e 0 it acc { cenv with scope := relabel scope env }) (compPostX M A E scope env Q acc cenv) s₄) E s₃) E s₂) E s₁) E s) :
    wpAny M A (comprehension e scope env pos newAcc false first none) Q E s := by
  unfold comprehension
  rw [hclos, hcl]
  refine wpAny_bind (wpAny_mono h (fun x s₁ h₁ => wpAny_bind (wpAny_standAt (wpAny_bind (wpAny_of_eq (hs x) (wpAny_bind (wpAny_holding (wpAny_mono h₁ (fun it s₂ h₂ =>
    wpAny_standIf (wpAny_bind (wpAny_mono h₂ (fun acc s₃ h₃ => wpAny_bind (wpAny_pure (wpAny_bind (wpAny_mono h₃ (fun cenv s₄ h₄ => ?_) fun _ _ h' => h')))) fun _ _ h' => h')))
      fun _ _ h' => h'))))))) fun _ _ h' => h')
  dsimp only
  have hv : ∀ x ∈ (scope.names.filter fun x => (x.2 == .local || x.2 == .cell) && x.1 != (".0" : Str)).reverse, x.2 = .local →
      Env.kindOf { cenv with scope := relabel scope env } x.1 = some .local := fun x hx hl => lookup_relabel_local (hnames x (List.mem_filter.mp (List.mem_reverse.mp hx)).1 hl)
  refine wpAny_holding (wpAny_bind (wpAny_attempt (wpAny_holding (wpAny_run (codeAny_mono h₄ fun r s' hr => ?_)))))
  cases r with
  | ok f =>
    obtain ⟨m, hn, hr⟩ := hr
    exact wpAny_bind (wpAny_holding (wpAny_comp_letGo (cenv := { cenv with scope := relabel scope env }) hkind _ s' m hv hn fun h' m' _ hs' => wpAny_pure (hr h' hs')))
  | error x =>
    obtain ⟨m, hn, hr⟩ := hr
    exact wpAny_bind (wpAny_holding (wpAny_comp_letGo (cenv := { cenv with scope := relabel scope env }) hkind _ s' m hv hn fun h' m' _ hs' => wpAny_mono (hr h' hs') (fun _ _ f => f.elim) fun _ _ y => y))
end
section
variable {prog : Program} {w : World} {A : Around} {R : Result → Shared → Prop} {s : Shared}
theorem compLoop_X {elt target iter : Expr} {ifs : List Expr} {scope : Scope} {pos : Pos} {it acc : Value} {env : Env} (EE : Value → Shared → Prop) (hEE : ∀ e s, EE e s → notedBy (model prog w) A env (fun e s' => R (.error e) s') e s) (I : Nat → Shared → Prop)
    (turn : ∀ n s, I n s → wpAny (model prog w) A (pyNext it) (fun r s₁ => match r with
      | none => R (.ok .next) s₁
      | some v => wpAny (model prog w) A (letOwnedTupleGo target it v) (fun _ s₀ => wpAny (model prog w) A (assign target env v) (fun _ s₂ =>
          wpAny (model prog w) A (forIn ifs true fun c r => if r = true then do let ok ← isTrue c env (eval c env); pure (ForInStep.yield ok) else pure (ForInStep.yield r)) (fun ok s₃ =>
            if ok = true then wpAny (model prog w) A (eval elt env) (fun x s₄ =>
              wpAny (model prog w) A (call (.builtin "list.append") [acc, x]) (fun _ s₅ => ∃ m, m < n ∧ I m s₅) EE s₄) EE s₃
            else ∃ m, m < n ∧ I m s₃) EE s₂) EE s₀) EE s₁) EE s)
    (n : Nat) (h : I n s) :
    codeAny (model prog w) A (.compLoop (.ListComp elt [⟨target, iter, ifs, 0⟩] scope pos) 0 it acc env) R s := by
  refine codeAny_loop rfl I (fun n s hI => ?_) n h
  show wpAny _ A ((compTurn (.ListComp elt [⟨target, iter, ifs, 0⟩] scope pos) 0 it acc env).onRaise (fun x => do noteFrame x env; theTreesLotGoes x)) _ _ s
  refine wpAny_noted (wpAny_mono (E := EE) ?_ (fun _ _ q => q) hEE)
  rw [compTurn_list]
  refine wpAny_bind (wpAny_standAt (wpAny_bind (wpAny_mono (turn n s hI) (fun r s₁ h₁ => ?_) fun _ _ h' => h')))
  cases r with
  | none => exact wpAny_pure h₁
  | some v =>
    refine wpAny_bind (wpAny_mono h₁ (fun _ s₀ h₀ => ?_) fun _ _ h' => h')
    refine wpAny_bind (wpAny_mono h₀ (fun _ s₂ h₂ => wpAny_bind (wpAny_mono h₂ (fun ok s₃ h₃ => ?_) fun _ _ h' => h')) fun _ _ h' => h')
    cases ok with
    | false => exact wpAny_pure ⟨rfl, h₃⟩
    | true =>
      exact wpAny_bind (wpAny_bind (wpAny_mono h₃ (fun x s₄ h₄ => wpAny_bind (wpAny_mono h₄ (fun _ s₅ h₅ => wpAny_pure (wpAny_pure ⟨rfl, h₅⟩)) fun _ _ h' => h')) fun _ _ h' => h'))
end
section
variable {X : Cx} {pins : List (Addr × Obj)} {σ : L2.St} {H : Hp} {s : Shared} {scope : Scope} {Nc : List Str} {mp : List (Option Nat)} {cl : List (Str × Addr)} {C : Addr} {fp : List Addr}
theorem comp_outX {σ' : L2.St} {H' : Hp} {s' : Shared} {h' : Heap} {pn pins' : List (Addr × Obj)} (I : Inv X pins σ H s) (hC : s.heap.objs.size ≤ C) (hf : ∀ b ∈ fp, FpOk X pins H b)
    (J : Inv (Cx.pinned (comp X Nc scope cl C s H fp) pn) pins' σ' H' s') (hs : Heap.SameBut C s'.heap h') : Inv X pins σ H' { s' with heap := h' } := by
  have u : Un (frs X.stack) fp H H' s.heap s'.heap := J.base
  have neC : ∀ b o, s.heap.get? b = some o → b ≠ C := fun b o e => Nat.ne_of_lt (Nat.lt_of_lt_of_le (Heap.lt_size e) hC)
  refine I.call' (ch := fp) (s' := { s' with heap := h' }) J.os ⟨fun b o e nb hb hx => ?_, fun b o e nb hb hx => ?_, u.free, fun b o e hx => ?_, u.tups, u.frzs, u.tbls⟩ (fun b o e => ?_) J.bare fun b hb => ⟨(hf b hb).2.2.2.1, (hf b hb).2.1, (hf b hb).2.2.2.2.1, (hf b hb).2.2.2.2.2⟩
  · exact (hs.2 b (neC b o e)).trans (u.keep b o e nb hb hx)
  · obtain ⟨sl, q⟩ := u.slot b o e nb hb hx
    exact ⟨sl, (hs.2 b (neC b o e)).trans q⟩
  · obtain ⟨o', q⟩ := u.there b o e hx
    exact ⟨o', (hs.2 b (neC b o e)).trans q⟩
  · have freeC' : H' C = none := J.free
    refine (J.hok b o e).stay (fun c v hc q => (hs.2 c ?_).trans q) (fun c q => q) fun c xs q => q
    rcases hc with z | z
    · rw [z]; exact fun y => by rw [y, freeC'] at e; cases e
    · exact fun y => by rw [y, freeC'] at z; cases z
end
section
variable {X : Cx} {scope : Scope} {Nc : List Str} {mp : List (Option Nat)} {tg iter elt : Expr} {ifs : List Expr} {pos : Pos} {wi : TI} {g : TG} {tt : TT} {te : TE} {E : XK}
def EEx (X : Cx) (Nc : List Str) (scope : Scope) (cl : List (Str × Addr)) (C : Addr) (s : Shared) (H : Hp) (fp : List Addr) (E : XK) (e : Value) (s' : Shared) : Prop := ∃ pn, FlyC (Cx.pinned (comp X Nc scope cl C s H fp) pn) E e s'
theorem ee_out {pins : List (Addr × Obj)} {σ : L2.St} {H : Hp} {s2 s' : Shared} {cl : List (Str × Addr)} {C : Addr} {fp : List Addr} {e : Value} {acc : Value} {Q : Value → Shared → Prop} {cenv : Env} (hst : X.stack = X.env :: X.outer ∧ X.env.frame = some X.env.locals) (hex : X.ex = [])
    (I : Inv (X.wish (Fly X E)) pins σ H s2) (hC : s2.heap.objs.size ≤ C) (hf : ∀ b ∈ fp, FpOk (X.wish (Fly X E)) pins H b) (hce : cenv.locals = C) (hcf : cenv.frame = X.env.frame)
    (h : EEx (X.wish (Fly X E)) Nc scope cl C s2 H fp E e s') : notedBy (model X.prog X.w) X.A (compEnvC scope cl C X.env) (fun e s'' => compPostX (model X.prog X.w) X.A (Fly X E) scope X.env Q acc cenv (.error e) s'') e s' := by
  obtain ⟨pn, pins', σ', H', ea, T0, C', rfl, J, n1, n2, hE, x⟩ := h
  have I0 : Inv X pins σ H s2 := I.unwish
  have fr : X.A.frames = some (X.env :: X.outer) := by rw [← hst.1]; exact I0.ok.frames
  have stk := J.stack
  have stk' : s'.heap.FunFrames X.base (X.env :: X.outer) := by
    have : s'.heap.FunFrames X.base X.stack := stk
    rw [hst.1] at this
    exact this
  show wpAny _ X.A (noteFrame (.ref ea) X.env) _ _ s'
  refine note_on (base := X.base) (outer := X.outer) fr stk' hst.2 x fun k1 T hT x1 kp1 => ?_
  have kp : Kpt [ea, T0] (frs X.stack) s'.heap k1 := by rw [hst.1]; exact kp1
  have J1 := inv_nb (t' := s'.toks) J kp (fun b hb => by
    rcases List.mem_cons.mp hb with z | z
    · rw [z]; exact n1
    · rw [List.mem_singleton.mp z]; exact n2)
  obtain ⟨m, hm, _⟩ := J1.loc
  have hm' : k1.Ns C m := hm
  refine ⟨m, by rw [hce]; exact hm', fun h' hs' => ?_⟩
  rw [hce] at hs'
  have I3 := (comp_outX (h' := h') I hC hf J1 hs').unwish
  have nea : ea ≠ C := n1.loc
  have nTh : s'.heap.get? T = none := size_none hT
  have hHT : H' T = none := hok_none J.hok nTh
  have nT : T ≠ C := fun z => by
    obtain ⟨m0, ⟨o, _, _, ho, _⟩, _⟩ := J.loc
    have ho' : s'.heap.get? C = some o := ho
    rw [← z, nTh] at ho'; cases ho'
  have mT0 : s2.heap.get? T = none := size_none (Nat.le_trans J.sz hT)
  have x2 : Exc h' ea T C' (rawInt X.env.locals) := by
    obtain ⟨⟨vs, he, h1⟩, ⟨oT, ts, hT', dT, h3⟩, ne⟩ := x1
    exact ⟨⟨vs, (hs'.2 ea nea).trans he, h1⟩, ⟨oT, ts, (hs'.2 T nT).trans hT', dT, h3⟩, ne⟩
  have m1 : NB X pins H' ea := (nb_of I0 hex n1.s0).to n1.hp
  have m2 : NB X pins H' T := (nb_of I0 hex mT0).to hHT
  obtain ⟨⟨vs, he, h1⟩, _⟩ := id x2
  unfold PySem.passOn
  refine wpAny_bind (wpAny_field he rfl h1 ?_)
  rw [if_neg (show ¬ (Value.ref T == Value.none) = true by simp)]
  have FN : FlyN X E (.ref ea) { s' with heap := h' } := ⟨pins, σ, H', ea, T, C', rfl, I3, m1, m2, hE, x2⟩
  first
    | refine wpAny_bind (fly_set (to := cenv.frame) FN fun s3 p3 σ3 H3 ea3 T3 C3 e3 J3 q1 q2 hE3 x3 => ?_)
    | refine wpAny_bind (wpAny_pure (wpAny_bind (fly_set (to := cenv.frame) FN fun s3 p3 σ3 H3 ea3 T3 C3 e3 J3 q1 q2 hE3 x3 => ?_)))
  rw [hcf, hst.2] at x3
  refine wpAny_throw ?_
  exact ⟨p3, σ3, H3, ea3, C3, e3, J3, q1, hE3, .inr ⟨T3, _, x3, q2, .inr rfl⟩⟩
end
abbrev cenvOf (scope : Scope) (C : Addr) (X : Cx) (cl : List (Str × Addr)) : Env := newEnv scope C X.env.globals cl X.env.qual none .none (some X.env) builtinsNs
section
variable {X : Cx} {scope : Scope} {Nc : List Str} {mp : List (Option Nat)} {tg iter elt : Expr} {ifs : List Expr} {pos : Pos} {wi : TI} {g : TG} {tt : TT} {te : TE} {E : XK}
theorem comp_blockX {pins : List (Addr × Obj)} {σ : L2.St} {H : Hp} {s2 : Shared} {it : Addr} {fp : List Addr} {tn : Nat → Heap → Prop} {J : It} {cl : List (Str × Addr)} {RR : Value → Env → Result → Shared → Prop} {Q : VK}
    (hc : X.calm = true) (S : CompOk X scope Nc mp)
    (hb : ∀ cl C s H fp pn, Held fp pn → PG (compF X Nc scope cl C s H fp pn E) tg g ∧ PTs (compF X Nc scope cl C s H fp pn E) ifs tt ∧ PE (compF X Nc scope cl C s H fp pn E) elt te)
    (h1 : ∀ x c, cl.lookup x = some c → X.env.cells.lookup x = some c) (h2 : ∀ y ∈ scope.names, y.2 = .free → ∃ c, cl.lookup y.1 = some c)
    (I : Inv X pins σ H s2) (T : Turn X.prog X.w X.K tg J fp it tn) (st : tn 0 s2.heap) (hf : ∀ b ∈ fp, FpOk X pins H b) (hw : wComp J g tt te Q (mapS mp σ) H)
    (hR : ∀ D C s' H' cenv, cenv.locals = C → s2.heap.objs.size ≤ C → s2.heap.objs.size ≤ D → D ≠ C → (∃ m, s'.heap.Ns C m) → (∀ h', Heap.SameBut C s'.heap h' → Inv X pins σ H' { s' with heap := h' }) → H' C = none → Q (.ref D) H' → RR (.ref D) cenv (.ok .next) s')
    (hX : ∀ D C s' e cenv, cenv.locals = C → cenv.frame = X.env.frame → s2.heap.objs.size ≤ C → EEx X Nc scope cl C s2 H fp E e s' → notedBy (model X.prog X.w) X.A (compEnvC scope cl C X.env) (fun e s'' => RR (.ref D) cenv (.error e) s'') e s') :
    wpAny (model X.prog X.w) X.A (newList []) (fun acc s₃ => wpAny (model X.prog X.w) X.A (newFunctionEnv scope X.env.globals cl [] X.env.qual none .none (some X.env)) (fun cenv s₄ =>
      codeAny (model X.prog X.w) X.A (.compStart (.ListComp elt [⟨tg, iter, ifs, 0⟩] scope pos) 0 (.ref it) acc { cenv with scope := relabel scope X.env }) (RR acc cenv) s₄) X.xe s₃) X.xe s2 := by
  obtain ⟨W, ⟨m0, w0⟩, turn⟩ := hw
  refine wpAny_newObj_type (wpAny_newFunctionEnv S.noc (by intro y hy; simp at hy) (fun h₁ hns₁ hsb₁ => ?_) S.kind)
  dsimp only at hns₁ hsb₁ ⊢
  generalize hH2 : s2.heap.push { cls := .type "list", dict := none, data := .seq ([] : List Value).toArray } = H2 at hns₁ hsb₁ ⊢
  have hC : H2.objs.size = s2.heap.objs.size + 1 := by rw [← hH2, Heap.size_push]
  have hDC : s2.heap.objs.size ≠ H2.objs.size := by rw [hC]; exact Nat.ne_of_lt (Nat.lt_succ_self _)
  have hCle : s2.heap.objs.size ≤ H2.objs.size := by rw [hC]; exact Nat.le_succ _
  have below : ∀ b, b < s2.heap.objs.size → b ≠ H2.objs.size := fun b hb => by rw [hC]; exact Nat.ne_of_lt (Nat.lt_succ_of_lt hb)
  have old : ∀ b o, s2.heap.get? b = some o → h₁.get? b = some o := fun b o e => hsb₁.extBut b o (below b (Heap.lt_size e)) (Heap.get?_push_of_some _ (hH2 ▸ Heap.get?_push_of_some _ e))
  have eD : h₁.get? s2.heap.objs.size = some { cls := .type "list", data := .seq ([] : List Value).toArray 0 } := hsb₁.extBut _ _ hDC (Heap.get?_push_of_some _ (hH2 ▸ Heap.get?_push_size _ rfl))
  have ho : ∀ b ∈ fp, b < s2.heap.objs.size := fun b hb => by
    obtain ⟨o, e, _⟩ := T.obj 0 _ st b hb
    exact Heap.lt_size e
  generalize hYd : comp X Nc scope cl H2.objs.size s2 H fp = Y
  have bodies : ∀ pn, Held fp pn → PG ((Cx.pinned Y pn).wish (FlyC (Cx.pinned Y pn) E)) tg g ∧ PTs ((Cx.pinned Y pn).wish (FlyC (Cx.pinned Y pn) E)) ifs tt ∧ PE ((Cx.pinned Y pn).wish (FlyC (Cx.pinned Y pn) E)) elt te := fun pn hp => by
    rw [← hYd]
    exact hb cl H2.objs.size s2 H fp pn hp
  have hEE : ∀ e s', (∃ pn, FlyC (Cx.pinned Y pn) E e s') → notedBy (model X.prog X.w) X.A (compEnvC scope cl H2.objs.size X.env) (fun e s'' => RR (.ref s2.heap.objs.size) (cenvOf scope H2.objs.size X cl) (.error e) s'') e s' := fun e s' h => by
    rw [← hYd] at h
    exact hX _ _ s' e (cenvOf scope H2.objs.size X cl) rfl rfl hCle h
  have I0 : ∀ tk, Inv Y [(s2.heap.objs.size, { cls := .type "list", data := .seq ([] : List Value).toArray 0 })] (mapS mp σ) H { s2 with heap := h₁, toks := tk } := fun tk => by
    rw [← hYd]
    exact comp_inv I S h1 h2 hCle hf ho old hns₁ (Nat.le_refl _) hDC eD fun v z => by cases z
  have hYp : Y.prog = X.prog := by rw [← hYd]; rfl
  have hYw : Y.w = X.w := by rw [← hYd]; rfl
  have hYK : Y.K = X.K := by rw [← hYd]; rfl
  have hYA : Y.A = X.A := by rw [← hYd]; rfl
  have hYc : Y.calm = true := by rw [← hYd]; exact hc
  have hYe : Y.env = compEnvC scope cl H2.objs.size X.env := by rw [← hYd]; rfl
  have hYs : Y.s₀ = s2 := by rw [← hYd]; rfl
  have hYex : Y.ex = fp := by rw [← hYd]; rfl
  have hYpn : Y.pn = [] := by rw [← hYd]; rfl
  have hYfs : Y.fs = frs X.stack := by rw [← hYd]; rfl
  -- the iterator's objects, in the block
  have fpY : ∀ {o : Obj} {H' : Hp}, (∀ b ∈ fp, H' b = none) → ∀ b ∈ fp, FpOk Y [(s2.heap.objs.size, o)] H' b := fun {o H'} hn b hb => by
    refine ⟨hn b hb, ?_, ?_, .inl (by rw [hYex]; exact hb), fun x c e => ?_, fun p hp => ?_⟩
    · rw [hYe]; exact below b (ho b hb)
    · rw [hYfs]
      intro z
      rcases List.mem_cons.mp (I.stkSub b z) with e | e
      · exact (hf b hb).2.1 e
      · exact (hf b hb).2.2.1 e
    · rw [hYe] at e
      exact (hf b hb).2.2.2.2.1 x c (h1 x c e)
    · rw [hYpn] at hp
      have e : p = (s2.heap.objs.size, o) := by simpa using hp
      subst e
      exact Nat.ne_of_gt (ho b hb)
  have loop : ∀ s₃ : Shared, s₃ = { s2 with heap := h₁, toks := s2.toks + ([] : List (Str × Value)).length } →
      codeAny (model X.prog X.w) X.A (.compLoop (.ListComp elt [⟨tg, iter, ifs, 0⟩] scope pos) 0 (.ref it) (.ref s2.heap.objs.size) (compEnvC scope cl H2.objs.size X.env))
        (RR (.ref s2.heap.objs.size) (cenvOf scope H2.objs.size X cl)) s₃ := by
    rintro s₃ rfl
    refine compLoop_X (fun e s' => ∃ pn, FlyC (Cx.pinned Y pn) E e s') hEE (fun n s' => ∃ i σ' H' acc its k, Inv Y [(s2.heap.objs.size, { cls := .type "list", data := .seq its.toArray k })] σ' H' s' ∧ tn i s'.heap ∧ (∀ b ∈ fp, H' b = none) ∧ Vals acc its ∧ acc.length ≤ sizeLine ∧ W i n σ' acc H') ?_ m0
      ⟨0, mapS mp σ, H, [], [], 0, I0 _, T.keep 0 _ _ st fun b _ o e => old b o e, fun b hb => (hf b hb).1, .nil, Nat.zero_le _, w0⟩
    rintro n s3 ⟨i, σ3, H3, acc, its, k, I3, st3, fr3, hv, hz, w3⟩
    rcases turn i n σ3 acc H3 w3 with ⟨stop, hzz, qn⟩ | ⟨go, step⟩
    · have hd := T.done Y hYp hYw hYK hYc i _ s3 σ3 H3 (fun e s' => ∃ pn, FlyC (Cx.pinned Y pn) E e s') I3 (fpY fr3) st3 stop
      rw [hYA] at hd
      refine thn hd fun r s4 ⟨hr, I4⟩ => ?_
      subst hr
      have I4' := I4
      rw [← hYd] at I4'
      have nC : H3 H2.objs.size = none := by
        have z := I4.free
        rw [hYe] at z
        exact z
      obtain ⟨_, nD⟩ := comp_out I hCle (Nat.le_refl _) hDC hf I4' (Heap.SameBut.refl _ s4.heap) hv hzz
      refine hR _ H2.objs.size s4 _ (cenvOf scope H2.objs.size X cl) rfl hCle (Nat.le_refl _) hDC ?_ (fun h' hs' => (comp_out I hCle (Nat.le_refl _) hDC hf I4' hs' hv hzz).1) ?_ (qn _ nD)
      · obtain ⟨m', hn', _⟩ := I4.loc
        rw [hYe] at hn'
        exact ⟨m', hn'⟩
      · rw [upd_ne (Ne.symm hDC)]; exact nC
    · have hi := T.item Y hYp hYw hYK hYc i _ s3 σ3 H3 (fun e s' => ∃ pn, FlyC (Cx.pinned Y pn) E e s') I3 (fpY fr3) st3 go
      rw [hYA] at hi
      refine thn hi fun r s4 ⟨u, hr, h4⟩ => ?_
      subst hr
      refine thn h4 fun _ s5 ⟨x, H5, I5, r5, y5, st5, fr5⟩ => ?_
      have I5' := I5.pinned (fpY fr5) (T.obj _ _ st5)
      obtain ⟨pn5, hpn⟩ : ∃ l, l = [(s2.heap.objs.size, ({ cls := .type "list", data := .seq its.toArray k } : Obj))] ++ pinsAt fp s5.heap := ⟨_, rfl⟩
      rw [← hpn] at I5'
      have held : Held fp (Y.pn ++ pn5) := fun b hb => by
        obtain ⟨o, e, _⟩ := T.obj _ _ st5 b hb
        exact ⟨o, List.mem_append_right _ (by rw [hpn]; exact List.mem_append_right _ (mem_pinsAt hb e))⟩
      have J5 := (inv_pinned I5').wish (FlyC (Cx.pinned Y (Y.pn ++ pn5)) E)
      obtain ⟨hg, htt, hte⟩ := bodies (Y.pn ++ pn5) held
      obtain ⟨Z, hZ⟩ : ∃ Z, Z = (Cx.pinned Y (Y.pn ++ pn5)).wish (FlyC (Cx.pinned Y (Y.pn ++ pn5)) E) := ⟨_, rfl⟩
      have hZp : Z.prog = X.prog := by rw [hZ]; exact hYp
      have hZw : Z.w = X.w := by rw [hZ]; exact hYw
      have hZA : Z.A = X.A := by rw [hZ]; exact hYA
      have hZe : Z.env = compEnvC scope cl H2.objs.size X.env := by rw [hZ]; exact hYe
      have hZx : ∀ e s', Z.xe e s' → ∃ pn, FlyC (Cx.pinned Y pn) E e s' := fun e s' h => by rw [hZ] at h; exact ⟨_, h⟩
      have back : ∀ {σ' : L2.St} {H' : Hp} {s' : Shared}, Inv Z [] σ' H' s' → Inv Y ([(s2.heap.objs.size, ({ cls := .type "list", data := .seq its.toArray k } : Obj))] ++ pinsAt fp s5.heap) σ' H' s' := fun {σ' H' s'} I => by
        rw [hZ] at I
        rw [← hpn]
        exact inv_unpinned I3.ok I.unwish
      rw [← hZ] at J5 hg htt hte
      have ha := hg _ s5 σ3 H5 x u _ J5 r5 (step x H5 y5)
      rw [hZp, hZw, hZA, hZe] at ha
      refine wpAny_mono ha (fun _ s6 ⟨σ6, H6, I6, q6⟩ => ?_) hZx
      have ht := htt _ s6 σ6 H6 _ I6 q6
      rw [hZp, hZw, hZA, hZe] at ht
      refine wpAny_mono ht (fun ok s7 ⟨H7, I7z, q7⟩ => ?_) hZx
      cases ok with
      | false =>
        have q7' : ∃ m', m' < n ∧ W (i + 1) m' σ6 acc H7 := q7
        obtain ⟨m', hm, w7⟩ := q7'
        have I7 := back I7z
        rw [if_neg Bool.false_ne_true]
        refine ⟨m', hm, i + 1, σ6, H7, acc, its, k, I7.unpinned, T.keep _ _ _ st5 fun b hb o e => (I7.pin (b, o) (List.mem_append_right _ (List.mem_append_right _ (mem_pinsAt hb e)))).1, fun b hb => ?_, hv, hz, w7⟩
        obtain ⟨o, e, d⟩ := T.obj _ _ st5 b hb
        exact (I7.pin (b, o) (List.mem_append_right _ (List.mem_append_right _ (mem_pinsAt hb e)))).2.1
      | true =>
        rw [if_pos rfl]
        have he := hte _ s7 σ6 H7 _ I7z q7
        rw [hZp, hZw, hZA, hZe] at he
        refine wpAny_mono he (fun x4 s8 ⟨v, H8, I8z, r8, hlt, m', hm, w8⟩ => ?_) hZx
        have I8 := back I8z
        have st8 : tn (i + 1) s8.heap := T.keep _ _ _ st5 fun b hb o e => (I8.pin (b, o) (List.mem_append_right _ (List.mem_append_right _ (mem_pinsAt hb e)))).1
        have fr8 : ∀ b ∈ fp, H8 b = none := fun b hb => by
          obtain ⟨o, e, d⟩ := T.obj _ _ st5 b hb
          exact (I8.pin (b, o) (List.mem_append_right _ (List.mem_append_right _ (mem_pinsAt hb e)))).2.1
        have I8' := I8.unpinned
        obtain ⟨e8, n8, ne8, nf8, _⟩ := I8'.pin (s2.heap.objs.size, { cls := .type "list", data := .seq its.toArray k }) (List.mem_append_right _ List.mem_cons_self)
        refine wpAny_list_append_plain (items := its.toArray) ⟨k, e8⟩ (fun h9 hl9 hs9 => ?_) (by rw [List.size_toArray, ← hv.length]; exact hz)
        obtain ⟨k9, e9⟩ := hl9
        have ep : its.toArray.push x4 = (its ++ [x4]).toArray := by simp
        rw [ep] at e9
        -- the list has turned
        have I9 : Inv Y [] σ6 H8 { s8 with heap := h9 } := by
          refine (I8'.pins_of (pins' := []) fun p hp => nomatch hp).turned (t' := s8.toks) (it := s2.heap.objs.size) (fun b o hb e => (hs9.2 b hb).trans e) n8 ne8 (.inr (by rw [hYs]; exact Nat.le_refl _)) (fun x c e z => ?_) fun p hp => ?_
          · rw [hYe] at e
            obtain ⟨v', o', ho', _⟩ := I.cell x c (h1 x c e)
            exact absurd (Heap.lt_size ho') (by rw [z]; exact Nat.lt_irrefl _)
          · rw [hYpn] at hp
            exact absurd hp (by simp)
        refine ⟨m', hm, i + 1, σ6, H8, acc ++ [v], its ++ [x4], k9, I9.pins_of fun p hp => ?_, ?_, fr8, hv.append (.cons r8 .nil), ?_, w8⟩
        · have e : p = (s2.heap.objs.size, { cls := .type "list", data := .seq (its ++ [x4]).toArray k9 }) := by simpa using hp
          subst e
          exact ⟨e9, n8, ne8, nf8, fun v z => by cases z⟩
        · exact T.keep _ _ _ st8 fun b hb o e => (hs9.2 b (Nat.ne_of_lt (ho b hb))).trans e
        · rw [List.length_append, List.length_singleton]; omega
  have hself := T.self X.A 0 { s2 with heap := h₁, toks := s2.toks + ([] : List (Str × Value)).length } (fun it' s' => codeAny (model X.prog X.w) X.A (.compLoop (.ListComp elt [⟨tg, iter, ifs, 0⟩] scope pos) 0 it' (.ref s2.heap.objs.size) (compEnvC scope cl H2.objs.size X.env))
        (RR (.ref s2.heap.objs.size) (cenvOf scope H2.objs.size X cl)) s') (notedBy (model X.prog X.w) X.A (compEnvC scope cl H2.objs.size X.env) fun x s' => RR (.ref s2.heap.objs.size) (cenvOf scope H2.objs.size X cl) (.error x) s') (T.keep 0 _ _ st fun b _ o e => old b o e) (loop _ rfl)
  exact codeAny_compStart_list (loop _ rfl) hself
theorem pe_compX (hst : X.stack = X.env :: X.outer ∧ X.env.frame = some X.env.locals) (hex : X.ex = []) (hc : X.calm = true) (S : CompOk (X.wish (Fly X E)) scope Nc mp) (hi : PI (X.wish (Fly X E)) tg iter wi)
    (hb : ∀ cl C s H fp pn, Held fp pn → PG (compF (X.wish (Fly X E)) Nc scope cl C s H fp pn E) tg g ∧ PTs (compF (X.wish (Fly X E)) Nc scope cl C s H fp pn E) ifs tt ∧ PE (compF (X.wish (Fly X E)) Nc scope cl C s H fp pn E) elt te)
    (hs : ∀ x, foldedSetIterable iter X.env x = pure x := by intro _; rfl) : PE (X.wish (Fly X E)) (.ListComp elt [⟨tg, iter, ifs, 0⟩] scope pos) (tComp mp wi g tt te) := by
  intro pins s σ H Q I h
  obtain ⟨cl, hcl, h1, h2⟩ := clos_of S I
  rw [eval_ListComp]
  refine comprehension_freeX rfl hs hcl S.kind S.loc (thn (hi pins s σ H _ I h) fun v s1 hv => thn hv fun itv s2 hq => ?_)
  obtain ⟨it, fp, tn, J, H2, e, I2, T, st2, f2, hw⟩ := hq
  subst e
  refine comp_blockX (X := X.wish (Fly X E)) (RR := fun acc cenv => compPostX (model X.prog X.w) X.A (Fly X E) scope X.env (EP (X.wish (Fly X E)) pins σ Q) acc cenv) (Q := Q) hc S hb h1 h2 I2 T st2 f2 hw (fun D C s' H' cenv hce hC hD hDC hm hI hn hq => ?_) fun D C s' e cenv hce hcf hC h => ?_
  · obtain ⟨m, hm⟩ := hm
    subst hce
    exact ⟨m, hm, fun h' hs' => ⟨.ref D, H', hI h' hs', rfl, hq⟩⟩
  · exact ee_out hst hex I2 hC f2 hce hcf h
end
end L3
namespace L3
open PySem PySem.Spec PyProof.Rows L2
open Builtin Builtin.Str
section
variable {X : Cx}
def upS (z : Str) : Str := ⟨placed z fun _ c => Unicode.upperOf c⟩
def rUpper : V → List V → Hp → VK → Prop := fun x vs H Q => ∃ z, x = .str z ∧ vs = [] ∧ (upS z).length ≤ 1000 ∧ Q (.str (upS z)) H
theorem mt_upper : MtR X "str.upper" rUpper := by
  intro pins s σ H x xs v us Q I rx rv h
  obtain ⟨z, rfl, rfl, hz, q⟩ := h
  obtain ⟨t, rfl⟩ := rx
  cases rv
  have hs := szl
  have hf : tooLong (placed z fun _ c => Unicode.upperOf c).size = false := by
    have : (placed z fun _ c => Unicode.upperOf c).size ≤ 1000 := hz
    unfold tooLong
    simp
    omega
  refine call_gives F.slot_str_upper (typeIs_str _ _ _) F.entry_str_upper (F.args_str_upper_1 _) (gives_str_upper z t hf) ?_
  refine ⟨fit_le hf, ?_⟩
  exact ⟨.str (upS z), H, I.tok _, ⟨_, rfl⟩, q⟩
end
end L3
set_option Elab.async false
set_option linter.all false
set_option maxRecDepth 100000
set_option maxHeartbeats 4000000
namespace L3
open PySem PySem.Spec PyProof.Rows L2
def SmO : Option V → Prop
  | some (.str z) => z.length ≤ 100
  | _ => True
def Sm : L2.St → Prop
  | [] => True
  | o :: r => SmO o ∧ Sm r
theorem Sm.at : ∀ {σ : L2.St} {i : Nat} {z : Str}, Sm σ → σ[i]? = some (some (.str z)) → z.length ≤ 100
  | [], _, _, _, h => by simp at h
  | o :: r, 0, z, k, h => by
    have e : o = some (.str z) := by simpa using h
    subst e
    exact k.1
  | o :: r, i + 1, z, k, h => Sm.at (σ := r) k.2 (by simpa using h)
def strAt (i : Nat) (σ : L2.St) : Option Str := match σ[i]? with
  | some (some (.str z)) => some z
  | _ => none
theorem strAt_of {i : Nat} {σ : L2.St} {z : Str} (h : strAt i σ = some z) : σ[i]? = some (some (.str z)) := by
  unfold strAt at h
  split at h
  · next e => cases h; exact e
  · cases h
theorem pe_weak {X : Cx} {e : Expr} {t t' : TE} (h : PE X e t) (k : ∀ σ H Q, t' σ H Q → t σ H Q) : PE X e t' := fun pins s σ H Q I q => h pins s σ H Q I (k σ H Q q)
theorem pa_weak {X : Cx} {es : List Expr} {t t' : TA} (h : PA X es t) (k : ∀ σ H Q, t' σ H Q → t σ H Q) : PA X es t' := fun pos pins s σ H Q I q => h pos pins s σ H Q I (k σ H Q q)
def tPX (f : L2.St → Option Str) : TE := fun σ H Q => Sm σ ∧ ∃ z, f σ = some z ∧ Q (.str z) H
def tPXs (f : L2.St → Option (List Str)) : TA := fun σ H Q => Sm σ ∧ ∃ zs, f σ = some zs ∧ Q (zs.map V.str) H
structure PX (X : Cx) (e : Expr) (f : L2.St → Option Str) (n : Nat) : Prop where
  pe : PE X e (tPX f)
  le : ∀ σ z, Sm σ → f σ = some z → z.length ≤ n
def fAdd (f g : L2.St → Option Str) : L2.St → Option Str := fun σ => (f σ).bind fun x => (g σ).map fun y => x ++ y
section
variable {X : Cx} {a b e : Expr} {es : List Expr} {f g : L2.St → Option Str} {fs : L2.St → Option (List Str)} {n m : Nat} {pos : Pos}
theorem px_str {x : Str} {j} {pos : Pos} (n : Nat) (h : decide (x.length ≤ n) = true := by decide +kernel) : PX X (.Constant (.str x) j pos) (fun _ => some x) n :=
  ⟨pe_weak pe_str fun σ H Q ⟨_, z, e, q⟩ => by cases e; exact q, fun σ z _ e => by cases e; exact of_decide_eq_true h⟩
theorem px_var (i : Nat) (h : PE X e (tVar i)) : PX X e (strAt i) 100 :=
  ⟨pe_weak h fun σ H Q ⟨_, z, e, q⟩ => ⟨_, strAt_of e, q⟩, fun σ z k e => k.at (strAt_of e)⟩
theorem px_add (ha : PX X a f n) (hb : PX X b g m) (h : decide (n + m ≤ 10000) = true := by decide) : PX X (.BinOp a .Add b pos) (fAdd f g) (n + m) := by
  have hs := szl
  have h := of_decide_eq_true h
  have two : ∀ {σ z}, fAdd f g σ = some z → ∃ x y, f σ = some x ∧ g σ = some y ∧ z = x ++ y := fun {σ z} e => by
    unfold fAdd at e
    cases e1 : f σ with
    | none => rw [e1] at e; cases e
    | some x =>
      rw [e1] at e
      cases e2 : g σ with
      | none => rw [e2] at e; cases e
      | some y => rw [e2] at e; cases e; exact ⟨x, y, rfl, rfl, rfl⟩
  refine ⟨pe_weak (pe_op op_add_str ha.pe hb.pe) fun σ H Q ⟨k, z, e, q⟩ => ?_, fun σ z k e => ?_⟩
  · obtain ⟨x, y, e1, e2, rfl⟩ := two e
    have l1 := ha.le σ x k e1
    have l2 := hb.le σ y k e2
    exact ⟨k, x, e1, k, y, e2, x, y, rfl, rfl, by omega, q⟩
  · obtain ⟨x, y, e1, e2, rfl⟩ := two e
    have l1 := ha.le σ x k e1
    have l2 := hb.le σ y k e2
    rw [Vm.app_len]
    omega
theorem px_mul {z : Str} {k : Int} {j1 j2} {p1 p2 : Pos} (n : Nat) (hk : MulOk z k) (h : decide ((Txt.mul z k).length ≤ n) = true := by decide +kernel) : PX X (.BinOp (.Constant (.str z) j1 p1) .Mult (.Constant (.int k) j2 p2) pos) (fun _ => some (Txt.mul z k)) n :=
  ⟨pe_weak (pe_op op_mul_str pe_str pe_int) fun σ H Q ⟨_, y, e, q⟩ => by cases e; exact ⟨z, k, rfl, rfl, hk, q⟩, fun σ y _ e => by cases e; exact of_decide_eq_true h⟩
def upO (z : Str) : Option Str := if (upS z).length ≤ 1000 then some (upS z) else none
theorem px_up {apos cpos : Pos} (ha : PX X a f n) (hbase : attributeBase a "upper" X.env (eval a X.env) = eval a X.env := by rfl) (hline : (apos.endLine == cpos.line) = true := by rfl) : PX X (.Call (.Attribute a "upper" apos) [] [] cpos) (fun σ => (f σ).bind upO) 1000 := by
  have two : ∀ {σ z}, (f σ).bind upO = some z → ∃ x, f σ = some x ∧ (upS x).length ≤ 1000 ∧ z = upS x := fun {σ z} e => by
    cases e1 : f σ with
    | none => rw [e1] at e; cases e
    | some x =>
      rw [e1] at e
      have e : upO x = some z := e
      unfold upO at e
      by_cases h : (upS x).length ≤ 1000
      · rw [if_pos h] at e; cases e; exact ⟨x, rfl, h, rfl⟩
      · rw [if_neg h] at e; cases e
  refine ⟨pe_weak (pe_bm0 PySem.F.plainAttrs_str PySem.F.slot_str_upper PySem.F.type_str_upper mt_upper ha.pe hbase hline) fun σ H Q ⟨k, z, e, q⟩ => ?_, fun σ z k e => ?_⟩
  · obtain ⟨x, e1, e2, rfl⟩ := two e
    exact ⟨k, x, e1, rfl, x, rfl, rfl, e2, q⟩
  · obtain ⟨x, e1, e2, rfl⟩ := two e
    exact e2
theorem pxs_nil : PA X [] (tPXs fun _ => some []) := pa_weak pa_nil fun σ H Q ⟨_, zs, e, q⟩ => by cases e; exact q
theorem pxs_cons (ha : PX X e f n) (hr : PA X es (tPXs fs)) (hs : starEach (e :: es) X.env = (false, eval e X.env) :: starEach es X.env := by rfl) : PA X (e :: es) (tPXs fun σ => (f σ).bind fun z => (fs σ).map fun zs => z :: zs) := by
  refine pa_weak (pa_cons ha.pe hr hs) fun σ H Q ⟨k, zs, e, q⟩ => ?_
  have e : ((f σ).bind fun z => (fs σ).map fun zs => z :: zs) = some zs := e
  cases e1 : f σ with
  | none => rw [e1] at e; cases e
  | some x =>
    rw [e1] at e
    cases e2 : fs σ with
    | none => rw [e2] at e; cases e
    | some ys => rw [e2] at e; cases e; exact ⟨k, x, e1, k, ys, e2, q⟩
end
end L3
namespace K32
open PySem PySem.Spec PyProof.Rows L2 L3 Vm
section
variable {P : Program} {w : World} {K : PySem.W.Frag} {mg : Str → Option Value} {base : Heap}
structure Dfn (K : PySem.W.Frag) (mg : Str → Option Value) (x : Str) (st : Stmt) (f : Addr) (fd : FuncData) (ps : List Str) : Prop where
  fn : Fun K x x st f fd
  at_ : mg x = some (.ref f)
  bn : Binds K fd ps []
def spHas : Sp := fun vs H Q _ => ∃ z y : Str, vs = [.str z, .str y] ∧ z.length ≤ sizeLine ∧ Q (.bl (onlyB z y)) H
theorem scHas : FnScope ["text", "signs"] ["text", "signs"] (defScope sHas) := ⟨rfl, rfl, rfl, by decide +kernel, rfl, by decide +kernel, by decide +kernel⟩
theorem nd_sign : (["sign", "signs"] : List Str).Nodup := by decide +kernel
theorem ok_has {f : Addr} {fd : FuncData} (F : Fun K "has_only" "has_only" sHas f fd) (mall : mg "all" = none) : FnOk P w K mg base CX0 1 f fd ["text", "signs"] spHas := by
  refine Fun.okR F scHas (fun vs H Q E h => ?_) (fun cdv A outer s H vs Q Q2 E hr h hq => ?_)
  · obtain ⟨z, y, rfl, _⟩ := h
    rfl
  · obtain ⟨z, y, rfl, hz, q⟩ := h
    refine ⟨_, pss_one (ps_ret (pe_callB (call_all rfl) (by rfl) mall boot_all (pa_cons (pe_comp (Nc := ["sign", "signs"]) (mp := [none, some 1]) rfl (CompOk.of (by rfl)) (pi_str (pv 0))
      (fun cl C s H fp => ⟨pg_name (i := 0) nd_sign rfl (Or.inl rfl), pts_nil, pe_cmpR op_in_str (pv 0) (pv 1) (by with_unfolding_all rfl)⟩)) pa_nil))), ?_⟩
    refine ⟨_, rfl, z, rfl, comp_map (as := z.cps.toList) (fun c => .bl (decide (c ∈ y.cps.toList))) (src_str z H) (by rw [clen]; exact hz) (fun c hc k hk => ?_) (fun D hD => ?_)⟩
    · refine ⟨_, rfl, _, rfl, _, _, rfl, rfl, ?_⟩
      rw [PySem.StrLaws.found_one]
      exact hk
    · refine ⟨D, z.cps.toList.map fun c => decide (c ∈ y.cps.toList), rfl, SqL.of ?_, ?_⟩
      · rw [upd_same, List.map_map]; rfl
      · refine hq _ _ (Rst.same (same_upd hD) ?_)
        have e : (z.cps.toList.map fun c => decide (c ∈ y.cps.toList)).all id = onlyB z y := by
          unfold onlyB; rw [List.all_map]; rfl
        rw [e]; exact q
def spIsW : Sp := fun vs H Q _ => ∃ z : Str, vs = [.str z] ∧ z.length ≤ sizeLine ∧ Q (.bl (wordB z)) H
theorem scIsW : FnScope ["text"] ["text"] (defScope sIsW) := ⟨rfl, rfl, rfl, by decide +kernel, rfl, by decide +kernel, by decide +kernel⟩
theorem ok_isw {f g : Addr} {fd gd : FuncData} (F : Fun K "is_word" "is_word" sIsW f fd) (D : Dfn K mg "has_only" sHas g gd ["text", "signs"]) (mall : mg "all" = none) (mlen : mg "len" = none)
    {tl tm : Tok} (mL : mg "LETTERS" = some (.str letters tl)) (mM : mg "MOST_LETTERS" = some (.int 12 tm)) : FnOk P w K mg base CX0 2 f fd ["text"] spIsW := by
  have G : FnOk P w K mg base CX0 1 g gd ["text", "signs"] spHas := ok_has D.fn mall
  refine Fun.okR F scIsW (fun vs H Q E h => ?_) (fun cdv A outer s H vs Q Q2 E hr h hq => ?_)
  · obtain ⟨z, rfl, _⟩ := h
    rfl
  · obtain ⟨z, rfl, hz, q⟩ := h
    refine ⟨_, pss_one (ps_ret (pe_and (pe_chain op_le op_le pe_int (pe_callB call_len_str (by rfl) mlen PySem.boot_len (pa_cons (pv 0) pa_nil)) (pe_glob (v := .int 12) (by rfl) mM ⟨_, rfl⟩))
      (pe_one (pe_call G hr (by rfl) D.at_ D.fn.kp D.bn .nil pass0 (pa_cons (pv 0) (pa_cons (pe_glob (v := .str letters) (by rfl) mL ⟨_, rfl⟩) pa_nil)))))), ?_⟩
    refine ⟨_, rfl, z, rfl, hz, _, _, rfl, rfl, _, rfl, ?_⟩
    refine ite2 (fun h1 => ?_) (fun h1 => ?_)
    · refine ⟨_, _, rfl, rfl, _, rfl, ?_⟩
      refine ite2 (fun h2 => ?_) (fun h2 => ?_)
      · refine ⟨_, rfl, z, letters, rfl, hz, hq _ _ (Rst.same (Same.refl H) ?_)⟩
        have e : wordB z = onlyB z letters := by
          unfold wordB
          rw [decide_eq_true (show 1 ≤ z.length ∧ z.length ≤ 12 from ⟨by have := of_decide_eq_true h1; omega, by have := of_decide_eq_true h2; omega⟩), Bool.true_and]
        rw [← e]; exact q
      · refine hq _ _ (Rst.same (Same.refl H) ?_)
        have e : wordB z = false := by
          unfold wordB
          rw [decide_eq_false (fun c => h2 (decide_eq_true (by have := c.2; omega))), Bool.false_and]
        rw [← e]; exact q
    · refine ⟨_, rfl, iteF (hq _ _ (Rst.same (Same.refl H) ?_))⟩
      have e : wordB z = false := by
        unfold wordB
        rw [decide_eq_false (fun c => h1 (decide_eq_true (by have := c.1; omega))), Bool.false_and]
      rw [← e]; exact q
def spWr : Sp := fun vs H Q _ => ∃ z : Str, vs = [.str z] ∧ z.length ≤ sizeLine ∧ Q (.bl (writesB z)) H
theorem scWr : FnScope ["text"] ["text"] (defScope sWr) := ⟨rfl, rfl, rfl, by decide +kernel, rfl, by decide +kernel, by decide +kernel⟩
theorem sign_eq (c d : Nat) : (V.str ⟨#[c]⟩ = V.str ⟨#[d]⟩) ↔ c = d := ⟨fun e => by injection e with e; injection e with e; simpa using e, fun e => by rw [e]⟩
theorem nought_eq : Str.ofString "0" = (⟨#[48]⟩ : Str) := by decide +kernel
theorem ok_wr {f g : Addr} {fd gd : FuncData} (F : Fun K "writes_number" "writes_number" sWr f fd) (D : Dfn K mg "has_only" sHas g gd ["text", "signs"]) (mall : mg "all" = none) {tf : Tok} (mF : mg "FIGURES" = some (.str figures tf)) : FnOk P w K mg base CX0 2 f fd ["text"] spWr := by
  have G : FnOk P w K mg base CX0 1 g gd ["text", "signs"] spHas := ok_has D.fn mall
  refine Fun.okR F scWr (fun vs H Q E h => ?_) (fun cdv A outer s H vs Q Q2 E hr h hq => ?_)
  · obtain ⟨z, rfl, _⟩ := h
    rfl
  · obtain ⟨z, rfl, hz, q⟩ := h
    refine ⟨_, pss_cons (ps_if (pw_or (pt_cmpR op_eq (pv 0) pe_str (nomark _)) (pw_or1 (pt_not (pt_val (pe_call G hr (by rfl) D.at_ D.fn.kp D.bn .nil pass0 (pa_cons (pv 0) (pa_cons (pe_glob (v := .str figures) (by rfl) mF ⟨_, rfl⟩) pa_nil))))))).pt (pss_one (ps_ret pe_bl)) pss_nil)
      (pss_one (ps_ret (pe_or (pe_cmpR op_eq (pv 0) pe_str (nomark _)) (pe_one (pe_cmpR op_ne (pe_ix ix_str (pv 0) pe_int (fun _ _ => rfl)) pe_str (nomark _)))))), ?_⟩
    have go : ∀ b, writesB z = b → Q2 (.bl b) H := fun b e => hq _ _ (Rst.same (Same.refl H) (by rw [← e]; exact q))
    refine ⟨_, rfl, rfl, _, rfl, ?_⟩
    refine ite2 (fun h => ?_) (fun h => ?_)
    · have e := of_decide_eq_true h
      injection e with e
      exact iteT (go _ (by unfold writesB; rw [if_pos e]))
    have hne : ¬ z = Str.ofString "" := fun e => h (decide_eq_true (by rw [e]))
    refine ⟨_, rfl, z, figures, rfl, hz, _, rfl, ?_⟩
    cases ho : onlyB z figures with
    | false => exact iteT (go _ (by unfold writesB; rw [if_neg hne, ho]; rfl))
    | true =>
      refine iteF ⟨_, rfl, rfl, _, rfl, ?_⟩
      have ew : writesB z = (decide (z = Str.ofString "0") || !decide (z.cps.toList[0]? = some 48)) := by unfold writesB; rw [if_neg hne, ho]; rfl
      refine ite2 (fun h0 => ?_) (fun h0 => ?_)
      · have e := of_decide_eq_true h0
        injection e with e
        exact go _ (by rw [ew, decide_eq_true e, Bool.true_or])
      · have e0 : ¬ z = Str.ofString "0" := fun e => h0 (decide_eq_true (by rw [e]))
        have hl : 0 < z.cps.toList.length := List.length_pos_iff.mpr (ne_nil hne)
        refine ⟨_, rfl, z, 0, z.cps.toList[0], rfl, rfl, hz, atI_nat (j := 0) (List.getElem?_eq_getElem hl), rfl, go _ ?_⟩
        rw [ew, decide_eq_false e0, Bool.false_or, List.getElem?_eq_getElem hl]
        congr 1
        refine decide_eq_decide.mpr ?_
        rw [nought_eq, sign_eq]
        exact ⟨fun e => Option.some.inj e, fun e => by rw [e]⟩
def spNum : Sp := fun vs H Q _ => ∃ (z : Str) (most : Int), vs = [.str z, .int most] ∧ z.length ≤ 10000 ∧ 0 ≤ most ∧ most ≤ 10 ^ 30 ∧ Q (optV (pnum z most)) H
theorem scNum : FnScope ["text", "most", "number"] ["text", "most"] (defScope sNum) := ⟨rfl, rfl, rfl, by decide +kernel, rfl, by decide +kernel, by decide +kernel⟩
theorem wr_parts {z : Str} (h : writesB z = true) : z ≠ Str.ofString "" ∧ onlyB z figures = true := by
  unfold writesB at h
  by_cases h0 : z = Str.ofString ""
  · rw [if_pos h0] at h; cases h
  · rw [if_neg h0] at h
    refine ⟨h0, ?_⟩
    by_cases h1 : onlyB z figures = true
    · exact h1
    · rw [if_neg h1] at h; cases h
theorem ok_num {f g gH : Addr} {fd gd dH : FuncData} (F : Fun K "number_of" "number_of" sNum f fd) (D : Dfn K mg "writes_number" sWr g gd ["text"]) (DH : Dfn K mg "has_only" sHas gH dH ["text", "signs"]) (mall : mg "all" = none) (mlen : mg "len" = none) (mstr : mg "str" = none) (mint : mg "int" = none)
    {tf : Tok} (mF : mg "FIGURES" = some (.str figures tf)) : FnOk P w K mg base CX0 3 f fd ["text", "most"] spNum := by
  have G : FnOk P w K mg base CX0 2 g gd ["text"] spWr := ok_wr D.fn DH mall mF
  refine Fun.okR F scNum (fun vs H Q E h => ?_) (fun cdv A outer s H vs Q Q2 E hr h hq => ?_)
  · obtain ⟨z, m, rfl, _⟩ := h
    rfl
  · obtain ⟨z, m, rfl, hz, h0, h1, q⟩ := h
    refine ⟨_, pss_cons (ps_if (pw_or (pt_not (pt_val (pe_call G hr (by rfl) D.at_ D.fn.kp D.bn .nil pass0 (pa_cons (pv 0) pa_nil)))) (pw_or1 (pt_cmpR op_gt (pe_callB call_len_str (by rfl) mlen PySem.boot_len (pa_cons (pv 0) pa_nil)) (pe_callB call_len_str (by rfl) mlen PySem.boot_len (pa_cons (pe_callTy call_str_int (by rfl) mstr boot_str (pa_cons (pv 1) pa_nil)) pa_nil)) (nomark _)))).pt (pss_one (ps_ret pe_non)) pss_nil)
      (pss_cons (ps_set (i := 2) scNum.nd rfl (Or.inl rfl) (pe_callTy call_int_text (by rfl) mint boot_int (pa_cons (pv 0) pa_nil)))
      (pss_one (ps_ret (pe_ifExp (pt_cmpR op_le (pv 2) (pv 1) (nomark _)) (pv 2) pe_non)))), ?_⟩
    have go : ∀ o, pnum z m = o → Q2 (optV o) H := fun b e => hq _ _ (Rst.same (Same.refl H) (by rw [← e]; exact q))
    have hm40 : m < 10 ^ 40 := by omega
    refine ⟨_, rfl, z, rfl, few (by omega), _, rfl, ?_⟩
    cases hw : writesB z with
    | false => exact iteT (iteT (go none (by unfold pnum; rw [hw]; rfl)))
    | true =>
      obtain ⟨hne, ho⟩ := wr_parts hw
      have hnl := numS_len h0 hm40
      refine iteF ⟨_, rfl, z, rfl, few (by omega), _, rfl, m, rfl, log_ok h0 hm40, numS m, rfl, few (by omega), _, _, rfl, rfl, _, rfl, ?_⟩
      refine ite2 (fun h => ?_) (fun h => ?_)
      · have hl := of_decide_eq_true h
        exact go none (pnum_long (most_lt h0) (numS_pos m h0) (by omega))
      · have hl : ¬ (((numS m).length : Int) < (z.length : Int)) := fun c => h (decide_eq_true c)
        refine ⟨_, rfl, z, _, rfl, digits_read ho hne (by omega), by omega, ?_⟩
        refine ⟨_, rfl, _, rfl, _, _, rfl, rfl, _, rfl, ?_⟩
        refine ite2 (fun h2 => ?_) (fun h2 => ?_)
        · exact ⟨_, rfl, go (some _) (by unfold pnum; rw [hw, if_pos rfl, if_pos (of_decide_eq_true h2)])⟩
        · exact go none (by unfold pnum; rw [hw, if_pos rfl, if_neg fun c => h2 (decide_eq_true c)])
theorem kit_same (v : Value) : PySem.W.kitOne K v v = some true := by
  unfold PySem.W.kitOne
  rw [if_pos (beq_self_eq_true _)]
theorem letter_at (r : Int) : ∃ c, atI (letters.cps.toList) (r % 26) = some c ∧ Al c := by
  have h0 : 0 ≤ r % 26 := Int.emod_nonneg _ (by decide)
  have h1 : r % 26 < 26 := Int.emod_lt_of_pos _ (by decide)
  have e : r % 26 = ((r % 26).toNat : Int) := by omega
  refine ⟨97 + (r % 26).toNat, ?_, al_mod _ (by omega)⟩
  rw [e]
  refine atI_nat ?_
  rw [letters_cps, List.getElem?_map, List.getElem?_range (by omega)]
  rfl
def Lets (z : Str) (n : Nat) : Prop := z.length = n ∧ ∀ c ∈ z.cps.toList, Al c
theorem lets_app {z : Str} {n c : Nat} (h : Lets z n) (hc : Al c) : Lets (z ++ ⟨#[c]⟩) (n + 1) := by
  refine ⟨by rw [app_len, h.1]; rfl, fun d hd => ?_⟩
  rw [app_list] at hd
  rcases List.mem_append.mp hd with hd | hd
  · exact h.2 d hd
  · have : d = c := by simpa using hd
    rw [this]; exact hc
theorem lets_good {z : Str} {n : Nat} (h : Lets z n) (h1 : 1 ≤ n) (h2 : n ≤ 12) : Good z := ⟨by rw [h.1]; exact h1, by rw [h.1]; exact h2, h.2⟩
def mixD (c k : Int) : Int := (c * 2 + 1) * (k * k * 9176023 + 84127918273645463728191) % 170141183460469231731687303715884105727
def drawD (c k m : Int) : Int := mixD c k * (mixD c k + 5) % 170141183460469231731687303715884105727 / 7 % m
theorem draw_lo (c k : Int) {m : Int} (h : 0 < m) : 0 ≤ drawD c k m := Int.emod_nonneg _ (by omega)
theorem draw_hi (c k : Int) {m : Int} (h : 0 < m) : drawD c k m < m := Int.emod_lt_of_pos _ h
def spDraw : Sp := fun vs H Q _ => ∃ c k m : Int, vs = [.int c, .int k, .int m] ∧ Builtin.Int.intBits c ≤ 1048576 ∧ 0 ≤ k ∧ k ≤ 100000 ∧ 0 < m ∧ Q (.int (drawD c k m)) H
theorem scDraw : FnScope ["cell", "k", "many", "prime", "mixed"] ["cell", "k", "many"] (defScope sDraw) := ⟨rfl, rfl, rfl, by decide +kernel, rfl, by decide +kernel, by decide +kernel⟩
theorem ok_draw {f : Addr} {fd : FuncData} (F : Fun K "_law_draw" "_law_draw" sDraw f fd) : FnOk P w K mg base CX0 1 f fd ["cell", "k", "many"] spDraw := by
  refine Fun.okR F scDraw (fun vs H Q E h => ?_) (fun cdv A outer s H vs Q Q2 E hr h hq => ?_)
  · obtain ⟨c, k, m, rfl, _⟩ := h
    rfl
  · obtain ⟨c, k, m, rfl, hb, hk0, hk1, hm, q⟩ := h
    refine ⟨_, pss_cons (ps_set (i := 3) scDraw.nd rfl (Or.inl rfl) pe_int)
      (pss_cons (ps_set (i := 4) scDraw.nd rfl (Or.inl rfl) (pe_op op_mod (pe_op op_mulB (pe_op op_add (pe_op op_mulB (pv 0) pe_int) pe_int) (pe_op op_add (pe_op op_mulB (pe_op op_mulB (pv 1) (pv 1)) pe_int) pe_int)) (pv 3)))
      (pss_one (ps_ret (pe_op op_mod (pe_op op_fdiv (pe_op op_mod (pe_op op_mulB (pv 4) (pe_op op_add (pv 4) pe_int)) (pv 3)) pe_int) (pv 2))))), ?_⟩
    have p0 : (0 : Int) < 170141183460469231731687303715884105727 := by decide
    have bk : Builtin.Int.intBits k ≤ 20 := intBits_le_iff.mpr (by omega)
    have b2 : Builtin.Int.intBits 2 ≤ 2 := by decide +kernel
    have b1 : Builtin.Int.intBits 1 ≤ 1 := by decide +kernel
    have b9 : Builtin.Int.intBits 9176023 ≤ 24 := by decide +kernel
    have b8 : Builtin.Int.intBits 84127918273645463728191 ≤ 77 := by decide +kernel
    have b5 : Builtin.Int.intBits 5 ≤ 3 := by decide +kernel
    have bA := intBits_add_le (intBits_mul_le hb b2) b1
    have bB := intBits_add_le (intBits_mul_le (intBits_mul_le bk bk) b9) b8
    have x0 : 0 ≤ mixD c k := Int.emod_nonneg _ (by decide)
    have x1 : mixD c k < 170141183460469231731687303715884105727 := Int.emod_lt_of_pos _ p0
    have bx : Builtin.Int.intBits (mixD c k) ≤ 127 := intBits_le_iff.mpr (by
      have : (2 : Nat) ^ 127 = 170141183460469231731687303715884105728 := by decide
      rw [this]; omega)
    have by5 := intBits_add_le bx b5
    refine ⟨_, rfl, _, _, rfl, rfl, .of_le hb b2 (by decide), _, _, rfl, rfl, _, rfl, _, rfl, _, _, rfl, rfl, .of_le bk bk (by decide), _, _, rfl, rfl, .of_le (intBits_mul_le bk bk) b9 (by decide), _, _, rfl, rfl, _, _, rfl, rfl, .of_le bA bB (by decide), _, rfl, _, _, rfl, rfl, p0, ?_⟩
    refine ⟨_, rfl, _, rfl, _, _, rfl, rfl, _, _, rfl, rfl, .of_le bx by5 (by decide), _, rfl, _, _, rfl, rfl, p0, _, _, rfl, rfl, ⟨by decide, by decide⟩, _, rfl, _, _, rfl, rfl, hm, hq _ _ (Rst.same (Same.refl H) q)⟩
theorem at4 (c k : Int) : ∃ n : Nat, atI [V.int 1, .int 2, .int 3, .int 12] (drawD c k 4) = some (.int ((n : Nat) : Int)) ∧ 1 ≤ n ∧ n ≤ 12 := by
  have h0 := draw_lo c k (m := 4) (by decide)
  have h1 := draw_hi c k (m := 4) (by decide)
  generalize drawD c k 4 = d at h0 h1
  obtain ⟨j, rfl⟩ : ∃ j : Nat, d = (j : Int) := ⟨d.toNat, by omega⟩
  have hj : j < 4 := by omega
  match j, hj with
  | 0, _ => exact ⟨1, rfl, by decide, by decide⟩
  | 1, _ => exact ⟨2, rfl, by decide, by decide⟩
  | 2, _ => exact ⟨3, rfl, by decide, by decide⟩
  | 3, _ => exact ⟨12, rfl, by decide, by decide⟩
def spWordBy : Sp := fun vs H Q _ => ∃ c k : Int, vs = [.int c, .int k] ∧ Builtin.Int.intBits c ≤ 1048576 ∧ 0 ≤ k ∧ k ≤ 100 ∧ ∀ z, Good z → Q (.str z) H
theorem scWordBy : FnScope ["cell", "k", "word", "j"] ["cell", "k"] (defScope sWordBy) := ⟨rfl, rfl, rfl, by decide +kernel, rfl, by decide +kernel, by decide +kernel⟩
theorem ok_wordby {f gD : Addr} {fd dD : FuncData} (F : Fun K "_law_word_by" "_law_word_by" sWordBy f fd) (DD : Dfn K mg "_law_draw" sDraw gD dD ["cell", "k", "many"]) (mrange : mg "range" = none) : FnOk P w K mg base CX0 2 f fd ["cell", "k"] spWordBy := by
  have GD : FnOk P w K mg base CX0 1 gD dD ["cell", "k", "many"] spDraw := ok_draw DD.fn
  refine Fun.okR F scWordBy (fun vs H Q E h => ?_) (fun cdv A outer s H vs Q Q2 E hr h hq => ?_)
  · obtain ⟨c, k, rfl, _⟩ := h
    rfl
  · obtain ⟨c, k, rfl, hb, hk0, hk1, q⟩ := h
    refine ⟨_, pss_cons (ps_set (i := 2) scWordBy.nd rfl (Or.inl rfl) pe_str)
      (pss_cons (ps_for PassesOwn.never rfl (pi_range1 (by rfl) mrange (pa_cons (pe_ix ix_list (pe_lst (pa_cons pe_int (pa_cons pe_int (pa_cons pe_int (pa_cons pe_int pa_nil))))) (pe_call GD hr (by rfl) DD.at_ DD.fn.kp DD.bn .nil pass0 (pa_cons (pv 0) (pa_cons (pe_op op_add (pe_op op_mul pe_int (pv 1)) pe_int) (pa_cons pe_int pa_nil)))) (fun _ _ => rfl)) pa_nil)) (pg_name (i := 3) scWordBy.nd rfl (Or.inl rfl))
        (pss_one (ps_set (i := 2) scWordBy.nd rfl (Or.inl rfl) (pe_op op_add_str (pv 2) (pe_ix ix_str pe_str (pe_call GD hr (by rfl) DD.at_ DD.fn.kp DD.bn .nil pass0 (pa_cons (pv 0) (pa_cons (pe_op op_add (pe_op op_add pe_int (pe_op op_mul pe_int (pv 1))) (pv 3)) (pa_cons pe_int pa_nil)))) (fun _ _ => rfl))))))
      (pss_one (ps_ret (pv 2)))), ?_⟩
    obtain ⟨n, hn, n1, n2⟩ := at4 c (10 * k + 1)
    refine ⟨few (by show 4 ≤ _; omega), fun l hl => ?_⟩
    refine ⟨_, rfl, _, rfl, _, _, rfl, rfl, .inl ⟨by decide, by decide⟩, _, _, rfl, rfl, _, _, _, rfl, hb, (by show (0 : Int) ≤ 10 * k + 1; omega), (by show 10 * k + 1 ≤ 100000; omega), (by show (0 : Int) < 4; decide), l, _, _, _, rfl, rfl, SqL.of upd_same, hn, ((n : Nat) : Int), rfl, by omega, by omega, ?_⟩
    rw [Int.toNat_natCast]
    refine for_range (n := n) (fun i σ H2 => ∃ (z : Str) (v3 : Option V), σ = [some (.int c), some (.int k), some (.str z), v3] ∧ H2 = upd H l (.lst [.int 1, .int 2, .int 3, .int 12]) ∧ Lets z i)
      ⟨Str.ofString "", none, rfl, rfl, by decide +kernel, fun c hc => absurd hc (by rw [show (Str.ofString "").cps.toList = [] from by decide +kernel]; exact List.not_mem_nil)⟩ ?_ ?_
    · rintro i σ H2 hi ⟨z, v3, rfl, rfl, hz⟩
      obtain ⟨d, hd, ad⟩ := letter_at (mixD c (300 + 20 * k + (0 + ((i : Nat) : Int))) * (mixD c (300 + 20 * k + (0 + ((i : Nat) : Int))) + 5) % 170141183460469231731687303715884105727 / 7)
      refine ⟨_, rfl, _, rfl, _, rfl, _, _, rfl, rfl, .inl ⟨by decide, by decide⟩, _, _, rfl, rfl, _, rfl, _, _, rfl, rfl, _, _, _, rfl, hb, (by show (0 : Int) ≤ 300 + 20 * k + (0 + ((i : Nat) : Int)); omega), (by show 300 + 20 * k + (0 + ((i : Nat) : Int)) ≤ 100000; omega), (by show (0 : Int) < 26; decide), letters, _, d, rfl, rfl, (by decide +kernel), hd, _, _, rfl, rfl, few (by rw [hz.1]; show _ + 1 ≤ _; omega), ?_⟩
      exact ⟨_, _, rfl, rfl, lets_app hz ad⟩
    · rintro σ H2 ⟨z, v3, rfl, rfl, hz⟩
      exact ⟨_, rfl, hq _ _ (Rst.same (same_upd hl) (q _ (lets_good hz n1 n2)))⟩
theorem FnOk.or2 {k : Nat} {f : Addr} {fd : FuncData} {ps : List Str} {sp1 sp2 sp : Sp} (F1 : FnOk P w K mg base CX0 k f fd ps sp1) (F2 : FnOk P w K mg base CX0 k f fd ps sp2) (h : ∀ vs H Q E, sp vs H Q E → sp1 vs H Q E ∨ sp2 vs H Q E) : FnOk P w K mg base CX0 k f fd ps sp :=
  ⟨fun vs H Q E hs => (h vs H Q E hs).elim (F1.len vs H Q E) (F2.len vs H Q E), fun A outer s H args us vs Q E hr he hb hv hs => (h vs H Q E hs).elim (fun z => F1.run A outer s H args us vs Q E hr he hb hv z) (fun z => F2.run A outer s H args us vs Q E hr he hb hv z)⟩
def SameV (H : Hp) : Nat → V → V → Prop
  | 0, x, y => (∃ z, x = .str z ∧ y = .str z) ∨ (∃ n, x = .int n ∧ y = .int n) ∨ (x = .non ∧ y = .non)
  | n + 1, x, y => SameV H n x y ∨ ∃ (p r : Addr) (xs ys : List V), x = .ref p ∧ y = .ref r ∧ H p = some (.tup xs) ∧ H r = some (.tup ys) ∧ xs.length = ys.length ∧ ys.length ≤ 100000 ∧ ∀ (i : Nat) (a b : V), xs[i]? = some a → ys[i]? = some b → SameV H n a b
def spSame (n : Nat) : Sp := fun vs H Q _ => ∃ x y, vs = [x, y] ∧ SameV H n x y ∧ Q (.bl true) H
def spSameT (n : Nat) : Sp := fun vs H Q _ => ∃ (p r : Addr) (xs ys : List V), vs = [.ref p, .ref r] ∧ H p = some (.tup xs) ∧ H r = some (.tup ys) ∧ xs.length = ys.length ∧ ys.length ≤ 100000 ∧ (∀ (i : Nat) (a b : V), xs[i]? = some a → ys[i]? = some b → SameV H n a b) ∧ Q (.bl true) H
theorem scSame : FnScope ["found", "due"] ["found", "due"] (defScope sSame) := ⟨rfl, rfl, rfl, by decide +kernel, rfl, by decide +kernel, by decide +kernel⟩
structure Kinds (K : PySem.W.Frag) : Prop where
  st : PySem.W.kitOne K (.type "str") (.type "tuple") = some false
  it : PySem.W.kitOne K (.type "int") (.type "tuple") = some false
  is_ : PySem.W.kitOne K (.type "int") (.type "str") = some false
  ib : PySem.W.kitOne K (.type "int") (.type "bool") = some false
  nt : PySem.W.kitOne K (.type "NoneType") (.type "tuple") = some false
theorem nd_kfd : (["k", "found", "due"] : List Str).Nodup := by decide +kernel
theorem ok_same0 {f : Addr} {fd : FuncData} (F : Fun K "_law_same" "_law_same" sSame f fd) (misi : mg "isinstance" = none) (mtup : mg "tuple" = none) (mstr : mg "str" = none) (mint : mg "int" = none) (mbool : mg "bool" = none) (kk : Kinds K) : FnOk P w K mg base CX0 1 f fd ["found", "due"] (spSame 0) := by
  refine Fun.okR F scSame (fun vs H Q E h => ?_) (fun cdv A outer s H vs Q Q2 E hr h hq => ?_)
  · obtain ⟨x, y, rfl, _⟩ := h
    rfl
  · obtain ⟨x, y, rfl, hs, q⟩ := h
    refine ⟨_, pss_cons (ps_if (pt_val (pe_callB call_isi (by rfl) misi boot_isinstance (pa_cons (pv 1) (pa_cons (pe_bltn (v := .ty "tuple") (by rfl) mtup boot_tuple rfl) pa_nil)))) pss_never pss_nil)
      (pss_cons (ps_if (pt_cmpR op_isN (pv 1) pe_non (nomark _)) (pss_one (ps_ret (pe_cmpR op_isN (pv 0) pe_non (nomark _)))) pss_nil)
      (pss_cons (ps_if (pt_val (pe_callB call_isi (by rfl) misi boot_isinstance (pa_cons (pv 1) (pa_cons (pe_bltn (v := .ty "str") (by rfl) mstr boot_str rfl) pa_nil)))) (pss_one (ps_ret (pe_and (pe_callB call_isi (by rfl) misi boot_isinstance (pa_cons (pv 0) (pa_cons (pe_bltn (v := .ty "str") (by rfl) mstr boot_str rfl) pa_nil))) (pe_one (pe_cmpR op_eq (pv 0) (pv 1) (nomark _)))))) pss_nil)
      (pss_one (ps_ret (pe_and (pe_callB call_isi (by rfl) misi boot_isinstance (pa_cons (pv 0) (pa_cons (pe_bltn (v := .ty "int") (by rfl) mint boot_int rfl) pa_nil))) (pe_and (pe_not (pe_callB call_isi (by rfl) misi boot_isinstance (pa_cons (pv 0) (pa_cons (pe_bltn (v := .ty "bool") (by rfl) mbool boot_bool rfl) pa_nil)))) (pe_one (pe_cmpR op_eq (pv 0) (pv 1) (nomark _))))))))), ?_⟩
    have go : Q2 (.bl true) H := hq _ _ (Rst.same (Same.refl H) q)
    rcases hs with ⟨z, rfl, rfl⟩ | ⟨n, rfl, rfl⟩ | ⟨rfl, rfl⟩
    · refine ⟨_, rfl, _, _, _, _, rfl, .str _, kk.st, _, rfl, iteF ?_⟩
      refine ⟨_, rfl, rfl, _, rfl, iteK (fun z => nomatch z) ?_⟩
      refine ⟨_, rfl, _, _, _, _, rfl, .str _, kit_same _, _, rfl, iteT ?_⟩
      refine ⟨_, rfl, _, _, _, _, rfl, .str _, kit_same _, true, rfl, iteT ⟨_, rfl, _, rfl, rfl, ?_⟩⟩
      rw [decide_eq_true rfl]
      exact go
    · refine ⟨_, rfl, _, _, _, _, rfl, .int _, kk.it, _, rfl, iteF ?_⟩
      refine ⟨_, rfl, rfl, _, rfl, iteK (fun z => nomatch z) ?_⟩
      refine ⟨_, rfl, _, _, _, _, rfl, .int _, kk.is_, _, rfl, iteF ?_⟩
      refine ⟨_, rfl, _, _, _, _, rfl, .int _, kit_same _, true, rfl, iteT ?_⟩
      refine ⟨_, rfl, _, _, _, _, rfl, .int _, kk.ib, false, rfl, true, rfl, iteT ⟨_, rfl, _, rfl, rfl, ?_⟩⟩
      rw [decide_eq_true rfl]
      exact go
    · refine ⟨_, rfl, _, _, _, _, rfl, .non, kk.nt, _, rfl, iteF ?_⟩
      refine ⟨_, rfl, rfl, _, rfl, iteY rfl ⟨_, rfl, rfl, ?_⟩⟩
      rw [decide_eq_true rfl]
      exact go
theorem ok_sameT {n : Nat} {f : Addr} {fd : FuncData} (F : Fun K "_law_same" "_law_same" sSame f fd) (D : Dfn K mg "_law_same" sSame f fd ["found", "due"]) (G : FnOk P w K mg base CX0 (n + 1) f fd ["found", "due"] (spSame n)) (misi : mg "isinstance" = none) (mtup : mg "tuple" = none) (mlen : mg "len" = none) (mrange : mg "range" = none) (mall : mg "all" = none) (kk : Kinds K) : FnOk P w K mg base CX0 (n + 2) f fd ["found", "due"] (spSameT n) := by
  refine Fun.okR F scSame (fun vs H Q E h => ?_) (fun cdv A outer s H vs Q Q2 E hr h hq => ?_)
  · obtain ⟨p, r, xs, ys, rfl, _⟩ := h
    rfl
  · obtain ⟨p, r, xs, ys, rfl, hp, hr2, hl, hn, hs, q⟩ := h
    refine ⟨_, pss_cons (ps_if (pt_val (pe_callB call_isi (by rfl) misi boot_isinstance (pa_cons (pv 1) (pa_cons (pe_bltn (v := .ty "tuple") (by rfl) mtup boot_tuple rfl) pa_nil)))) (pss_cons (ps_if (pw_or (pt_not (pt_val (pe_callB call_isi (by rfl) misi boot_isinstance (pa_cons (pv 0) (pa_cons (pe_bltn (v := .ty "tuple") (by rfl) mtup boot_tuple rfl) pa_nil))))) (pw_or1 (pt_cmpR op_ne (pe_callB call_len_seq (by rfl) mlen PySem.boot_len (pa_cons (pv 0) pa_nil)) (pe_callB call_len_seq (by rfl) mlen PySem.boot_len (pa_cons (pv 1) pa_nil)) (nomark _)))).pt (pss_one (ps_ret pe_bl)) pss_nil)
      (pss_one (ps_ret (pe_callB (call_all rfl) (by rfl) mall boot_all (pa_cons (pe_comp (Nc := ["k", "found", "due"]) (mp := [none, some 0, some 1]) rfl (CompOk.of (by rfl)) (pi_range1 (by rfl) mrange (pa_cons (pe_callB call_len_seq (by rfl) mlen PySem.boot_len (pa_cons (pv 1) pa_nil)) pa_nil))
        (fun cl C s H fp => ⟨pg_name (i := 0) nd_kfd rfl (Or.inl rfl), pts_nil, pe_call G hr (by rfl) D.at_ D.fn.kp D.bn .nil pass0 (pa_cons (pe_ix (ix_tupK (K := K) rfl) (pv 1) (pv 0) (fun _ _ => rfl)) (pa_cons (pe_ix (ix_tupK (K := K) rfl) (pv 2) (pv 0) (fun _ _ => rfl)) pa_nil))⟩)) pa_nil))))) pss_nil) pss_never, ?_⟩
    refine ⟨_, rfl, _, _, _, _, rfl, .tup hr2, kit_same _, _, rfl, iteT ?_⟩
    refine ⟨_, rfl, _, _, _, _, rfl, .tup hp, kit_same _, _, rfl, iteF ?_⟩
    refine ⟨_, rfl, p, _, rfl, .inr (SqT.of hp), _, rfl, r, _, rfl, .inr (SqT.of hr2), rfl, _, rfl, iteNS (by rw [hl]) ?_⟩
    refine ⟨_, rfl, r, _, rfl, .inr (SqT.of hr2), _, rfl, (by omega), (by omega), ?_⟩
    rw [Int.toNat_natCast]
    refine comp_map (as := List.range ys.length) (v := fun k => .int (0 + ((k : Nat) : Int))) (fun _ => .bl true) (src_range 0 _ H) (by rw [List.length_range]; exact few hn) (fun i hi kc hk => ?_) (fun D hD => ?_)
    · have hi := List.mem_range.mp hi
      have ei : (0 : Int) + ((i : Nat) : Int) = ((i : Nat) : Int) := by omega
      rw [ei]
      have hx : i < xs.length := by omega
      have e1 : atI xs ((i : Nat) : Int) = some xs[i] := atI_nat (List.getElem?_eq_getElem hx)
      have e2 : atI ys ((i : Nat) : Int) = some ys[i] := atI_nat (List.getElem?_eq_getElem hi)
      exact ⟨_, rfl, _, rfl, p, _, _, _, rfl, rfl, SqT.of hp, e1, _, rfl, _, rfl, r, _, _, _, rfl, rfl, SqT.of hr2, e2, _, _, rfl, hs i _ _ (List.getElem?_eq_getElem hx) (List.getElem?_eq_getElem hi), hk⟩
    · have hm : (List.range ys.length).map (fun _ => V.bl true) = (List.replicate ys.length true).map V.bl := by
        rw [List.map_replicate]
        exact List.eq_replicate_iff.mpr ⟨by rw [List.length_map, List.length_range], fun b hb => by obtain ⟨_, _, e⟩ := List.mem_map.mp hb; exact e.symm⟩
      refine ⟨D, List.replicate ys.length true, rfl, SqL.of (by rw [upd_same, hm]), ?_⟩
      have ht : (List.replicate ys.length true).all id = true := List.all_eq_true.mpr fun b hb => by rw [List.eq_of_mem_replicate hb]; rfl
      rw [ht]
      exact hq _ _ (Rst.same (same_upd hD) q)
theorem ok_same {f : Addr} {fd : FuncData} (F : Fun K "_law_same" "_law_same" sSame f fd) (D : Dfn K mg "_law_same" sSame f fd ["found", "due"]) (misi : mg "isinstance" = none) (mtup : mg "tuple" = none) (mstr : mg "str" = none) (mint : mg "int" = none) (mbool : mg "bool" = none) (mlen : mg "len" = none) (mrange : mg "range" = none) (mall : mg "all" = none) (kk : Kinds K) : ∀ n : Nat, FnOk P w K mg base CX0 (n + 1) f fd ["found", "due"] (spSame n)
  | 0 => ok_same0 F misi mtup mstr mint mbool kk
  | n + 1 => by
    have G := ok_same F D misi mtup mstr mint mbool mlen mrange mall kk n
    refine FnOk.or2 (G.mono (by omega)) (ok_sameT F D G misi mtup mlen mrange mall kk) fun vs H Q E h => ?_
    obtain ⟨x, y, rfl, hs, q⟩ := h
    rcases hs with h | ⟨p, r, xs, ys, rfl, rfl, h⟩
    · exact .inl ⟨x, y, rfl, h, q⟩
    · exact .inr ⟨p, r, xs, ys, rfl, h.1, h.2.1, h.2.2.1, h.2.2.2.1, h.2.2.2.2, q⟩
theorem scRdf : FnScope ["column", "readings", "row", "entry"] ["column"] (defScope sRdf) := ⟨rfl, rfl, rfl, by decide +kernel, rfl, by decide +kernel, by decide +kernel⟩
theorem tup_dn {P : Program} {w : World} {H : Hp} {a d : Addr} {xs : List V} {kvs : List (Option Str × V)} (h : H a = some (.tup xs)) (h2 : H d = some (DN P w d kvs)) : a ≠ d := ne_of h h2 (fun z => nomatch (show HO.tup xs = HO.ext _ from z))
def spReadingsL : Sp := fun vs H Q _ => ∃ (p : Addr) (es : List V), vs = [.ref p] ∧ H p = some (.lst es) ∧ (∀ e ∈ es, Ent e) ∧ 1 ≤ es.length ∧ es.length ≤ 30 ∧
  ∀ (H' : Hp) (r : Addr) (xs : List (Addr × Rdg)), Same H H' → H' r = some (.tup (xs.map fun y => V.ref y.1)) → (∀ y ∈ xs, RdgAt H' y.1 y.2) → (xs.map fun y => y.2) = rdgsOf es → Q (.ref r) H'
theorem ok_readingsL {f : Addr} {fd : FuncData} (F : Fun K "readings_of" "readings_of" sRdf f fd) (mtup : mg "tuple" = none) (menum : mg "enumerate" = none) : FnOk P w K mg base CX0 1 f fd ["column"] spReadingsL := by
  refine F.ok scRdf (fun vs H Q E h => ?_) (fun cdv A outer s H vs Q E hr h => ?_)
  · obtain ⟨p, es, rfl, _⟩ := h
    rfl
  · obtain ⟨p, es, rfl, hp, hE, h1, h30, q⟩ := h
    refine ⟨_, pss_cons (ps_set (i := 1) scRdf.nd rfl (Or.inl rfl) pe_dnewN)
      (pss_cons (ps_for PassesOwn.never rfl (pi_enumL (by rfl) menum (pa_cons (pv 0) pa_nil)) (pg_tup (n := 2) rfl (pgs_cons (pg_name (i := 2) scRdf.nd rfl (Or.inl rfl)) (pgs_cons (pg_name (i := 3) scRdf.nd rfl (Or.inl rfl)) pgs_nil)))
      (pss_one (ps_if (pt_cmpR op_ne (pv 3) (pe_ix ix_list (pv 0) pe_int (fun _ _ => rfl)) (nomark _)) (pss_one (ps_asg (pe_op op_catH (pe_bmN PySem.F.slot_dict_get PySem.F.type_dict_get mt_dgetN (pv 1) (pa_cons (pv 3) (pa_cons (pe_tup pa_nil) pa_nil))) (pe_tup (pa_cons (pv 2) pa_nil))) (pg_sub (pv 1) (pv 3) set_dictN))) pss_nil)))
      (pss_one (ps_ret (pe_callTy (call_tuple_view rfl) (by rfl) mtup boot_tuple (pa_cons (pe_bmN0 PySem.F.slot_dict_items PySem.F.type_dict_items mt_itemsN (pv 1)) pa_nil))))), ?_⟩
    have h0 : atI es 0 = some (es.getD 0 .non) := atI_nat (j := 0) (by rw [List.getD_eq_getElem?_getD, List.getElem?_eq_getElem (by omega)]; rfl)
    have hE0 : Ent (es.getD 0 .non) := by rw [List.getD_eq_getElem?_getD, List.getElem?_eq_getElem (by omega)]; exact hE _ (List.getElem_mem _)
    refine fun d hd => ?_
    have S0 := same_upd (o := DN P w d []) hd
    have hp0 := S0 _ _ hp
    refine ⟨_, rfl, p, rfl, ⟨_, SqL.of hp0⟩, for_enumL (K := K) (a := p) (xs := es) (fun i σ H2 => ∃ (ps : List (V × Addr)) (v2 v3 : Option V), σ = [some (.ref p), some (.ref d), v2, v3] ∧ H2 d = some (DN P w d (dnOf ps)) ∧ (ps.map fun q => q.1) = entTo es i ∧ (∀ q ∈ ps, H2 q.2 = some (.tup ((rowsTo es q.1 i).map natV))) ∧ Same H H2)
      ⟨[], none, none, rfl, upd_same, rfl, (fun _ z => nomatch z), S0⟩ (fun i σ H2 _ ⟨_, _, _, _, _, _, _, S⟩ => SqL.of (S _ _ hp)) ?_ ?_⟩
    · rintro i x σ H2 T hi ⟨ps, v2, v3, rfl, h2d, hps, hA, S2⟩ hT
      have hx : Ent x := hE x (List.mem_of_getElem? hi)
      have hi' : i < es.length := (List.getElem?_eq_some_iff.mp hi).1
      have hP : ∀ q ∈ ps, Ent q.1 := fun q hq => hE q.1 (entTo_mem i (hps ▸ List.mem_map.mpr ⟨q, hq, rfl⟩)).1
      have hpl : ps.length ≤ i := by
        have h1 := congrArg List.length hps
        rw [List.length_map] at h1
        have h2 := entTo_len es i
        omega
      have hgi : es.getD i .non = x := by rw [List.getD_eq_getElem?_getD, hi]; rfl
      have est := entTo_step hi
      unfold entStep at est
      have T1 := same_upd (o := .tup [.int ((i : Nat) : Int), x]) hT
      have hTT : upd H2 T (.tup [.int ((i : Nat) : Int), x]) T = some (.tup [.int ((i : Nat) : Int), x]) := upd_same
      have S3 := S2.trans T1
      have h3d := T1 _ _ h2d
      have hA3 : ∀ q ∈ ps, upd H2 T (.tup [.int ((i : Nat) : Int), x]) q.2 = some (.tup ((rowsTo es q.1 i).map natV)) := fun q hq => T1 _ _ (hA q hq)
      generalize upd H2 T (.tup [.int ((i : Nat) : Int), x]) = H3 at T1 hTT S3 h3d hA3
      refine ⟨T, _, rfl, SqT.of hTT, rfl, _, _, rfl, _, _, rfl, rfl, ?_⟩
      refine ⟨_, rfl, _, rfl, p, _, _, _, rfl, rfl, SqL.of (S3 _ _ hp), h0, ent_scal hx hE0, _, rfl, ?_⟩
      have other : ∀ y, y ≠ x → rowsTo es y (i + 1) = rowsTo es y i := fun y hy => by rw [rowsTo_step, if_neg (fun z : es.getD i .non = y => hy (z.symm.trans hgi)), List.append_nil]
      by_cases c : x = es.getD 0 .non
      · rw [if_pos c] at est
        rw [decide_eq_true (show x = es.getD 0 .non from c)]
        refine iteF ⟨ps, _, _, rfl, h3d, by rw [est]; exact hps, fun q hq => ?_, S3⟩
        have hne : q.1 ≠ x := fun e => (entTo_mem i (hps ▸ List.mem_map.mpr ⟨q, hq, rfl⟩)).2 (e.trans c)
        rw [other _ hne]
        exact hA3 q hq
      rw [if_neg c] at est
      rw [decide_eq_false (show ¬ x = es.getD 0 .non from c)]
      refine iteT ?_
      refine ⟨_, rfl, d, _, rfl, h3d, _, rfl, few (by show 0 ≤ _; omega), fun t0 ht0 => ?_⟩
      have T4 := same_upd (o := .tup []) ht0
      have h44 : upd H3 t0 (.tup []) t0 = some (.tup []) := upd_same
      have h4d := T4 _ _ h3d
      have hA4 : ∀ q ∈ ps, upd H3 t0 (.tup []) q.2 = some (.tup ((rowsTo es q.1 i).map natV)) := fun q hq => T4 _ _ (hA3 q hq)
      have S4 := S3.trans T4
      generalize upd H3 t0 (.tup []) = H4 at T4 h44 h4d hA4 S4
      refine ⟨d, _, vKey x, _, rfl, by rw [vKey_ent hx], h4d, ?_⟩
      obtain ⟨b, eb, hb⟩ : ∃ b, (valV (dnOf ps) (vKey x)).getD (.ref t0) = .ref b ∧ H4 b = some (.tup ((rowsTo es x i).map natV)) := by
        by_cases m : x ∈ ps.map (fun q => q.1)
        · obtain ⟨a, ha, e⟩ := dn_some hP hx m
          exact ⟨a, by rw [e]; rfl, hA4 _ ha⟩
        · refine ⟨t0, by rw [dn_none hP hx m]; rfl, ?_⟩
          rw [rows_none i (by omega) (hps ▸ m) c]
          exact h44
      rw [eb]
      refine ⟨_, rfl, few (by show 1 ≤ _; omega), fun t1 ht1 => ?_⟩
      have T5 := same_upd (o := .tup [V.int ((i : Nat) : Int)]) ht1
      have hrl := rowsTo_len es x i
      refine ⟨b, t1, _, _, rfl, rfl, T5 _ _ hb, upd_same, (by rw [List.length_map]; exact few (by show _ + 1 ≤ _; omega)), fun r H6 S6 h6 => ?_⟩
      have S46 := T5.trans S6
      have h6d := S46 _ _ h4d
      have S06 := S4.trans S46
      have hA6 : ∀ q ∈ ps, H6 q.2 = some (.tup ((rowsTo es q.1 i).map natV)) := fun q hq => S46 _ _ (hA4 q hq)
      have er : (rowsTo es x i).map natV ++ [V.int ((i : Nat) : Int)] = (rowsTo es x (i + 1)).map natV := by
        rw [rowsTo_step, if_pos hgi, List.map_append]
        rfl
      rw [er] at h6
      have hsame : ∀ kvs, Same H (upd H6 d (DN P w d kvs)) := fun kvs => same_to S06 hd
      have keep : ∀ {a : Addr} {ys : List V} {kvs : List (Option Str × V)}, H6 a = some (.tup ys) → upd H6 d (DN P w d kvs) a = some (.tup ys) := fun {a ys kvs} h => by
        rw [upd_ne (tup_dn h h6d)]; exact h
      refine ⟨_, rfl, _, rfl, d, _, vKey x, rfl, (vKey_ent hx).symm, h6d, (by unfold dnOf; rw [List.length_map]; exact fewer (by omega)), ?_⟩
      by_cases m : x ∈ ps.map (fun q => q.1)
      · rw [if_pos (hps ▸ m)] at est
        rw [dn_put hP hx m]
        refine ⟨_, _, _, rfl, upd_same, ?_, fun q hq => ?_, hsame _⟩
        · rw [est, ← hps, List.map_map]
          refine List.map_congr_left fun q _ => ?_
          show (if q.1 = x then (q.1, r) else q).1 = q.1
          split <;> rfl
        · obtain ⟨q0, hq0, rfl⟩ := List.mem_map.mp hq
          by_cases e : q0.1 = x
          · rw [if_pos e]
            show upd H6 d _ r = some (.tup ((rowsTo es q0.1 (i + 1)).map natV))
            rw [e]
            exact keep h6
          · rw [if_neg e, other _ e]
            exact keep (hA6 q0 hq0)
      · rw [if_neg (hps ▸ m)] at est
        rw [dn_new hP hx m]
        refine ⟨_, _, _, rfl, upd_same, by rw [est, ← hps, List.map_append]; rfl, fun q hq => ?_, hsame _⟩
        rcases List.mem_append.mp hq with hq | hq
        · rw [other _ (fun e => m (e ▸ List.mem_map.mpr ⟨q, hq, rfl⟩))]
          exact keep (hA6 q hq)
        · rw [List.mem_singleton.mp hq]
          exact keep h6
    · rintro σ H2 ⟨ps, v2, v3, rfl, h2d, hps, hA, S2⟩
      have hP : ∀ q ∈ ps, Ent q.1 := fun q hq => hE q.1 (entTo_mem _ (hps ▸ List.mem_map.mpr ⟨q, hq, rfl⟩)).1
      refine ⟨_, rfl, d, _, rfl, h2d, d, _, rfl, rfl, h2d, fun v hv => ?_⟩
      have T3 := same_upd (o := ViewO v d) hv
      refine ⟨v, d, _, rfl, upd_same, T3 _ _ h2d, fun H' t as S3 _ ht hPr => ?_⟩
      have S23 : Same H2 H' := fun b o e => S3 _ _ (T3 _ _ e)
      have hlen : as.length = ps.length := by rw [hPr.len]; unfold dnOf; rw [List.length_map]
      refine q H' t (List.zipWith (fun a q => (a, (q.1, rowsTo es q.1 es.length))) as ps) (S2.trans S23) ?_ (fun y hy => ?_) ?_
      · rw [ht, List.map_zipWith]
        congr 2
        exact (Vm.zip_fst V.ref as ps hlen).symm
      · obtain ⟨j, hj⟩ := List.mem_iff_getElem?.mp hy
        rw [List.getElem?_zipWith] at hj
        cases ea : as[j]? with
        | none => rw [ea] at hj; cases hj
        | some a =>
          cases ep : ps[j]? with
          | none => rw [ea, ep] at hj; cases hj
          | some qq =>
            rw [ea, ep] at hj
            cases hj
            have hm := List.mem_of_getElem? ep
            have hmem : qq.1 ∈ entTo es es.length := hps ▸ List.mem_map.mpr ⟨qq, hm, rfl⟩
            have h3 := hPr.item j a (vKey qq.1) (.ref qq.2) ea (by unfold dnOf; rw [List.getElem?_map, ep]; rfl)
            rw [vKey_ent (hP qq hm)] at h3
            exact ⟨rdgs_ok hE h30 hmem, qq.2, h3, S23 _ _ (hA qq hm)⟩
      · rw [List.map_zipWith]
        unfold rdgsOf
        rw [← hps, List.map_map]
        exact Vm.zip_snd (fun q : V × Addr => (q.1, rowsTo es q.1 es.length)) as ps hlen
theorem ent_eqV {x y : V} (h : Ent x) (h2 : Ent y) : eqV x y = decide (x = y) := by
  rcases h with rfl | ⟨z, _, rfl⟩ <;> rcases h2 with rfl | ⟨u, _, rfl⟩
  · rfl
  · rfl
  · rfl
  · show decide (z = u) = decide (V.str z = V.str u)
    by_cases e : z = u
    · subst e; rw [decide_eq_true rfl, decide_eq_true rfl]
    · rw [decide_eq_false e, decide_eq_false (fun q => e (V.str.inj q))]
theorem eqs_by {α β : Type} [DecidableEq β] {K : PySem.W.Frag} {H : Hp} {n : Nat} {p r : Addr} {xs ys : List α} (v : α → V) (f : α → β) (h : (SqL K H p (xs.map v) ∧ SqL K H r (ys.map v)) ∨ (SqT K H p (xs.map v) ∧ SqT K H r (ys.map v))) (he : ∀ x ∈ xs, ∀ y ∈ ys, EqQ K H n (v x) (v y) (decide (f x = f y))) : EqS K H n (.ref p) (.ref r) (decide (xs.map f = ys.map f)) := by
  refine ⟨p, r, _, _, fun i => decide ((xs.map f)[i]? = (ys.map f)[i]?), rfl, rfl, h, fun i x y hx hy => ?_, ?_⟩
  · rw [List.getElem?_map] at hx hy
    obtain ⟨a, ha, rfl⟩ := Option.map_eq_some_iff.mp hx
    obtain ⟨b, hb, rfl⟩ := Option.map_eq_some_iff.mp hy
    have h1 := he a (List.mem_of_getElem? ha) b (List.mem_of_getElem? hb)
    have e : decide ((xs.map f)[i]? = (ys.map f)[i]?) = decide (f a = f b) := decide_eq_decide.mpr (by
      rw [List.getElem?_map, List.getElem?_map, ha, hb]
      exact ⟨fun z => Option.some.inj z, fun z => congrArg some z⟩)
    show EqQ K H n (v a) (v b) (decide _)
    rw [e]
    exact h1
  · rw [List.length_map, List.length_map, Bool.eq_iff_iff, decide_eq_true_eq, Bool.and_eq_true, decide_eq_true_eq, List.all_eq_true]
    constructor
    · intro e
      refine ⟨?_, fun i _ => decide_eq_true (by rw [e])⟩
      have := congrArg List.length e
      rw [List.length_map, List.length_map] at this
      exact this
    · rintro ⟨hl, ha⟩
      refine List.ext_getElem? fun i => ?_
      by_cases hi : i < xs.length
      · exact of_decide_eq_true (ha i (List.mem_range.mpr hi))
      · rw [List.getElem?_eq_none (by rw [List.length_map]; omega), List.getElem?_eq_none (by rw [List.length_map]; omega)]
abbrev RdgZ := V × List Int
def RdgAtZ (K : PySem.W.Frag) (H : Hp) (t : Addr) (x : RdgZ) : Prop := Ent x.1 ∧ ∃ r, SqT K H t [x.1, .ref r] ∧ SqT K H r (x.2.map V.int)
theorem RdgAtZ.mono {K : PySem.W.Frag} {H H' : Hp} {t : Addr} {x : RdgZ} (S : Same H H') (h : RdgAtZ K H t x) : RdgAtZ K H' t x := by
  obtain ⟨ho, r, h1, h2⟩ := h
  exact ⟨ho, r, sameT S h1, sameT S h2⟩
def rdgZ (y : Rdg) : RdgZ := (y.1, y.2.map fun n => ((n : Nat) : Int))
theorem rdgAt_z {K : PySem.W.Frag} {H : Hp} {t : Addr} {y : Rdg} (h : RdgAt H t y) : RdgAtZ K H t (rdgZ y) := by
  obtain ⟨ho, r, h1, h2⟩ := h
  exact ⟨ho.1, r, SqT.of h1, by unfold rdgZ; rw [List.map_map]; exact SqT.of h2⟩
theorem rdgz_eq {K : PySem.W.Frag} {H : Hp} {a b : Addr} {y z : RdgZ} (h : RdgAtZ K H a y) (h' : RdgAtZ K H b z) : EqQ K H 2 (.ref a) (.ref b) (decide (y = z)) := by
  obtain ⟨ho, r, h1, h2⟩ := h
  obtain ⟨ho', r', h3, h4⟩ := h'
  refine .inr ⟨a, b, _, _, fun i => if i = 0 then decide (y.1 = z.1) else decide (y.2 = z.2), rfl, rfl, .inr ⟨h1, h3⟩, fun i u v hu hv => ?_, ?_⟩
  · match i, hu, hv with
    | 0, hu, hv =>
      cases hu; cases hv
      have := EqQ.flat (K := K) (H := H) (ent_flat ho) (ent_flat ho') 1
      rw [ent_eqV ho ho'] at this
      exact this
    | 1, hu, hv =>
      cases hu; cases hv
      have := eqs_by (K := K) (H := H) (n := 0) (xs := y.2) (ys := z.2) V.int (fun x => x) (.inr ⟨h2, h4⟩) fun u _ v _ => ⟨rfl, rfl, by show _ = (u == v); rw [Bool.eq_iff_iff, decide_eq_true_eq, beq_iff_eq]⟩
      rw [List.map_id', List.map_id'] at this
      exact .inr this
    | k + 2, hu, hv => simp at hu
  · show _ = (true && ((if (0 : Nat) = 0 then decide (y.1 = z.1) else _) && ((if (1 : Nat) = 0 then _ else decide (y.2 = z.2)) && true)))
    rw [if_pos rfl, if_neg (by decide), Bool.true_and, Bool.and_true, Bool.eq_iff_iff, decide_eq_true_eq, Bool.and_eq_true, decide_eq_true_eq, decide_eq_true_eq]
    exact Prod.ext_iff
theorem eqs_rdgz {K : PySem.W.Frag} {H : Hp} {t u : Addr} {xs ys : List (Addr × RdgZ)} (ht : SqT K H t (xs.map fun y => V.ref y.1)) (hu : SqT K H u (ys.map fun y => V.ref y.1)) (hX : ∀ y ∈ xs, RdgAtZ K H y.1 y.2) (hY : ∀ y ∈ ys, RdgAtZ K H y.1 y.2) : EqS K H 2 (.ref t) (.ref u) (decide ((xs.map fun y => y.2) = ys.map fun y => y.2)) :=
  eqs_by (fun y => V.ref y.1) (fun y => y.2) (.inr ⟨ht, hu⟩) fun x hx y hy => rdgz_eq (hX x hx) (hY y hy)
def putRow (m : Nat) (x : V) (o : Option (List V)) (r : Int) : Option (List V) := o.bind fun c => if 0 < r ∧ r < (m : Int) then some (c.set r.toNat x) else none
def putRdg (m : Nat) (o : Option (List V)) (y : RdgZ) : Option (List V) := y.2.foldl (putRow m y.1) o
def putAll (m : Nat) (e : V) (ys : List RdgZ) : Option (List V) := ys.foldl (putRdg m) (some (List.replicate m e))
def colBack (e : V) (m : Nat) (ys : List RdgZ) : Option (List V) := (putAll m e ys).bind fun c => if ys = [] ∨ ¬ (rdgsOf c).map rdgZ = ys then none else some c
theorem row_none {m : Nat} {x : V} : ∀ rs : List Int, rs.foldl (putRow m x) none = none
  | [] => rfl
  | _ :: rs => row_none rs
theorem rdg_none {m : Nat} : ∀ ys : List RdgZ, ys.foldl (putRdg m) none = none
  | [] => rfl
  | y :: ys => by
    rw [List.foldl_cons, show putRdg m none y = none from row_none _]
    exact rdg_none ys
theorem split_at {α : Type} {l : List α} {j : Nat} {a : α} (h : l[j]? = some a) : l = l.take j ++ a :: l.drop (j + 1) := by
  obtain ⟨h1, h2⟩ := List.getElem?_eq_some_iff.mp h
  rw [← h2, ← List.drop_eq_getElem_cons h1, List.take_append_drop]
theorem col_dead {e : V} {m j k : Nat} {ys : List RdgZ} {y : RdgZ} {r : Int} {c c' : List V} (hys : ys[j]? = some y) (hf : (ys.take j).foldl (putRdg m) (some (List.replicate m e)) = some c) (hrk : y.2[k]? = some r) (hf' : (y.2.take k).foldl (putRow m y.1) (some c) = some c') (hn : ¬ (0 < r ∧ r < ((m : Nat) : Int))) : colBack e m ys = none := by
  have e3 : putRdg m (some c) y = none := by
    unfold putRdg
    rw [split_at hrk, List.foldl_append, hf', List.foldl_cons]
    have : putRow m y.1 (some c') r = none := by
      show (if 0 < r ∧ r < (m : Int) then some (c'.set r.toNat y.1) else none) = none
      rw [if_neg hn]
    rw [this]
    exact row_none _
  have e4 : putAll m e ys = none := by
    unfold putAll
    rw [split_at hys, List.foldl_append, hf, List.foldl_cons, e3]
    exact rdg_none _
  unfold colBack
  rw [e4]
  rfl
def spCBX (K : PySem.W.Frag) (C : Addr) : Sp := fun vs H Q E => ∃ (e : V) (m : Nat) (t : Addr) (xs : List (Addr × RdgZ)), vs = [e, .int ((m : Nat) : Int), .ref t] ∧ Ent e ∧ 1 ≤ m ∧ m ≤ 30 ∧ SqT K H t (xs.map fun y => V.ref y.1) ∧ (∀ y ∈ xs, RdgAtZ K H y.1 y.2) ∧
  (∀ c, colBack e m (xs.map fun y => y.2) = some c → c.length = m → (∀ z ∈ c, Ent z) → ∀ (H' : Hp) (r : Addr), Same H H' → H' r = some (.tup c) → Q (.ref r) H') ∧ (colBack e m (xs.map fun y => y.2) = none → ∀ H', Same H H' → E (.ref C) none H')
theorem scCB : FnScope ["entry", "many", "readings", "column", "reading", "rows", "row"] ["entry", "many", "readings"] (defScope sCB) := ⟨rfl, rfl, rfl, by decide +kernel, rfl, by decide +kernel, by decide +kernel⟩
theorem ok_cbX {f gR C : Addr} {fd dR : FuncData} (F : Fun K "column_back" "column_back" sCB f fd) (DR : Dfn K mg "readings_of" sRdf gR dR ["column"]) (mC : mg "NoNotes" = some (.ref C)) (xC : VEx K C) (mlen : mg "len" = none) (mtup : mg "tuple" = none) (menum : mg "enumerate" = none) : FnOk P w K mg base (CXv P w) 2 f fd ["entry", "many", "readings"] (spCBX K C) := by
  have GR : FnOk P w K mg base CX0 1 gR dR ["column"] spReadingsL := ok_readingsL DR.fn mtup menum
  refine Fun.okX F scCB (fun vs H Q E h => ?_) (fun cdv A outer s H vs Q E hr h => ?_)
  · obtain ⟨e, m, t, xs, rfl, _⟩ := h
    rfl
  · obtain ⟨e, m, t, xs, rfl, he, hm1, hm30, ht, hX, q1, q2⟩ := h
    refine ⟨_, PSs.fly (pss_cons (ps_set (i := 3) scCB.nd rfl (Or.inl rfl) (pe_op op_mulL (pe_lst (pa_cons (pv 0) pa_nil)) (pv 1)))
      (pss_cons (ps_for passF rfl (pi_tup (pv 2)) (pg_tup (n := 2) rfl (pgs_cons (pg_name (i := 4) scCB.nd rfl (Or.inl rfl)) (pgs_cons (pg_name (i := 5) scCB.nd rfl (Or.inl rfl)) pgs_nil)))
      (pss_one (ps_for passF rfl (pi_tup (pv 5)) (pg_name (i := 6) scCB.nd rfl (Or.inl rfl))
      (pss_cons (ps_if (pt_not (pt_chain op_lt op_lt pe_int (pv 6) (pv 1))) (pss_one (ps_raise rfl (by rfl) mC xC landsF pe_str)) pss_nil)
      (pss_one (ps_asg (pv 4) (pg_sub (pv 3) (pv 6) set_list)))))))
      (pss_cons (ps_if (PW.pt (pw_or (pt_cmpR op_eq (pe_callB call_len_seq (by rfl) mlen PySem.boot_len (pa_cons (pv 2) pa_nil)) pe_int (nomark _)) (pw_or1 (pt_cmpR (op_neS hr.units) (pe_call GR hr (by rfl) DR.at_ DR.fn.kp DR.bn .nil pass0 (pa_cons (pv 3) pa_nil)) (pv 2) (nomark _))))) (pss_one (ps_raise rfl (by rfl) mC xC landsF pe_str)) pss_nil)
      (pss_one (ps_ret (pe_callTy call_tuple_of (by rfl) mtup boot_tuple (pa_cons (pv 3) pa_nil))))))), ?_⟩
    have z1 : (1 : Nat) ≤ sizeLine := few (by omega)
    refine ⟨_, rfl, z1, fun l0 hl0 => ?_⟩
    have T0 := same_upd (o := .lst [e]) hl0
    refine ⟨_, rfl, l0, _, m, rfl, rfl, upd_same, by omega, fun lc hlc => ?_⟩
    have T1 := same_upd (o := .lst (List.replicate m e)) hlc
    have S1 := T0.trans T1
    have h1c : upd (upd H l0 (.lst [e])) lc (.lst (List.replicate m e)) lc = some (.lst (List.replicate m e)) := upd_same
    have hcH := T0.free hlc
    generalize upd (upd H l0 (.lst [e])) lc (.lst (List.replicate m e)) = H1 at S1 h1c
    refine ⟨_, rfl, t, rfl, ⟨_, sameT S1 ht⟩, for_tup (K := K) (a := t) (xs := xs.map fun y => V.ref y.1) (fun j σ H2 => ∃ (c : List V) (v4 v5 v6 : Option V), σ = [some e, some (.int ((m : Nat) : Int)), some (.ref t), some (.ref lc), v4, v5, v6] ∧ H2 lc = some (.lst c) ∧ ((xs.map fun y => y.2).take j).foldl (putRdg m) (some (List.replicate m e)) = some c ∧ c.length = m ∧ (∀ z ∈ c, Ent z) ∧ Same H H2)
      ⟨_, none, none, none, rfl, h1c, rfl, List.length_replicate .., (fun z hz => by rw [List.eq_of_mem_replicate hz]; exact he), S1⟩ (fun j σ H2 _ ⟨_, _, _, _, _, _, _, _, _, S⟩ => sameT S ht) ?_ ?_⟩
    · rintro j y σ H2 hj ⟨c, v4, v5, v6, rfl, h2c, hf, hcl, hce, S2⟩
      rw [List.getElem?_map] at hj
      obtain ⟨p, hp, rfl⟩ := Option.map_eq_some_iff.mp hj
      obtain ⟨hx, r0, hp1, hp2⟩ := hX p (List.mem_of_getElem? hp)
      have hys : (xs.map fun y => y.2)[j]? = some p.2 := by rw [List.getElem?_map, hp]; rfl
      refine ⟨p.1, _, rfl, sameT S2 hp1, rfl, _, _, rfl, _, _, rfl, rfl, ?_⟩
      refine ⟨_, rfl, r0, rfl, ⟨_, sameT S2 hp2⟩, for_tup (K := K) (a := r0) (xs := p.2.2.map V.int) (fun k σ H3 => ∃ (c' : List V) (v6 : Option V), σ = [some e, some (.int ((m : Nat) : Int)), some (.ref t), some (.ref lc), some p.2.1, some (.ref r0), v6] ∧ H3 lc = some (.lst c') ∧ (p.2.2.take k).foldl (putRow m p.2.1) (some c) = some c' ∧ c'.length = m ∧ (∀ z ∈ c', Ent z) ∧ Same H H3)
        ⟨c, v6, rfl, h2c, rfl, hcl, hce, S2⟩ (fun k σ H3 _ ⟨_, _, _, _, _, _, _, S⟩ => sameT S hp2) ?_ ?_⟩
      · rintro k y σ H3 hk ⟨c', v6, rfl, h3c, hf', hcl', hce', S3⟩
        rw [List.getElem?_map] at hk
        obtain ⟨r, hrk, rfl⟩ := Option.map_eq_some_iff.mp hk
        have dead : ¬ (0 < r ∧ r < ((m : Nat) : Int)) → E (.ref C) none H3 := fun hn => q2 (col_dead hys hf hrk hf' hn) _ S3
        refine ⟨_, rfl, _, _, rfl, rfl, _, rfl, ?_⟩
        by_cases b1 : (0 : Int) < r
        · rw [decide_eq_true b1]
          refine iteT ⟨_, rfl, _, _, rfl, rfl, _, rfl, ?_⟩
          by_cases b2 : r < ((m : Nat) : Int)
          · rw [decide_eq_true b2]
            refine iteF ?_
            obtain ⟨n, rfl⟩ : ∃ n : Nat, r = ((n : Nat) : Int) := ⟨r.toNat, by omega⟩
            refine ⟨_, rfl, _, rfl, _, rfl, lc, _, _, n, rfl, rfl, h3c, (by rw [hcl']; exact ixN_nat (by omega)), ?_⟩
            refine ⟨c'.set n p.2.1, _, rfl, upd_same, ?_, by rw [List.length_set]; exact hcl', fun z hz => ?_, same_to S3 hcH⟩
            · rw [List.take_add_one, hrk, List.foldl_append, hf']
              show (if 0 < ((n : Nat) : Int) ∧ ((n : Nat) : Int) < ((m : Nat) : Int) then some (c'.set ((n : Nat) : Int).toNat p.2.1) else none) = _
              rw [if_pos ⟨b1, b2⟩]
              rfl
            · rcases List.mem_or_eq_of_mem_set hz with hz | hz
              · exact hce' z hz
              · rw [hz]; exact hx
          · rw [decide_eq_false b2]
            exact iteT ⟨z1, dead fun z => b2 z.2⟩
        · rw [decide_eq_false b1]
          exact iteF ⟨_, rfl, iteT ⟨z1, dead fun z => b1 z.1⟩⟩
      · rintro σ H3 ⟨c', v6, rfl, h3c, hf', hcl', hce', S3⟩
        rw [List.length_map, List.take_length] at hf'
        refine ⟨c', _, _, _, rfl, h3c, ?_, hcl', hce', S3⟩
        rw [List.take_add_one, hys, List.foldl_append, hf]
        exact hf'
    · rintro σ H2 ⟨c, v4, v5, v6, rfl, h2c, hf, hcl, hce, S2⟩
      have lx : (xs.map fun y => V.ref y.1).length = (xs.map fun y => y.2).length := by rw [List.length_map, List.length_map]
      rw [lx, List.take_length] at hf
      have hcb : colBack e m (xs.map fun y => y.2) = if (xs.map fun y => y.2) = [] ∨ ¬ (rdgsOf c).map rdgZ = (xs.map fun y => y.2) then none else some c := by
        unfold colBack putAll
        rw [hf]
        rfl
      refine ⟨_, rfl, t, _, rfl, .inr (sameT S2 ht), rfl, _, rfl, ?_⟩
      rw [lx]
      by_cases hn : (xs.map fun y => y.2) = []
      · rw [decide_eq_true (show V.int (((xs.map fun y => y.2).length : Nat) : Int) = V.int 0 by rw [hn]; rfl)]
        exact iteT (iteT ⟨z1, q2 (by rw [hcb, if_pos (.inl hn)]) _ S2⟩)
      · rw [decide_eq_false (show ¬ V.int (((xs.map fun y => y.2).length : Nat) : Int) = V.int 0 from fun z => hn (List.length_eq_zero_iff.mp (by have := V.int.inj z; omega)))]
        refine iteF ?_
        refine ⟨_, rfl, lc, c, rfl, h2c, hce, by omega, by omega, fun H3 r3 ys S3 h3 hY hye => ?_⟩
        have h3' : SqT K H3 r3 ((ys.map fun y => (y.1, rdgZ y.2)).map fun y => V.ref y.1) := by rw [List.map_map]; exact SqT.of h3
        have eb : ((ys.map fun y => (y.1, rdgZ y.2)).map fun y => y.2) = (rdgsOf c).map rdgZ := by rw [← hye, List.map_map, List.map_map]; rfl
        refine ⟨_, rfl, 2, _, by decide, eqs_rdgz h3' (sameT (S2.trans S3) ht) (fun y hy => by obtain ⟨w, hw, rfl⟩ := List.mem_map.mp hy; exact rdgAt_z (hY w hw)) (fun y hy => ((hX y hy).mono S2).mono S3), _, rfl, ?_⟩
        rw [eb]
        by_cases hq : (rdgsOf c).map rdgZ = (xs.map fun y => y.2)
        · rw [decide_eq_true hq]
          refine iteF ⟨_, rfl, lc, _, rfl, .inl ⟨SqL.of (S3 _ _ h2c), fun r4 hr4 => ?_⟩⟩
          exact q1 c (by rw [hcb, if_neg (fun z => z.elim hn fun z => z hq)]) hcl hce _ r4 ((S2.trans S3).trans (same_upd hr4)) upd_same
        · rw [decide_eq_false hq]
          exact iteT ⟨z1, q2 (by rw [hcb, if_pos (.inr hq)]) _ (S2.trans S3)⟩
abbrev NoteZ := Int × List RdgZ
abbrev NoteY := Int × List (Addr × RdgZ)
def NoteAtZ (K : PySem.W.Frag) (H : Hp) (t : Addr) (x : NoteY) : Prop := (∀ y ∈ x.2, RdgAtZ K H y.1 y.2) ∧ ∃ q, SqT K H t [.int x.1, .ref q] ∧ SqT K H q (x.2.map fun y => V.ref y.1)
def toldZ (y : NoteY) : NoteZ := (y.1, y.2.map fun z => z.2)
def obStep (es : List V) (m : Nat) (o : Option (Int × List (List V))) (y : NoteZ) : Option (Int × List (List V)) := o.bind fun s => if s.1 < y.1 ∧ y.1 < ((es.length : Nat) : Int) then (colBack (es.getD y.1.toNat .non) m y.2).map fun c => (y.1, s.2.set y.1.toNat c) else none
def obAll (es : List V) (m : Nat) (ys : List NoteZ) : Option (Int × List (List V)) := ys.foldl (obStep es m) (some (-1, es.map fun e => List.replicate m e))
theorem ob_none {es : List V} {m : Nat} : ∀ ys : List NoteZ, ys.foldl (obStep es m) none = none
  | [] => rfl
  | _ :: ys => ob_none ys
theorem ob_dead {es : List V} {m j : Nat} {ys : List NoteZ} {y : NoteZ} {s : Int × List (List V)} (hys : ys[j]? = some y) (hf : (ys.take j).foldl (obStep es m) (some (-1, es.map fun e => List.replicate m e)) = some s) (hn : obStep es m (some s) y = none) : obAll es m ys = none := by
  unfold obAll
  rw [split_at hys, List.foldl_append, hf, List.foldl_cons, hn]
  exact ob_none _
def ColsZ (H : Hp) (as : List Addr) (cs : List (List V)) : Prop := ∀ (i : Nat) (a : Addr) (c : List V), as[i]? = some a → cs[i]? = some c → H a = some (.tup c)
theorem ColsZ.mono {H H' : Hp} {as : List Addr} {cs : List (List V)} (S : Same H H') (h : ColsZ H as cs) : ColsZ H' as cs := fun i a c e1 e2 => S _ _ (h i a c e1 e2)
def spOBX (K : PySem.W.Frag) (C : Addr) : Sp := fun vs H Q E => ∃ (p t : Addr) (es : List V) (m : Nat) (ns : List (Addr × NoteY)), vs = [.ref p, .int ((m : Nat) : Int), .ref t] ∧ SqT K H p es ∧ (∀ e ∈ es, Ent e) ∧ es.length ≤ 10000 ∧ 1 ≤ m ∧ m ≤ 30 ∧ SqT K H t (ns.map fun y => V.ref y.1) ∧ (∀ y ∈ ns, NoteAtZ K H y.1 y.2) ∧
  (∀ s, obAll es m (ns.map fun y => toldZ y.2) = some s → ∀ (H' : Hp) (r : Addr) (as : List Addr), Same H H' → H' r = some (.tup (as.map V.ref)) → as.length = s.2.length → s.2.length = es.length → ColsZ H' as s.2 → Q (.ref r) H') ∧ (obAll es m (ns.map fun y => toldZ y.2) = none → ∀ H', Same H H' → E (.ref C) none H')
theorem scOB : FnScope ["entries", "many", "notes", "columns", "ahead", "number", "readings"] ["entries", "many", "notes"] (defScope sOB) := ⟨rfl, rfl, rfl, by decide +kernel, rfl, by decide +kernel, by decide +kernel⟩
theorem nd_em : (["entry", "many"] : List Str).Nodup := by decide +kernel
theorem ok_obX {f gR gC C : Addr} {fd dR dC : FuncData} (F : Fun K "collation_back" "collation_back" sOB f fd) (DR : Dfn K mg "readings_of" sRdf gR dR ["column"]) (DC : Dfn K mg "column_back" sCB gC dC ["entry", "many", "readings"]) (mC : mg "NoNotes" = some (.ref C)) (xC : VEx K C) (mlen : mg "len" = none) (mtup : mg "tuple" = none) (menum : mg "enumerate" = none) : FnOk P w K mg base (CXv P w) 3 f fd ["entries", "many", "notes"] (spOBX K C) := by
  have GC : FnOk P w K mg base (CXv P w) 2 gC dC ["entry", "many", "readings"] (spCBX K C) := ok_cbX DC.fn DR mC xC mlen mtup menum
  refine Fun.okX F scOB (fun vs H Q E h => ?_) (fun cdv A outer s H vs Q E hr h => ?_)
  · obtain ⟨p, t, es, m, ns, rfl, _⟩ := h
    rfl
  · obtain ⟨p, t, es, m, ns, rfl, hp, hE, hel, m1, m30, ht, hN, q1, q2⟩ := h
    refine ⟨_, PSs.fly (pss_cons (ps_setC (i := 3) (Nc := ["entry", "many"]) (mp := [none, some 1]) rfl scOB.nd rfl rfl (CompOk.of (by rfl)) (pi_tup (pv 0)) (fun cl C s H fp => ⟨pg_name (i := 0) nd_em rfl (Or.inl rfl), pts_nil, (pe_op op_mulT (pe_tup (pa_cons (pv 0) pa_nil)) (pv 1))⟩))
      (pss_cons (ps_set (i := 4) scOB.nd rfl (Or.inl rfl) (pe_un un_neg pe_int))
      (pss_cons (ps_for passF rfl (pi_tup (pv 2)) (pg_tup (n := 2) rfl (pgs_cons (pg_name (i := 5) scOB.nd rfl (Or.inl rfl)) (pgs_cons (pg_name (i := 6) scOB.nd rfl (Or.inl rfl)) pgs_nil)))
      (pss_cons (ps_if (pt_not (pt_chain op_lt op_lt (pv 4) (pv 5) (pe_callB call_len_seq (by rfl) mlen PySem.boot_len (pa_cons (pv 0) pa_nil)))) (pss_one (ps_raise rfl (by rfl) mC xC landsF pe_str)) pss_nil)
      (pss_cons (ps_asg (pe_call GC hr (by rfl) DC.at_ DC.fn.kp DC.bn .nil passesF (pa_cons (pe_ix ix_tup (pv 0) (pv 5) (fun _ _ => rfl)) (pa_cons (pv 1) (pa_cons (pv 6) pa_nil)))) (pg_sub (pv 3) (pv 5) set_list))
      (pss_one (ps_set (i := 4) scOB.nd rfl (Or.inl rfl) (pv 5))))))
      (pss_one (ps_ret (pe_callTy call_tuple_of (by rfl) mtup boot_tuple (pa_cons (pv 3) pa_nil))))))), ?_⟩
    have z1 : (1 : Nat) ≤ sizeLine := few (by omega)
    have hid : (es.map fun x => x) = es := List.map_id' es
    refine ⟨_, rfl, p, rfl, ⟨_, hp⟩, comp_grow (as := es) (v := fun x => x) (fun i acc H2 => ∃ as : List Addr, acc = as.map V.ref ∧ as.length = i ∧ Same H H2 ∧ ColsZ H2 as (es.map fun e => List.replicate m e))
      (fun i acc H2 _ ⟨_, _, _, S, _⟩ => src_tup (by rw [hid]; exact sameT S hp)) (few (by omega)) ⟨[], rfl, rfl, Same.refl _, (fun i a c e => by simp at e)⟩ (fun i acc H2 ⟨as, e, hl, _⟩ => by rw [e, List.length_map, hl]) ?_ ?_⟩
    · rintro i c acc H2 hc ⟨as, rfl, hal, S2, hA⟩ k hk
      refine ⟨_, rfl, z1, fun t3 ht3 => ?_⟩
      have T3 := same_upd (o := .tup [c]) ht3
      refine ⟨_, rfl, t3, _, m, rfl, rfl, upd_same, by omega, fun r4 H4 S4 h4 => ?_⟩
      have S24 := T3.trans S4
      refine hk _ _ ⟨as ++ [r4], by rw [List.map_append]; rfl, by rw [List.length_append, hal]; rfl, S2.trans S24, fun j a d e1 e2 => ?_⟩
      by_cases hj : j < as.length
      · rw [List.getElem?_append_left hj] at e1
        exact S24 _ _ (hA j a d e1 e2)
      · rw [List.getElem?_append_right (by omega)] at e1
        have hj0 : j = i := by
          have := (List.getElem?_eq_some_iff.mp e1).1
          rw [List.length_singleton] at this
          omega
        subst hj0
        rw [hal, Nat.sub_self] at e1
        cases e1
        rw [List.getElem?_map, hc] at e2
        cases e2
        exact h4
    rintro acc H2 ⟨as, rfl, hal, S2, hA⟩ lc hlc
    have T3 := same_upd (o := .lst (as.map V.ref)) hlc
    have h3c : upd H2 lc (.lst (as.map V.ref)) lc = some (.lst (as.map V.ref)) := upd_same
    have S3 := S2.trans T3
    have hcH := S2.free hlc
    have hA3 := hA.mono T3
    generalize upd H2 lc (.lst (as.map V.ref)) = H3 at T3 h3c S3 hA3
    refine ⟨_, rfl, ?_⟩
    refine ⟨_, rfl, t, rfl, ⟨_, sameT S3 ht⟩, for_tup (K := K) (a := t) (xs := ns.map fun y => V.ref y.1) (fun j σ H4 => ∃ (as : List Addr) (s : Int × List (List V)) (v5 v6 : Option V), σ = [some (.ref p), some (.int ((m : Nat) : Int)), some (.ref t), some (.ref lc), some (.int s.1), v5, v6] ∧ as.length = es.length ∧ s.2.length = es.length ∧ H4 lc = some (.lst (as.map V.ref)) ∧ ColsZ H4 as s.2 ∧ ((ns.map fun y => toldZ y.2).take j).foldl (obStep es m) (some (-1, es.map fun e => List.replicate m e)) = some s ∧ -1 ≤ s.1 ∧ Same H H4)
      ⟨as, (-1, es.map fun e => List.replicate m e), none, none, rfl, hal, List.length_map .., h3c, hA3, rfl, Int.le_refl _, S3⟩ (fun j σ H4 _ ⟨_, _, _, _, _, _, _, _, _, _, _, S⟩ => sameT S ht) ?_ ?_⟩
    · rintro j y σ H4 hj ⟨as, s, v5, v6, rfl, hal, hsl, h4c, hB, hf, hs1, S4⟩
      rw [List.getElem?_map] at hj
      obtain ⟨y, hy, rfl⟩ := Option.map_eq_some_iff.mp hj
      have hys : (ns.map fun y => toldZ y.2)[j]? = some (toldZ y.2) := by rw [List.getElem?_map, hy]; rfl
      obtain ⟨n3, qa, n4, n5⟩ := hN y (List.mem_of_getElem? hy)
      refine ⟨y.1, _, rfl, sameT S4 n4, rfl, _, _, rfl, _, _, rfl, rfl, ?_⟩
      refine ⟨_, rfl, _, rfl, _, _, rfl, rfl, _, rfl, ?_⟩
      have out : ¬ (s.1 < y.2.1 ∧ y.2.1 < ((es.length : Nat) : Int)) → E (.ref C) none H4 := fun hn => q2 (ob_dead hys hf (by
        show (if s.1 < y.2.1 ∧ y.2.1 < ((es.length : Nat) : Int) then _ else none) = none
        rw [if_neg hn])) _ S4
      by_cases b1 : s.1 < y.2.1
      · rw [decide_eq_true (show s.1 < y.2.1 from b1)]
        refine iteT ⟨_, rfl, p, _, rfl, .inr (sameT S4 hp), _, _, rfl, rfl, _, rfl, ?_⟩
        by_cases b2 : y.2.1 < ((es.length : Nat) : Int)
        · rw [decide_eq_true (show y.2.1 < ((es.length : Nat) : Int) from b2)]
          refine iteF ?_
          obtain ⟨n, en⟩ : ∃ n : Nat, y.2.1 = ((n : Nat) : Int) := ⟨y.2.1.toNat, by omega⟩
          have hnl : n < es.length := by omega
          have een := List.getElem?_eq_getElem hnl
          have egd : es.getD n .non = es[n] := by rw [List.getD_eq_getElem?_getD, een]; rfl
          have aent : atI es y.2.1 = some (es.getD n .non) := by rw [en]; exact atI_nat (by rw [egd]; exact een)
          have hEn : Ent (es.getD n .non) := by rw [egd]; exact hE _ (List.getElem_mem hnl)
          have est : obStep es m (some s) (toldZ y.2) = (colBack (es.getD n .non) m (y.2.2.map fun z => z.2)).map fun c => (y.2.1, s.2.set n c) := by
            show (if s.1 < y.2.1 ∧ y.2.1 < ((es.length : Nat) : Int) then (colBack (es.getD y.2.1.toNat .non) m (y.2.2.map fun z => z.2)).map fun c => (y.2.1, s.2.set y.2.1.toNat c) else none) = _
            rw [if_pos ⟨b1, b2⟩, en]
            rfl
          refine ⟨_, rfl, _, rfl, p, _, _, _, rfl, rfl, sameT S4 hp, aent, _, rfl, _, rfl, es.getD n .non, m, qa, y.2.2, rfl, hEn, m1, m30, sameT S4 n5, (fun z hz => (n3 z hz).mono S4), fun c hc hcl hce H5 r5 S5 h5 => ?_, fun hc H5 S5 => q2 (ob_dead hys hf (by rw [est, hc]; rfl)) _ (S4.trans S5)⟩
          have h5c := S5 _ _ h4c
          have hB5 := hB.mono S5
          refine ⟨_, rfl, _, rfl, lc, _, _, n, rfl, rfl, h5c, (by rw [List.length_map, hal, en]; exact ixN_nat hnl), ?_⟩
          have keep : ∀ {a : Addr} {ys zs : List V}, H5 a = some (.tup ys) → upd H5 lc (.lst zs) a = some (.tup ys) := fun {a ys zs} h => by
            rw [upd_ne (ne_of h h5c (by intro z; cases z))]; exact h
          refine ⟨_, rfl, as.set n r5, (y.2.1, s.2.set n c), _, _, rfl, by rw [List.length_set]; exact hal, by rw [List.length_set]; exact hsl, by rw [upd_same, List.map_set], fun i a d e1 e2 => ?_, ?_, (by show -1 ≤ y.2.1; omega), same_to (S4.trans S5) hcH⟩
          · rw [List.getElem?_set] at e1 e2
            by_cases hi : n = i
            · subst hi
              rw [if_pos rfl, if_pos (by rw [hal]; exact hnl)] at e1
              rw [if_pos rfl, if_pos (by rw [hsl]; exact hnl)] at e2
              cases e1
              cases e2
              exact keep h5
            · rw [if_neg hi] at e1 e2
              exact keep (hB5 i a d e1 e2)
          · rw [List.take_add_one, hys, List.foldl_append, hf]
            show obStep es m (some s) (toldZ y.2) = _
            rw [est, hc]
            rfl
        · rw [decide_eq_false (show ¬ y.2.1 < ((es.length : Nat) : Int) from b2)]
          exact iteT ⟨z1, out fun z => b2 z.2⟩
      · rw [decide_eq_false (show ¬ s.1 < y.2.1 from b1)]
        exact iteF ⟨_, rfl, iteT ⟨z1, out fun z => b1 z.1⟩⟩
    · rintro σ H4 ⟨as, s, v5, v6, rfl, hal, hsl, h4c, hB, hf, hs1, S4⟩
      have lx : (ns.map fun y => V.ref y.1).length = (ns.map fun y => toldZ y.2).length := by rw [List.length_map, List.length_map]
      rw [lx, List.take_length] at hf
      refine ⟨_, rfl, lc, _, rfl, .inl ⟨SqL.of h4c, fun r5 hr5 => ?_⟩⟩
      have T5 := same_upd (o := .tup (as.map V.ref)) hr5
      exact q1 s hf _ r5 as (S4.trans T5) upd_same (hal.trans hsl.symm) hsl (hB.mono T5)
def entR (z : Str) : Option V := if z = Str.ofString "-" then some .non else if wordB z = true then some (.str z) else none
def allR {α β : Type} (f : α → Option β) : List α → Option (List β)
  | [] => some []
  | x :: r => (f x).bind fun y => (allR f r).map fun ys => y :: ys
def entsR (z : Str) : Option (List V) := if z = Str.ofString "" then some [] else allR entR (Txt.split z (Str.ofString " | "))
def numR (z : Str) : Option Int := pnum z 1000000000000000000000000000000
def twoR (z y : Str) : Option (Str × Str) := match Txt.split z y with
  | [a, b] => some (a, b)
  | _ => none
def rdgR (z : Str) : Option RdgZ := (twoR z (Str.ofString " ")).bind fun p => (entR p.1).bind fun e => (allR numR (Txt.split p.2 (Str.ofString ","))).map fun rs => (e, rs)
def noteR (z : Str) : Option NoteZ := (twoR z (Str.ofString ": ")).bind fun p => (numR p.1).bind fun n => (allR rdgR (Txt.split p.2 (Str.ofString "; "))).map fun ys => (n, ys)
def linesOf (z : Str) : List Str := Txt.split z (Str.ofString "\n")
def appR (z : Str) : Option (List V × List NoteZ) := (entsR ((linesOf z).getD 0 (Str.ofString ""))).bind fun es => (allR noteR (linesOf z).tail).bind fun ns => (obAll es 30 ns).map fun _ => (es, ns)
theorem allR_snoc {α β : Type} {f : α → Option β} {a : α} : ∀ l : List α, allR f (l ++ [a]) = (allR f l).bind fun ys => (f a).map fun y => ys ++ [y]
  | [] => by
    show ((f a).bind fun y => (some []).map fun ys => y :: ys) = (f a).map fun y => [] ++ [y]
    cases f a <;> rfl
  | x :: r => by
    show ((f x).bind fun y => (allR f (r ++ [a])).map fun ys => y :: ys) = ((f x).bind fun y => (allR f r).map fun ys => y :: ys).bind _
    rw [allR_snoc r]
    cases f x with
    | none => rfl
    | some y => cases allR f r with
      | none => rfl
      | some ys => cases f a <;> rfl
theorem allR_none {α β : Type} {f : α → Option β} {a : α} : ∀ {l : List α}, a ∈ l → f a = none → allR f l = none
  | x :: r, h, e => by
    show ((f x).bind fun y => (allR f r).map fun ys => y :: ys) = none
    rcases List.mem_cons.mp h with z | z
    · rw [← z, e]; rfl
    · rw [allR_none z e]; cases f x <;> rfl
theorem allR_len {α β : Type} {f : α → Option β} : ∀ {l : List α} {ys : List β}, allR f l = some ys → ys.length = l.length
  | [], ys, h => by
    have : some [] = some ys := h
    rw [← Option.some.inj this]; rfl
  | x :: r, ys, h => by
    have h : ((f x).bind fun y => (allR f r).map fun ys => y :: ys) = some ys := h
    cases e : f x with
    | none => rw [e] at h; cases h
    | some y =>
      rw [e] at h
      cases e2 : allR f r with
      | none => rw [e2] at h; cases h
      | some zs =>
        rw [e2] at h
        have : some (y :: zs) = some ys := h
        rw [← Option.some.inj this, List.length_cons, List.length_cons, allR_len e2]
theorem allR_map {α β γ : Type} {f : α → Option β} {g : γ → α} {h : γ → β} : ∀ {l : List γ}, (∀ x ∈ l, f (g x) = some (h x)) → allR f (l.map g) = some (l.map h)
  | [], _ => rfl
  | x :: r, k => by
    show ((f (g x)).bind fun y => (allR f (r.map g)).map fun ys => y :: ys) = _
    rw [k x List.mem_cons_self, allR_map (l := r) fun y hy => k y (List.mem_cons_of_mem _ hy)]
    rfl
theorem allR_take {α β : Type} {f : α → Option β} {as : List α} {i : Nat} {a : α} {ys : List β} {y : β} (h : as[i]? = some a) (e : allR f (as.take i) = some ys) (e2 : f a = some y) : allR f (as.take (i + 1)) = some (ys ++ [y]) := by
  rw [List.take_add_one, h]
  show allR f (as.take i ++ [a]) = _
  rw [allR_snoc, e, e2]
  rfl
theorem entR_ent {z : Str} {v : V} (h : entR z = some v) : Ent v := by
  unfold entR at h
  by_cases h0 : z = Str.ofString "-"
  · rw [if_pos h0] at h; exact .inl (Option.some.inj h).symm
  · rw [if_neg h0] at h
    by_cases h1 : wordB z = true
    · rw [if_pos h1] at h; exact .inr ⟨z, wordB_iff.mp h1, (Option.some.inj h).symm⟩
    · rw [if_neg h1] at h; cases h
theorem join_mem_le {y p : Str} : ∀ {ws : List Str}, p ∈ ws → p.length ≤ (Str.join y ws).length
  | [z], h => by rw [List.mem_singleton.mp h]; exact Nat.le_refl _
  | z :: w :: r, h => by
    show _ ≤ (z ++ y ++ Str.join y (w :: r)).length
    rw [app_len, app_len]
    rcases List.mem_cons.mp h with e | e
    · rw [e]; omega
    · have := join_mem_le (y := y) e; omega
theorem piece_le {z y p : Str} (h : p ∈ Txt.split z y) : p.length ≤ z.length := by
  have := join_mem_le (y := y) h
  rw [StrLaws.join_split] at this
  exact this
theorem two_of {z y a b : Str} (h : Txt.split z y = [a, b]) : twoR z y = some (a, b) := by unfold twoR; rw [h]
theorem two_not {z y : Str} (h : (Txt.split z y).length ≠ 2) : twoR z y = none := by
  unfold twoR
  match Txt.split z y, h with
  | [], _ => rfl
  | [_], _ => rfl
  | [_, _], h => exact absurd rfl h
  | _ :: _ :: _ :: _, _ => rfl
theorem num1200 : ∀ n, n < 1200 → pnum (numS ((n : Nat) : Int)) 1000000000000000000000000000000 = some ((n : Nat) : Int) := by decide +kernel
theorem cut_tail (x : V) (r : List V) : cutV (x :: r) (some 1) none = r := by
  show (List.drop (HT.sIx (r.length + 1) 0 (some 1)) (x :: r)).take (HT.sIx (r.length + 1) (r.length + 1) none - HT.sIx (r.length + 1) 0 (some 1)) = r
  have e1 : HT.sIx (r.length + 1) 0 (some 1) = 1 := by
    unfold HT.sIx
    simp
  have e2 : HT.sIx (r.length + 1) (r.length + 1) none = r.length + 1 := rfl
  rw [e1, e2]
  show List.take (r.length + 1 - 1) r = r
  exact List.take_of_length_le (by omega)
theorem dash_not {z : Str} (h : Good z) : z ≠ Str.ofString "-" := fun e => by
  have := h.al 45 (by rw [e]; decide +kernel)
  unfold Al at this
  omega
theorem ent_read {v : V} (h : Ent v) : entR (entS v) = some v := by
  unfold entR
  rcases h with rfl | ⟨z, hz, rfl⟩
  · exact if_pos rfl
  · show (if z = _ then _ else if wordB z = true then some (V.str z) else none) = _
    rw [if_neg (dash_not hz), if_pos (wordB_iff.mpr hz)]
theorem ents_read {es : List V} (hE : ∀ e ∈ es, Ent e) : entsR (headS es) = some es := by
  unfold entsR
  by_cases h0 : es = []
  · subst h0; exact if_pos rfl
  · rw [if_neg (fun e => h0 ((head_nil hE).mp e)), cut_head hE h0, allR_map (h := fun e => e) fun e he => ent_read (hE e he), List.map_id']
theorem rdg_read {x : Rdg} (ho : RdgOk x) (hn : x.2 ≠ []) : rdgR (rdgS x) = some (rdgZ x) := by
  unfold rdgR
  rw [two_of (cut_rdg ho)]
  show (entR (entS x.1)).bind _ = _
  rw [ent_read ho.1]
  show (allR numR (Txt.split (Str.join (Str.ofString ",") (x.2.map fun n => numS ((n : Nat) : Int))) (Str.ofString ","))).map _ = _
  rw [cut_rows hn, allR_map (h := fun n => ((n : Nat) : Int)) fun n hm => num1200 n (by have := ho.2.2 n hm; omega)]
  rfl
def toldM (x : Note) : NoteZ := (((x.1 : Nat) : Int), x.2.map fun y => rdgZ y.2)
theorem note_read {x : Note} (h1 : x.1 < 1200) (hn : x.2 ≠ []) (ho : ∀ y ∈ x.2, RdgOk y.2 ∧ y.2.2 ≠ []) : noteR (noteS x) = some (toldM x) := by
  unfold noteR
  have hok : ∀ y ∈ x.2, RdgOk y.2 := fun y hy => (ho y hy).1
  rw [two_of (cut_note hok)]
  show (numR (numS ((x.1 : Nat) : Int))).bind _ = _
  rw [show numR (numS ((x.1 : Nat) : Int)) = _ from num1200 x.1 h1]
  show (allR rdgR (Txt.split (Str.join (Str.ofString "; ") (x.2.map fun y => rdgS y.2)) (Str.ofString "; "))).map _ = _
  rw [cut_rdgs hok hn, allR_map (h := fun y => rdgZ y.2) fun y hy => rdg_read (ho y hy).1 (ho y hy).2]
  rfl
theorem lines_cons {a b : Str} (h : 10 ∉ a.cps.toList) : linesOf (a ++ Str.ofString "\n" ++ b) = a :: linesOf b := by
  have e : Str.ofString "\n" = (⟨#[10]⟩ : Str) := by decide +kernel
  unfold linesOf
  rw [e, split_eq, split_eq, app_list, app_list]
  show (splitL 10 (a.cps.toList ++ [10] ++ b.cps.toList)).map _ = _
  rw [List.append_assoc]
  show (splitL 10 (a.cps.toList ++ 10 :: b.cps.toList)).map _ = _
  rw [splitL_app _ h, List.map_cons]
  first | done | rw [str_mk a] | (congr 1; exact str_mk a)
theorem lines_one {a : Str} (h : 10 ∉ a.cps.toList) : linesOf a = [a] := by
  have e : Str.ofString "\n" = (⟨#[10]⟩ : Str) := by decide +kernel
  unfold linesOf
  rw [e, split_eq, splitL_free h]
  first | done | rfl | (show [_] = _; rw [str_mk a])
theorem app_read {es : List V} {b : Str} (hE : ∀ e ∈ es, Ent e) : appR (headS es ++ Str.ofString "\n" ++ b) = (allR noteR (linesOf b)).bind fun ns => (obAll es 30 ns).map fun _ => (es, ns) := by
  unfold appR
  rw [lines_cons fun z => head_signs hE z rfl]
  show (entsR (headS es)).bind _ = _
  rw [ents_read hE]
  rfl
def phi (c : Nat) : Nat := if 97 ≤ c ∧ c ≤ 122 then 97 else c
def phiS (z : Str) : Str := mkS (z.cps.toList.map phi)
theorem phi_al {c : Nat} (h : Al c) : phi c = 97 := by unfold phi; unfold Al at h; rw [if_pos h]
instance (c : Nat) : Decidable (Al c) := inferInstanceAs (Decidable (97 ≤ c ∧ c ≤ 122))
theorem phi_al' {c : Nat} : Al (phi c) ↔ Al c := by
  unfold phi Al
  by_cases h : 97 ≤ c ∧ c ≤ 122
  · rw [if_pos h]; exact ⟨fun _ => h, fun _ => by decide⟩
  · rw [if_neg h]
theorem phi_s {c s : Nat} (hs : ¬ Al s) : phi c = s ↔ c = s := by
  unfold phi
  by_cases h : 97 ≤ c ∧ c ≤ 122
  · rw [if_pos h]
    exact ⟨fun e => absurd (show Al s by rw [← e]; unfold Al; decide) hs, fun e => absurd (show Al s by rw [← e]; exact h) hs⟩
  · rw [if_neg h]
theorem phi_len (z : Str) : (phiS z).length = z.length := by unfold phiS; rw [mkS_len, List.length_map, clen]
theorem phi_list (z : Str) : (phiS z).cps.toList = z.cps.toList.map phi := mkS_list _
theorem phi_app (a b : Str) : phiS (a ++ b) = phiS a ++ phiS b := by
  apply Str.ext'
  apply Array.toList_inj.mp
  rw [phi_list, app_list, app_list, List.map_append, phi_list, phi_list]
theorem map_phi_eq {s : List Nat} (hs : ∀ c ∈ s, ¬ Al c) : ∀ l : List Nat, (l.map phi = s ↔ l = s) := by
  intro l
  induction l generalizing s with
  | nil => rw [List.map_nil]
  | cons x r ih =>
    cases s with
    | nil => exact ⟨fun e => (nomatch e), fun e => (nomatch e)⟩
    | cons y t =>
      rw [List.map_cons, List.cons.injEq, List.cons.injEq, phi_s (hs y List.mem_cons_self), ih fun c hc => hs c (List.mem_cons_of_mem _ hc)]
theorem phi_eq {y : Str} (hs : ∀ c ∈ y.cps.toList, ¬ Al c) (z : Str) : phiS z = y ↔ z = y := by
  have h := map_phi_eq hs z.cps.toList
  constructor
  · intro e
    apply Str.ext'
    apply Array.toList_inj.mp
    exact h.mp (by rw [← phi_list, e])
  · intro e
    apply Str.ext'
    apply Array.toList_inj.mp
    rw [phi_list, h.mpr (by rw [e])]
open PySem.StrLaws Builtin Builtin.Str in
theorem phi_parts (x : Str) (d : Nat) : ∀ (cuts : List Nat) (a : Nat), partsFrom (phiS x) d a cuts = (partsFrom x d a cuts).map phiS
  | [], a => by
    show [strSub (phiS x) a (phiS x).length] = [phiS (strSub x a x.length)]
    congr 1
    apply Str.ext'
    apply Array.toList_inj.mp
    rw [strSub_toList, phi_list, phi_list, strSub_toList, phi_len, List.map_take, List.map_drop]
  | c :: r, a => by
    show strSub (phiS x) a c :: partsFrom (phiS x) d (c + d) r = phiS (strSub x a c) :: (partsFrom x d (c + d) r).map phiS
    rw [phi_parts x d r]
    congr 1
    apply Str.ext'
    apply Array.toList_inj.mp
    rw [strSub_toList, phi_list, phi_list, strSub_toList, List.map_take, List.map_drop]
open PySem.StrLaws Builtin Builtin.Str in
theorem phi_split {x y : Str} (hk : Builtin.Str.strKind y = 1) (hs : ∀ c ∈ y.cps.toList, ¬ Al c) : Txt.split (phiS x) y = (Txt.split x y).map phiS := by
  have hsub : ∀ i, subAt (phiS x) y i = subAt x y i := fun i => by
    rw [subAt_eq, subAt_eq, phi_list, ← List.map_drop, ← List.map_take, Bool.eq_iff_iff, beq_iff_eq, beq_iff_eq]
    exact map_phi_eq hs _
  have ho : occurrences (phiS x) y 0 (phiS x).length ((phiS x).length + 1) = occurrences x y 0 x.length (x.length + 1) := by
    rw [occ_eq, occ_eq, phi_len]
    have : occBody (phiS x) y x.length (x.length + 1) = occBody x y x.length (x.length + 1) := by
      funext i st
      unfold occBody
      rw [hsub i]
    rw [this]
  have h2 : ∀ x, decide (Builtin.Str.strKind x < 1) = false := fun x => decide_eq_false (by have := kind_pos x; omega)
  unfold Txt.split
  rw [hk, h2, h2, ho, phi_len, partsBetween_eq, partsBetween_eq, phi_parts]
  split
  · rfl
  · split <;> rfl
theorem phi_word (z : Str) : wordB (phiS z) = wordB z := by
  rw [Bool.eq_iff_iff, wordB_iff, wordB_iff]
  constructor
  · rintro ⟨h1, h2, h3⟩
    rw [phi_len] at h1 h2
    exact ⟨h1, h2, fun c hc => phi_al'.mp (h3 _ (by rw [phi_list]; exact List.mem_map_of_mem hc))⟩
  · rintro ⟨h1, h2, h3⟩
    refine ⟨by rw [phi_len]; exact h1, by rw [phi_len]; exact h2, fun c hc => ?_⟩
    rw [phi_list] at hc
    obtain ⟨d, hd, rfl⟩ := List.mem_map.mp hc
    exact phi_al'.mpr (h3 d hd)
theorem phi_ent (z : Str) : (entR (phiS z)).isNone = (entR z).isNone := by
  unfold entR
  have h := phi_eq (y := Str.ofString "-") (by decide +kernel) z
  rw [phi_word]
  by_cases h0 : z = Str.ofString "-"
  · rw [if_pos h0, if_pos (h.mpr h0)]
  · rw [if_neg h0, if_neg fun e => h0 (h.mp e)]
    cases wordB z <;> rfl
theorem phi_all : ∀ l : List Str, (allR entR (l.map phiS)).isNone = (allR entR l).isNone
  | [] => rfl
  | x :: r => by
    have h1 := phi_ent x
    have h2 := phi_all r
    show ((entR (phiS x)).bind fun y => (allR entR (r.map phiS)).map fun ys => y :: ys).isNone = ((entR x).bind fun y => (allR entR r).map fun ys => y :: ys).isNone
    cases e1 : entR x <;> cases e2 : entR (phiS x) <;> cases e3 : allR entR r <;> cases e4 : allR entR (r.map phiS) <;> (first | (rw [e1, e2] at h1; cases h1; done) | (rw [e3, e4] at h2; cases h2; done) | rfl)
theorem phi_ents (z : Str) : (entsR (phiS z)).isNone = (entsR z).isNone := by
  unfold entsR
  have h := phi_eq (y := Str.ofString "") (by decide +kernel) z
  by_cases h0 : z = Str.ofString ""
  · rw [if_pos h0, if_pos (h.mpr h0)]
  · rw [if_neg h0, if_neg fun e => h0 (h.mp e), phi_split sep_bar.kd (by decide +kernel), phi_all]
def headBad (z : Str) : Bool := (entsR ((linesOf z).getD 0 (Str.ofString ""))).isNone || decide (Str.ofString "" ∈ (linesOf z).tail)
theorem phi_bad (z : Str) : headBad (phiS z) = headBad z := by
  unfold headBad linesOf
  rw [phi_split sep_nl.kd (by decide +kernel)]
  have e0 : phiS (Str.ofString "") = Str.ofString "" := by decide +kernel
  have e1 : ((Txt.split z (Str.ofString "\n")).map phiS).getD 0 (Str.ofString "") = phiS ((Txt.split z (Str.ofString "\n")).getD 0 (Str.ofString "")) := by
    cases Txt.split z (Str.ofString "\n") with
    | nil => exact e0.symm
    | cons a r => rfl
  rw [e1, phi_ents]
  congr 1
  rw [decide_eq_decide, ← List.map_tail, List.mem_map]
  constructor
  · rintro ⟨a, ha, e⟩
    rw [← (phi_eq (y := Str.ofString "") (by decide +kernel) a).mp e]
    exact ha
  · intro h
    exact ⟨_, h, e0⟩
theorem note_empty : noteR (Str.ofString "") = none := by decide +kernel
theorem bad_none {z : Str} (h : headBad z = true) : appR z = none := by
  unfold headBad at h
  unfold appR
  rcases Bool.or_eq_true_iff.mp h with h | h
  · rw [Option.isNone_iff_eq_none.mp h]; rfl
  · rw [allR_none (of_decide_eq_true h) note_empty]
    cases entsR ((linesOf z).getD 0 (Str.ofString "")) <;> rfl
def repA (n : Nat) : Str := mkS (List.replicate n 97)
theorem phi_good {w : Str} (h : Good w) : phiS w = phiS (repA w.length) := by
  apply Str.ext'
  apply Array.toList_inj.mp
  rw [phi_list, phi_list]
  unfold repA
  rw [mkS_list, List.map_replicate, show phi 97 = 97 from by decide]
  refine List.eq_replicate_iff.mpr ⟨by rw [List.length_map, clen], fun c hc => ?_⟩
  obtain ⟨d, hd, rfl⟩ := List.mem_map.mp hc
  exact phi_al (h.al d hd)
theorem mul13 : MulOk (Str.ofString "a") 13 := by
  unfold MulOk
  decide +kernel
def bh0 (w : Str) : List Str := [(Str.ofString " "), (Str.ofString "A"), (w ++ (Str.ofString "A")), (Str.ofString "--"), (w ++ (Str.ofString " |")), ((Str.ofString "| ") ++ w), ((w ++ (Str.ofString "|")) ++ w), ((w ++ (Str.ofString " | | ")) ++ w)]
def bh1 (w : Str) : List Str := [((w ++ (Str.ofString " |  ")) ++ w), ((w ++ (Str.ofString "  | ")) ++ w), ((Str.ofString " ") ++ w), (w ++ (Str.ofString " ")), ((w ++ (Str.ofString " ")) ++ w)]
def bh2 (w : Str) : List Str := [(w ++ (Str.ofString " | ")), (w ++ (Str.ofString "\n")), (Str.ofString "\n"), (Txt.mul (Str.ofString "a") 13), (Str.ofString "abcdefghijklm | a"), (w ++ (Str.ofString "1")), (Str.ofString "0"), (w ++ (Str.ofString " | -1"))]
def bh (w : Str) : List Str := (bh0 w ++ bh1 w) ++ bh2 w
def bl0 (w o : Str) : List Str := [(Str.ofString ""), (Str.ofString "0"), (Str.ofString "0:"), (Str.ofString "0: "), (((Str.ofString "0:") ++ o) ++ (Str.ofString " 1")), (((Str.ofString "0 : ") ++ o) ++ (Str.ofString " 1")), ((Str.ofString "0: ") ++ o), (((Str.ofString "0: ") ++ o) ++ (Str.ofString " "))]
def bl1 (w o : Str) : List Str := [(((Str.ofString "0: ") ++ o) ++ (Str.ofString " 1,")), (((Str.ofString "0: ") ++ o) ++ (Str.ofString " ,1")), (((Str.ofString "0: ") ++ o) ++ (Str.ofString " 1,,2")), (((Str.ofString "0: ") ++ o) ++ (Str.ofString " 1, 2"))]
def bl2 (w o : Str) : List Str := [(((Str.ofString "0: ") ++ o) ++ (Str.ofString " 0")), (((Str.ofString "0: ") ++ o) ++ (Str.ofString " 30")), (((Str.ofString "0: ") ++ o) ++ (Str.ofString " 01")), (((Str.ofString "0: ") ++ o) ++ (Str.ofString " +1"))]
def bl3 (w o : Str) : List Str := [(((Str.ofString "0: ") ++ o) ++ (Str.ofString " -1")), (((Str.ofString "0: ") ++ o) ++ (Str.ofString " 1_0")), (((Str.ofString "0: ") ++ o) ++ (Str.ofString " x")), (((Str.ofString "0: ") ++ o) ++ (Str.ofString " 2,1"))]
def bl4 (w o : Str) : List Str := [(((Str.ofString "0: ") ++ o) ++ (Str.ofString " 1,1")), (((Str.ofString "0:  ") ++ o) ++ (Str.ofString " 1")), (((Str.ofString "0: ") ++ o) ++ (Str.ofString "  1")), (((Str.ofString " 0: ") ++ o) ++ (Str.ofString " 1"))]
def bl5 (w o : Str) : List Str := [(((Str.ofString "00: ") ++ o) ++ (Str.ofString " 1")), (((Str.ofString "+0: ") ++ o) ++ (Str.ofString " 1")), (((Str.ofString "-1: ") ++ o) ++ (Str.ofString " 1")), (((Str.ofString "9: ") ++ o) ++ (Str.ofString " 1"))]
def bl6 (w o : Str) : List Str := [(((Str.ofString "0: ") ++ w) ++ (Str.ofString " 1")), (Str.ofString "1: - 1"), (((Str.ofString "0: ") ++ o) ++ (Str.ofString " 1;- 2")), (((Str.ofString "0: ") ++ o) ++ (Str.ofString " 1; ")), (Str.ofString "1_0: a 1")]
def bl7 (w o : Str) : List Str := [(((((Str.ofString "0: ") ++ o) ++ (Str.ofString " 1; ")) ++ o) ++ (Str.ofString " 2")), (((Str.ofString "0: ") ++ o) ++ (Str.ofString " 2; - 1")), (((Str.ofString "0: ") ++ o) ++ (Str.ofString " 1,2; - 2"))]
def bl8 (w o : Str) : List Str := [(((Str.ofString "0: ") ++ (upS o)) ++ (Str.ofString " 1")), (((Str.ofString "0: ") ++ (Txt.mul (Str.ofString "a") 13)) ++ (Str.ofString " 1")), (((Str.ofString "0: ") ++ o) ++ (Str.ofString " 1 ")), (((Str.ofString "0: ") ++ o) ++ (Str.ofString "1"))]
def bl9 (w o : Str) : List Str := [(((Str.ofString "0: ") ++ o) ++ (Str.ofString " 1\n")), (((((Str.ofString "1: ") ++ o) ++ (Str.ofString " 1\n0: ")) ++ o) ++ (Str.ofString " 1")), (((Str.ofString "0: - 1\n0: ") ++ o) ++ (Str.ofString " 2"))]
def bl10 (w o : Str) : List Str := [(((Str.ofString "0: - 1\n\n1: ") ++ o) ++ (Str.ofString " 2")), (Str.ofString "0: - 1000000000000000"), (((Str.ofString "10000: ") ++ o) ++ (Str.ofString " 1"))]
def bl (w o : Str) : List Str := (((((((((bl0 w o ++ bl1 w o) ++ bl2 w o) ++ bl3 w o) ++ bl4 w o) ++ bl5 w o) ++ bl6 w o) ++ bl7 w o) ++ bl8 w o) ++ bl9 w o) ++ bl10 w o
theorem heads_bad : ∀ n, n < 13 → 1 ≤ n → ∀ z ∈ bh (repA n), headBad z = true := by decide +kernel
theorem heads_phi {w u : Str} (h : phiS w = phiS u) : (bh w).map phiS = (bh u).map phiS := by
  simp only [bh, bh0, bh1, bh2, List.map_cons, List.map_nil, List.map_append, phi_app, h]
theorem head_row {w z : Str} (hw : Good w) (h : z ∈ bh w) : appR z = none := by
  have h1 : phiS z ∈ (bh w).map phiS := List.mem_map_of_mem h
  rw [heads_phi (phi_good hw)] at h1
  obtain ⟨y, hy, e⟩ := List.mem_map.mp h1
  have := heads_bad w.length (by have := hw.hi; omega) hw.lo y hy
  refine bad_none ?_
  rw [← phi_bad, ← e, phi_bad]
  exact this
section
variable {τ : V → V}
def mRd (τ : V → V) (y : RdgZ) : RdgZ := (τ y.1, y.2)
def mNt (τ : V → V) (y : NoteZ) : NoteZ := (y.1, y.2.map (mRd τ))
def mO (τ : V → V) (o : Option (List V)) : Option (List V) := o.map (List.map τ)
theorem t_row {m : Nat} {x : V} {o : Option (List V)} {r : Int} : putRow m (τ x) (mO τ o) r = mO τ (putRow m x o r) := by
  cases o with
  | none => rfl
  | some c =>
    show (if 0 < r ∧ r < (m : Int) then some ((c.map τ).set r.toNat (τ x)) else none) = mO τ (if 0 < r ∧ r < (m : Int) then some (c.set r.toNat x) else none)
    by_cases h : 0 < r ∧ r < (m : Int)
    · rw [if_pos h, if_pos h]; show _ = some _; rw [List.map_set]
    · rw [if_neg h, if_neg h]; rfl
theorem t_rows {m : Nat} {x : V} : ∀ (rs : List Int) (o : Option (List V)), rs.foldl (putRow m (τ x)) (mO τ o) = mO τ (rs.foldl (putRow m x) o)
  | [], _ => rfl
  | r :: rs, o => by rw [List.foldl_cons, t_row, t_rows rs, List.foldl_cons]
theorem t_rdgs {m : Nat} : ∀ (ys : List RdgZ) (o : Option (List V)), (ys.map (mRd τ)).foldl (putRdg m) (mO τ o) = mO τ (ys.foldl (putRdg m) o)
  | [], _ => rfl
  | y :: ys, o => by
    rw [List.map_cons, List.foldl_cons, List.foldl_cons]
    show (ys.map (mRd τ)).foldl (putRdg m) (y.2.foldl (putRow m (τ y.1)) (mO τ o)) = _
    rw [t_rows, t_rdgs ys]
    rfl
theorem t_all {m : Nat} {e : V} {ys : List RdgZ} : putAll m (τ e) (ys.map (mRd τ)) = mO τ (putAll m e ys) := by
  unfold putAll
  rw [← t_rdgs]
  show _ = (ys.map (mRd τ)).foldl (putRdg m) (some ((List.replicate m e).map τ))
  rw [List.map_replicate]
theorem t_getD {c : List V} {k : Nat} (h : k < c.length) : (c.map τ).getD k .non = τ (c.getD k .non) := by
  rw [List.getD_eq_getElem?_getD, List.getD_eq_getElem?_getD, List.getElem?_map, List.getElem?_eq_getElem h]
  rfl
variable (hτ : ∀ x y, τ x = τ y → x = y)
include hτ
theorem t_ent {e0 : V} : ∀ (xs us : List V), (xs.map τ).foldl (entStep (τ e0)) (us.map τ) = (xs.foldl (entStep e0) us).map τ
  | [], _ => rfl
  | x :: xs, us => by
    rw [List.map_cons, List.foldl_cons, List.foldl_cons, ← t_ent xs]
    congr 1
    unfold entStep
    have h2 : τ x ∈ us.map τ ↔ x ∈ us := ⟨fun h => by obtain ⟨y, hy, e⟩ := List.mem_map.mp h; rw [← hτ _ _ e]; exact hy, List.mem_map_of_mem⟩
    by_cases h0 : x = e0
    · rw [if_pos h0, if_pos (by rw [h0])]
    · rw [if_neg h0, if_neg fun e => h0 (hτ _ _ e)]
      by_cases h1 : x ∈ us
      · rw [if_pos h1, if_pos (h2.mpr h1)]
      · rw [if_neg h1, if_neg fun e => h1 (h2.mp e), List.map_append]; rfl
theorem t_rowsTo {c : List V} {x : V} : rowsTo (c.map τ) (τ x) (c.map τ).length = rowsTo c x c.length := by
  unfold rowsTo
  rw [List.length_map]
  refine List.filter_congr fun k hk => decide_eq_decide.mpr ?_
  rw [t_getD (List.mem_range.mp hk)]
  exact ⟨fun e => hτ _ _ e, fun e => by rw [e]⟩
theorem t_rdgsOf {c : List V} : (rdgsOf (c.map τ)).map rdgZ = ((rdgsOf c).map rdgZ).map (mRd τ) := by
  unfold rdgsOf
  have e : entTo (c.map τ) (c.map τ).length = (entTo c c.length).map τ := by
    unfold entTo
    rw [List.take_length, List.take_length]
    cases c with
    | nil => rfl
    | cons a r =>
      rw [t_getD (by rw [List.length_cons]; omega)]
      exact t_ent hτ (a :: r) []
  rw [e, List.map_map, List.map_map, List.map_map, List.map_map]
  refine List.map_congr_left fun x _ => ?_
  show rdgZ (τ x, rowsTo (c.map τ) (τ x) (c.map τ).length) = mRd τ (rdgZ (x, rowsTo c x c.length))
  rw [t_rowsTo hτ]
  rfl
theorem t_col {m : Nat} {e : V} {ys : List RdgZ} : colBack (τ e) m (ys.map (mRd τ)) = mO τ (colBack e m ys) := by
  unfold colBack
  rw [t_all]
  cases putAll m e ys with
  | none => rfl
  | some c =>
    show (if ys.map (mRd τ) = [] ∨ ¬ (rdgsOf (c.map τ)).map rdgZ = ys.map (mRd τ) then none else some (c.map τ)) = mO τ (if ys = [] ∨ ¬ (rdgsOf c).map rdgZ = ys then none else some c)
    have inj : ∀ {l l' : List RdgZ}, l.map (mRd τ) = l'.map (mRd τ) → l = l' := fun {l l'} h => by
      refine (List.map_inj_right fun x y e => ?_).mp h
      have e1 : (mRd τ x).1 = (mRd τ y).1 := by rw [e]
      have e2 : (mRd τ x).2 = (mRd τ y).2 := by rw [e]
      exact Prod.ext (hτ _ _ e1) e2
    have h : (ys.map (mRd τ) = [] ∨ ¬ (rdgsOf (c.map τ)).map rdgZ = ys.map (mRd τ)) ↔ (ys = [] ∨ ¬ (rdgsOf c).map rdgZ = ys) := by
      rw [t_rdgsOf hτ, List.map_eq_nil_iff]
      exact or_congr Iff.rfl (not_congr ⟨inj, fun e => by rw [e]⟩)
    by_cases h0 : ys = [] ∨ ¬ (rdgsOf c).map rdgZ = ys
    · rw [if_pos h0, if_pos (h.mpr h0)]; rfl
    · rw [if_neg h0, if_neg fun z => h0 (h.mp z)]; rfl
def mS (τ : V → V) (o : Option (Int × List (List V))) : Option (Int × List (List V)) := o.map fun s => (s.1, s.2.map (List.map τ))
theorem t_step {es : List V} {m : Nat} {o : Option (Int × List (List V))} {y : NoteZ} (ho : ∀ s, o = some s → -1 ≤ s.1) : obStep (es.map τ) m (mS τ o) (mNt τ y) = mS τ (obStep es m o y) ∧ ∀ s, obStep es m o y = some s → -1 ≤ s.1 := by
  cases o with
  | none => exact ⟨rfl, fun s h => nomatch h⟩
  | some s =>
    have hs := ho s rfl
    have e1 : obStep es m (some s) y = if s.1 < y.1 ∧ y.1 < ((es.length : Nat) : Int) then (colBack (es.getD y.1.toNat .non) m y.2).map fun c => (y.1, s.2.set y.1.toNat c) else none := rfl
    have e2 : obStep (es.map τ) m (mS τ (some s)) (mNt τ y) = if s.1 < y.1 ∧ y.1 < (((es.map τ).length : Nat) : Int) then (colBack ((es.map τ).getD y.1.toNat .non) m (y.2.map (mRd τ))).map fun c => (y.1, (s.2.map (List.map τ)).set y.1.toNat c) else none := rfl
    rw [e1, e2, List.length_map]
    by_cases h : s.1 < y.1 ∧ y.1 < ((es.length : Nat) : Int)
    · rw [if_pos h, if_pos h, t_getD (by omega), t_col hτ]
      cases colBack (es.getD y.1.toNat .non) m y.2 with
      | none => exact ⟨rfl, fun s h => nomatch h⟩
      | some c =>
        refine ⟨?_, fun s' h' => ?_⟩
        · show some (y.1, (s.2.map (List.map τ)).set y.1.toNat (c.map τ)) = some (y.1, (s.2.set y.1.toNat c).map (List.map τ))
          rw [List.map_set]
        · have e : some (y.1, s.2.set y.1.toNat c) = some s' := h'
          rw [← Option.some.inj e]
          show -1 ≤ y.1
          omega
    · rw [if_neg h, if_neg h]
      exact ⟨rfl, fun s h => nomatch h⟩
theorem t_steps {es : List V} {m : Nat} : ∀ (ys : List NoteZ) (o : Option (Int × List (List V))), (∀ s, o = some s → -1 ≤ s.1) → (ys.map (mNt τ)).foldl (obStep (es.map τ) m) (mS τ o) = mS τ (ys.foldl (obStep es m) o)
  | [], _, _ => rfl
  | y :: ys, o, h => by
    obtain ⟨h1, h2⟩ := t_step hτ (es := es) (m := m) (y := y) h
    rw [List.map_cons, List.foldl_cons, List.foldl_cons, h1, t_steps ys _ h2]
theorem t_ob {es : List V} {m : Nat} {ys : List NoteZ} : (obAll (es.map τ) m (ys.map (mNt τ))).isNone = (obAll es m ys).isNone := by
  have e : obAll (es.map τ) m (ys.map (mNt τ)) = mS τ (obAll es m ys) := by
    unfold obAll
    rw [← t_steps hτ _ _ fun s h => by rw [← Option.some.inj h]; exact Int.le_refl _]
    show _ = (ys.map (mNt τ)).foldl (obStep (es.map τ) m) (some (-1, (es.map fun e => List.replicate m e).map (List.map τ)))
    rw [List.map_map, List.map_map]
    congr 3
    refine List.map_congr_left fun e _ => ?_
    show List.replicate m (τ e) = (List.replicate m e).map τ
    rw [List.map_replicate]
  rw [e]
  cases obAll es m ys <;> rfl
end
def sw (w : Str) (v : V) : V := if v = .str w then .str (Str.ofString "c") else if v = .str (Str.ofString "c") then .str w else v
theorem sw_inj (w : Str) : ∀ x y, sw w x = sw w y → x = y := fun x y h => by
  unfold sw at h
  by_cases h1 : x = .str w <;> by_cases h2 : x = .str (Str.ofString "c") <;> by_cases h3 : y = .str w <;> by_cases h4 : y = .str (Str.ofString "c") <;> simp_all
def esOf (w o : Str) (k : Nat) : List V := [.str w, .non] ++ ([[], [.str o], [.non], [.str w, .non]] : List (List V)).getD k []
def mine (o : Str) (ns : List NoteZ) : Bool := ns.all fun n => n.2.all fun y => decide (y.1 = .non) || decide (y.1 = .str o)
def restBad (es : List V) (o b : Str) : Bool := match allR noteR (linesOf b) with
  | none => true
  | some ns => mine o ns && (obAll es 30 ns).isNone
def tailS (o : Str) : Str := Str.ofString "\n1: " ++ o ++ Str.ofString " 5"
theorem sassoc (a b c : Str) : a ++ b ++ c = a ++ (b ++ c) := by
  apply Str.ext'
  apply Array.toList_inj.mp
  rw [app_list, app_list, app_list, app_list, List.append_assoc]
def ab : List Str := [Str.ofString "a", Str.ofString "b"]
theorem lines_bad : ∀ o ∈ ab, ∀ k, k < 4 → ∀ z ∈ (bl (Str.ofString "c") o).eraseIdx 28, ∀ t ∈ [Str.ofString "", tailS o], restBad (esOf (Str.ofString "c") o k) o (z ++ t) = true := by decide +kernel
theorem sw_o {w o : Str} (ho : o ∈ ab) (hw : w ≠ o) : sw w (.str o) = .str o := by
  have all : ∀ o ∈ ab, o ≠ Str.ofString "c" := by decide +kernel
  have hc := all o ho
  unfold sw
  rw [if_neg fun e => hw (V.str.inj e).symm, if_neg fun e => hc (V.str.inj e)]
theorem sw_c (w : Str) : sw w (.str (Str.ofString "c")) = .str w := by
  unfold sw
  by_cases h : V.str (Str.ofString "c") = V.str w
  · rw [if_pos h]; exact h
  · rw [if_neg h, if_pos rfl]
theorem sw_n (w : Str) : sw w .non = .non := by
  unfold sw
  rw [if_neg (fun e => (nomatch e)), if_neg (fun e => (nomatch e))]
theorem sw_es {w o : Str} (ho : o ∈ ab) (hw : w ≠ o) : ∀ k, k < 4 → (esOf (Str.ofString "c") o k).map (sw w) = esOf w o k
  | 0, _ => by show [sw w _, sw w .non] = _; rw [sw_c, sw_n]; rfl
  | 1, _ => by show [sw w _, sw w .non, sw w (.str o)] = _; rw [sw_c, sw_n, sw_o ho hw]; rfl
  | 2, _ => by show [sw w _, sw w .non, sw w .non] = _; rw [sw_c, sw_n]; rfl
  | 3, _ => by show [sw w _, sw w .non, sw w _, sw w .non] = _; rw [sw_c, sw_n]; rfl
  | k + 4, h => absurd h (by omega)
theorem sw_ns {w o : Str} (ho : o ∈ ab) (hw : w ≠ o) {ns : List NoteZ} (h : mine o ns = true) : ns.map (mNt (sw w)) = ns := by
  unfold mine at h
  have h := List.all_eq_true.mp h
  conv => rhs; rw [← List.map_id' ns]
  refine List.map_congr_left fun n hn => ?_
  have h1 := List.all_eq_true.mp (h n hn)
  refine Prod.ext rfl ?_
  show n.2.map (mRd (sw w)) = n.2
  conv => rhs; rw [← List.map_id' n.2]
  refine List.map_congr_left fun y hy => Prod.ext ?_ rfl
  show sw w y.1 = y.1
  rcases Bool.or_eq_true_iff.mp (h1 y hy) with e | e
  · rw [of_decide_eq_true e, sw_n]
  · rw [of_decide_eq_true e, sw_o ho hw]
theorem ab_good {o : Str} (ho : o ∈ ab) : Good o := by
  have all : ∀ o ∈ ab, wordB o = true := by decide +kernel
  exact wordB_iff.mp (all o ho)
theorem es_ent {w o : Str} (hw : Good w) (ho : Good o) : ∀ k, ∀ e ∈ esOf w o k, Ent e := by
  have ew : Ent (.str w) := .inr ⟨w, hw, rfl⟩
  have eo : Ent (.str o) := .inr ⟨o, ho, rfl⟩
  have en : Ent .non := .inl rfl
  intro k e he
  unfold esOf at he
  match k, he with
  | 0, he => simp at he; rcases he with rfl | rfl <;> assumption
  | 1, he => simp at he; rcases he with rfl | rfl | rfl <;> assumption
  | 2, he => simp at he; rcases he with rfl | rfl <;> assumption
  | 3, he => simp at he; rcases he with rfl | rfl | rfl | rfl <;> assumption
  | k + 4, he => simp at he; rcases he with rfl | rfl <;> assumption
theorem rest_none {w o b : Str} {k : Nat} (hw : Good w) (ho : o ∈ ab) (hne : w ≠ o) (hk : k < 4) (h : restBad (esOf (Str.ofString "c") o k) o b = true) : appR (headS (esOf w o k) ++ Str.ofString "\n" ++ b) = none := by
  rw [app_read (es_ent hw (ab_good ho) k)]
  unfold restBad at h
  cases e : allR noteR (linesOf b) with
  | none => rfl
  | some ns =>
    rw [e] at h
    obtain ⟨h1, h2⟩ := Bool.and_eq_true_iff.mp h
    rw [← t_ob (sw_inj w), sw_es ho hne k hk, sw_ns ho hne h1] at h2
    show (obAll (esOf w o k) 30 ns).map _ = none
    rw [Option.isNone_iff_eq_none.mp h2]
    rfl
def note0 (w : Str) : Note := (0, [(0, (.str w, [1]))])
def note1 (o : Str) : Note := (1, [(0, (.str o, [5]))])
theorem note0_eq (w : Str) : Str.ofString "0: " ++ w ++ Str.ofString " 1" = noteS (note0 w) := by
  have e1 : Str.ofString "0: " = numS ((0 : Nat) : Int) ++ Str.ofString ": " := by decide +kernel
  have e2 : Str.ofString " 1" = Str.ofString " " ++ numS ((1 : Nat) : Int) := by decide +kernel
  rw [e1, e2]
  show _ = numS ((0 : Nat) : Int) ++ Str.ofString ": " ++ (w ++ Str.ofString " " ++ numS ((1 : Nat) : Int))
  simp only [sassoc]
theorem note1_eq (o : Str) : tailS o = Str.ofString "\n" ++ noteS (note1 o) := by
  have e1 : Str.ofString "\n1: " = Str.ofString "\n" ++ (numS ((1 : Nat) : Int) ++ Str.ofString ": ") := by decide +kernel
  have e2 : Str.ofString " 5" = Str.ofString " " ++ numS ((5 : Nat) : Int) := by decide +kernel
  unfold tailS
  rw [e1, e2]
  show _ = Str.ofString "\n" ++ (numS ((1 : Nat) : Int) ++ Str.ofString ": " ++ (o ++ Str.ofString " " ++ numS ((5 : Nat) : Int)))
  simp only [sassoc]
theorem base_bad : ∀ o ∈ ab, ∀ k, k < 4 → (obAll (esOf (Str.ofString "c") o k) 30 [toldM (note0 (Str.ofString "c"))]).isNone = true ∧ (obAll (esOf (Str.ofString "c") o k) 30 [toldM (note0 (Str.ofString "c")), toldM (note1 o)]).isNone = true := by decide +kernel
def FineN (x : Note) : Prop := x.1 < 1200 ∧ x.2 ≠ [] ∧ ∀ y ∈ x.2, RdgOk y.2 ∧ y.2.2 ≠ []
theorem FineN.read {x : Note} (h : FineN x) : noteR (noteS x) = some (toldM x) := note_read h.1 h.2.1 h.2.2
theorem FineN.nl {x : Note} (h : FineN x) : 10 ∉ (noteS x).cps.toList := fun z => note_signs (fun y hy => (h.2.2 y hy).1) z rfl
theorem fine_one {n r : Nat} {v : V} (hn : n < 1200) (hr : r < 30) (hv : Ent v) : FineN (n, [(0, (v, [r]))]) := by
  refine ⟨hn, (fun e => (nomatch e)), fun y hy => ?_⟩
  rw [List.mem_singleton.mp hy]
  refine ⟨⟨hv, by show 1 ≤ 30; omega, fun m hm => ?_⟩, (fun e => (nomatch e))⟩
  rw [List.mem_singleton.mp hm]
  exact hr
theorem base_none {w o t : Str} {k : Nat} (hw : Good w) (ho : o ∈ ab) (hne : w ≠ o) (hk : k < 4) (ht : t ∈ [Str.ofString "", tailS o]) : appR (headS (esOf w o k) ++ Str.ofString "\n" ++ (Str.ofString "0: " ++ w ++ Str.ofString " 1" ++ t)) = none := by
  rw [app_read (es_ent hw (ab_good ho) k), note0_eq]
  have f0 : FineN (note0 w) := fine_one (by decide) (by decide) (.inr ⟨w, hw, rfl⟩)
  have f1 : FineN (note1 o) := fine_one (by decide) (by decide) (.inr ⟨o, ab_good ho, rfl⟩)
  obtain ⟨b1, b2⟩ := base_bad o ho k hk
  have m0 : mNt (sw w) (toldM (note0 (Str.ofString "c"))) = toldM (note0 w) := by
    show ((0 : Int), [(sw w (.str (Str.ofString "c")), [(1 : Int)])]) = (0, [(.str w, [1])])
    rw [sw_c]
  have m1 : mNt (sw w) (toldM (note1 o)) = toldM (note1 o) := by
    show ((1 : Int), [(sw w (.str o), [(5 : Int)])]) = (1, [(.str o, [5])])
    rw [sw_o ho hne]
  rw [← t_ob (sw_inj w), sw_es ho hne k hk] at b1 b2
  rw [List.map_cons, List.map_nil, m0] at b1
  rw [List.map_cons, List.map_cons, List.map_nil, m0, m1] at b2
  have b1 := Option.isNone_iff_eq_none.mp b1
  have b2 := Option.isNone_iff_eq_none.mp b2
  rcases List.mem_cons.mp ht with e | e
  · have e0 : noteS (note0 w) ++ t = noteS (note0 w) := by
      rw [e]
      apply Str.ext'
      apply Array.toList_inj.mp
      rw [app_list, show (Str.ofString "").cps.toList = [] from by decide +kernel, List.append_nil]
    rw [e0, lines_one f0.nl]
    show (allR noteR [noteS (note0 w)]).bind _ = none
    rw [show allR noteR [noteS (note0 w)] = some [toldM (note0 w)] from allR_map (l := [note0 w]) (g := noteS) (h := toldM) fun x hx => by rw [List.mem_singleton.mp hx]; exact f0.read]
    show (obAll _ 30 [toldM (note0 w)]).map _ = none
    rw [b1]
    rfl
  · rw [List.mem_singleton.mp e, note1_eq, ← sassoc, lines_cons f0.nl, lines_one f1.nl]
    rw [show allR noteR [noteS (note0 w), noteS (note1 o)] = some [toldM (note0 w), toldM (note1 o)] from allR_map (l := [note0 w, note1 o]) (g := noteS) (h := toldM) fun x hx => by
      rcases List.mem_cons.mp hx with e | e
      · rw [e]; exact f0.read
      · rw [List.mem_singleton.mp e]; exact f1.read]
    show (obAll _ 30 [toldM (note0 w), toldM (note1 o)]).map _ = none
    rw [b2]
    rfl
theorem line_row {w o z t : Str} {k : Nat} (hw : Good w) (ho : o ∈ ab) (hne : w ≠ o) (hk : k < 4) (hz : z ∈ bl w o) (ht : t ∈ [Str.ofString "", tailS o]) : appR (headS (esOf w o k) ++ Str.ofString "\n" ++ (z ++ t)) = none := by
  obtain ⟨i, hi⟩ := List.mem_iff_getElem?.mp hz
  by_cases h : i = 28
  · subst h
    have e : some (Str.ofString "0: " ++ w ++ Str.ofString " 1") = some z := hi
    rw [← Option.some.inj e]
    exact base_none hw ho hne hk ht
  · have hm : z ∈ (bl w o).eraseIdx 28 := List.mem_eraseIdx_iff_getElem?.mpr ⟨i, h, hi⟩
    have e : (bl w o).eraseIdx 28 = (bl (Str.ofString "c") o).eraseIdx 28 := rfl
    rw [e] at hm
    exact rest_none hw ho hne hk (lines_bad o ho k hk z hm t ht)
def goodN (j l : Nat) (o : Str) : List Note := ([[], [(0, [(0, (.str o, [l]))])], [(0, [(0, (.non, [1, 29])), (0, (.str o, [2]))])], [(1, [(0, (.str o, [l]))])], [(0, [(0, (.str o, [29]))]), (1, [(0, (.str o, [1, 2, 3]))])]] : List (List Note)).getD j []
theorem good_ok : ∀ o ∈ ab, ∀ k, k < 4 → ∀ j, j < 5 → ∀ l, l < 30 → 1 ≤ l → mine o ((goodN j l o).map toldM) = true ∧ (obAll (esOf (Str.ofString "c") o k) 30 ((goodN j l o).map toldM)).isNone = false := by decide +kernel
theorem good_fine {o : Str} (ho : Good o) {l : Nat} (hl : l < 30) : ∀ j, ∀ n ∈ goodN j l o, FineN n := by
  have eo : Ent (.str o) := .inr ⟨o, ho, rfl⟩
  have en : Ent .non := .inl rfl
  intro j n hn
  unfold goodN at hn
  match j, hn with
  | 0, hn => exact nomatch hn
  | 1, hn => rw [List.mem_singleton.mp hn]; exact fine_one (by decide) hl eo
  | 2, hn =>
    rw [List.mem_singleton.mp hn]
    refine ⟨(by show 0 < 1200; decide), (fun e => (nomatch e)), fun y hy => ?_⟩
    rcases List.mem_cons.mp hy with e | e
    · rw [e]; exact ⟨⟨en, (by show 2 ≤ 30; decide), (by show ∀ n ∈ [1, 29], n < 30; decide)⟩, (fun e => (nomatch e))⟩
    · rw [List.mem_singleton.mp e]; exact ⟨⟨eo, (by show 1 ≤ 30; decide), (by show ∀ n ∈ [2], n < 30; decide)⟩, (fun e => (nomatch e))⟩
  | 3, hn => rw [List.mem_singleton.mp hn]; exact fine_one (by decide) hl eo
  | 4, hn =>
    rcases List.mem_cons.mp hn with e | e
    · rw [e]; exact fine_one (by decide) (by decide) eo
    · rw [List.mem_singleton.mp e]
      refine ⟨(by show 1 < 1200; decide), (fun e => (nomatch e)), fun y hy => ?_⟩
      rw [List.mem_singleton.mp hy]
      exact ⟨⟨eo, (by show 3 ≤ 30; decide), (by show ∀ n ∈ [1, 2, 3], n < 30; decide)⟩, (fun e => (nomatch e))⟩
  | j + 5, hn => exact nomatch hn
theorem good_read {w o : Str} {k j l : Nat} (hw : Good w) (ho : o ∈ ab) (hne : w ≠ o) (hk : k < 4) (hj : j < 5) (hl : l < 30) (hl1 : 1 ≤ l) : appR (Str.join (Str.ofString "\n") (headS (esOf w o k) :: (goodN j l o).map noteS)) = some (esOf w o k, (goodN j l o).map toldM) := by
  have hE := es_ent hw (ab_good ho) k
  have hF := good_fine (ab_good ho) hl j
  obtain ⟨h1, h2⟩ := good_ok o ho k hk j hj l hl hl1
  rw [← t_ob (sw_inj w), sw_es ho hne k hk, sw_ns ho hne h1] at h2
  have hc : linesOf (Str.join (Str.ofString "\n") (headS (esOf w o k) :: (goodN j l o).map noteS)) = headS (esOf w o k) :: (goodN j l o).map noteS := split_join_S sep_nl ((fun e => (nomatch e))) fun z hz => by
    rcases List.mem_cons.mp hz with e | e
    · rw [e]; exact fun z => head_signs hE z rfl
    · obtain ⟨n, hn, rfl⟩ := List.mem_map.mp e
      exact (hF n hn).nl
  unfold appR
  rw [hc]
  show (entsR (headS (esOf w o k))).bind (fun es => (allR noteR ((goodN j l o).map noteS)).bind _) = _
  rw [ents_read hE, allR_map (h := toldM) fun n hn => (hF n hn).read]
  show (obAll (esOf w o k) 30 ((goodN j l o).map toldM)).map _ = _
  cases e : obAll (esOf w o k) 30 ((goodN j l o).map toldM) with
  | none => rw [e] at h2; cases h2
  | some s => rfl
theorem end_bad : appR (Str.ofString "\n0: a 1") = none := by decide +kernel
theorem end_good : appR (Str.ofString "") = some ([], []) := by decide +kernel
section
variable {N : List Str} {qual : Str} {scope0 : Scope} {f : Addr} {cd : Value} {A : Around} {outer : List Env} {s0 : Shared} {H0 : Hp} {E : XK}
theorem pe_compF {scope : Scope} {Nc : List Str} {mp : List (Option Nat)} {tg iter elt : Expr} {ifs : List Expr} {pos : Pos} {wi : TI} {g : TG} {tt : TT} {te : TE} (S : CompOk (cxF P w K mg base N qual scope0 f cd A outer s0 H0 E) scope Nc mp) (hi : PI (cxF P w K mg base N qual scope0 f cd A outer s0 H0 E) tg iter wi)
    (hb : ∀ cl C s H fp pn, Held fp pn → PG (compF (cxF P w K mg base N qual scope0 f cd A outer s0 H0 E) Nc scope cl C s H fp pn E) tg g ∧ PTs (compF (cxF P w K mg base N qual scope0 f cd A outer s0 H0 E) Nc scope cl C s H fp pn E) ifs tt ∧ PE (compF (cxF P w K mg base N qual scope0 f cd A outer s0 H0 E) Nc scope cl C s H fp pn E) elt te)
    (hs : ∀ x, foldedSetIterable iter (cxF P w K mg base N qual scope0 f cd A outer s0 H0 E).env x = pure x := by intro _; rfl) : PE (cxF P w K mg base N qual scope0 f cd A outer s0 H0 E) (.ListComp elt [⟨tg, iter, ifs, 0⟩] scope pos) (tComp mp wi g tt te) :=
  pe_compX (X := cxOf (CXv P w) P w K mg base N qual scope0 f cd A outer s0 H0 E) ⟨rfl, rfl⟩ rfl rfl S hi hb hs
end
def spERX (C : Addr) : Sp := fun vs H Q E => ∃ z : Str, vs = [.str z] ∧ z.length ≤ 10000 ∧ (∀ v, entR z = some v → ∀ H', Same H H' → Q v H') ∧ (entR z = none → ∀ H', Same H H' → E (.ref C) none H')
theorem scER : FnScope ["text"] ["text"] (defScope sER) := ⟨rfl, rfl, rfl, by decide +kernel, rfl, by decide +kernel, by decide +kernel⟩
theorem ok_erX {f gI C : Addr} {fd dI : FuncData} (F : Fun K "entry_read" "entry_read" sER f fd) (DI : Dfn K mg "is_word" sIsW gI dI ["text"]) (GI : FnOk P w K mg base CX0 2 gI dI ["text"] spIsW) {tn : Tok} (mN : mg "NO_ENTRY" = some (.str (Str.ofString "-") tn)) (mC : mg "NoNotes" = some (.ref C)) (xC : VEx K C) : FnOk P w K mg base (CXv P w) 3 f fd ["text"] (spERX C) := by
  refine Fun.okX F scER (fun vs H Q E h => ?_) (fun cdv A outer s H vs Q E hr h => ?_)
  · obtain ⟨z, rfl, _⟩ := h
    rfl
  · obtain ⟨z, rfl, hz, q1, q2⟩ := h
    refine ⟨_, PSs.fly (pss_cons (ps_if (pt_cmpR op_eq (pv 0) (pe_glob (v := .str (Str.ofString "-")) (by rfl) mN ⟨_, rfl⟩) (nomark _)) (pss_one (ps_ret pe_non)) pss_nil)
      (pss_cons (ps_if (pt_not (pt_val (pe_call GI hr (by rfl) DI.at_ DI.fn.kp DI.bn .nil pass0 (pa_cons (pv 0) pa_nil)))) (pss_one (ps_raise rfl (by rfl) mC xC landsF pe_str)) pss_nil)
      (pss_one (ps_ret (pv 0))))), ?_⟩
    have z1 : (1 : Nat) ≤ sizeLine := few (by omega)
    refine ⟨_, rfl, rfl, _, rfl, ?_⟩
    by_cases h0 : z = Str.ofString "-"
    · exact iteY (by rw [h0]) (q1 _ (by unfold entR; rw [if_pos h0]) _ (Same.refl H))
    · refine iteK (fun e => h0 (by injection e)) ?_
      refine ⟨_, rfl, z, rfl, few (by omega), _, rfl, ?_⟩
      cases hw : wordB z with
      | false => exact iteT ⟨z1, q2 (by unfold entR; rw [if_neg h0, hw]; rfl) _ (Same.refl H)⟩
      | true => exact iteF ⟨_, rfl, q1 _ (by unfold entR; rw [if_neg h0, hw]; rfl) _ (Same.refl H)⟩
def spESRX (C : Addr) : Sp := fun vs H Q E => ∃ z : Str, vs = [.str z] ∧ z.length ≤ 5000 ∧ (∀ es, entsR z = some es → (∀ e ∈ es, Ent e) → es.length ≤ 6000 → ∀ (H' : Hp) (p : Addr), Same H H' → H' p = some (.tup es) → Q (.ref p) H') ∧ (entsR z = none → ∀ H', Same H H' → E (.ref C) none H')
theorem scESR : FnScope ["line"] ["line"] (defScope sESR) := ⟨rfl, rfl, rfl, by decide +kernel, rfl, by decide +kernel, by decide +kernel⟩
theorem nd_part : (["part"] : List Str).Nodup := by decide +kernel
theorem allR_ents : ∀ {l : List Str} {es : List V}, allR entR l = some es → ∀ e ∈ es, Ent e
  | [], es, h, e, he => by
    have : some [] = some es := h
    rw [← Option.some.inj this] at he
    exact nomatch he
  | x :: r, es, h, e, he => by
    have h : ((entR x).bind fun y => (allR entR r).map fun ys => y :: ys) = some es := h
    cases e1 : entR x with
    | none => rw [e1] at h; cases h
    | some y =>
      rw [e1] at h
      cases e2 : allR entR r with
      | none => rw [e2] at h; cases h
      | some ys =>
        rw [e2] at h
        have : some (y :: ys) = some es := h
        rw [← Option.some.inj this] at he
        rcases List.mem_cons.mp he with z | z
        · rw [z]; exact entR_ent e1
        · exact allR_ents e2 e z
theorem ok_esrX {f gE C : Addr} {fd dE : FuncData} (F : Fun K "entries_read" "entries_read" sESR f fd) (DE : Dfn K mg "entry_read" sER gE dE ["text"]) (GE : FnOk P w K mg base (CXv P w) 3 gE dE ["text"] (spERX C)) (mtup : mg "tuple" = none) : FnOk P w K mg base (CXv P w) 4 f fd ["line"] (spESRX C) := by
  refine Fun.okX F scESR (fun vs H Q E h => ?_) (fun cdv A outer s H vs Q E hr h => ?_)
  · obtain ⟨z, rfl, _⟩ := h
    rfl
  · obtain ⟨z, rfl, hz, q1, q2⟩ := h
    refine ⟨_, PSs.fly (pss_cons (ps_if (pt_cmpR op_eq (pv 0) pe_str (nomark _)) (pss_one (ps_ret (pe_tup pa_nil))) pss_nil)
      (pss_one (ps_ret (pe_callTy call_tuple_of (by rfl) mtup boot_tuple (pa_cons (pe_compF (Nc := ["part"]) (mp := [none]) (CompOk.of (by rfl)) (pi_list (pe_bm PySem.F.plainAttrs_str PySem.F.slot_str_split PySem.F.type_str_split mt_splitB (pv 0) (pa_cons pe_str pa_nil))) (fun cl C s H fp pn hp => ⟨pg_name (i := 0) nd_part rfl (Or.inl rfl), pts_nil, (pe_call GE hr (by rfl) DE.at_ DE.fn.kp DE.bn .nil (passesC rfl rfl hp) (pa_cons (pv 0) pa_nil))⟩)) pa_nil))))), ?_⟩
    refine ⟨_, rfl, rfl, _, rfl, ?_⟩
    by_cases h0 : z = Str.ofString ""
    · exact iteY (by rw [h0]) ⟨Nat.zero_le _, fun p hp => q1 [] (by unfold entsR; rw [if_pos h0]) (fun e he => nomatch he) (by show 0 ≤ _; omega) _ p (same_upd hp) upd_same⟩
    · refine iteK (fun e => h0 (by injection e)) ?_
      have eR : entsR z = allR entR (Txt.split z (Str.ofString " | ")) := by unfold entsR; rw [if_neg h0]
      rw [eR] at q1 q2
      refine ⟨_, rfl, rfl, _, _, rfl, rfl, (by decide +kernel), by omega, fun p hp => ?_⟩
      have hsl := PyProof.Rows.split_le z (Str.ofString " | ")
      have hpl : ∀ y ∈ Txt.split z (Str.ofString " | "), y.length ≤ 10000 := fun y hy => by have := piece_le hy; omega
      generalize Txt.split z (Str.ofString " | ") = as at q1 q2 hsl hpl
      have S1 := same_upd (o := .lst (as.map V.str)) hp
      have h1 : upd H p (.lst (as.map V.str)) p = some (.lst (as.map V.str)) := upd_same
      generalize upd H p (.lst (as.map V.str)) = H1 at S1 h1
      refine ⟨p, rfl, ⟨_, SqL.of h1⟩, comp_grow (as := as) (v := V.str) (fun i acc H' => acc.length = i ∧ allR entR (as.take i) = some acc ∧ Same H1 H')
        (fun i acc H' _ ⟨_, _, S⟩ => src_list (SqL.of (S _ _ h1))) (few (by omega)) ⟨rfl, rfl, Same.refl _⟩ (fun i acc H' h => h.1) ?_ ?_⟩
      · rintro i a acc H' ha ⟨hil, hy, S⟩ k hk
        have hm := List.mem_of_getElem? ha
        exact ⟨_, rfl, a, rfl, hpl a hm, fun v hv H2 S2 => hk _ _ ⟨by rw [List.length_append, hil]; rfl, allR_take ha hy hv, S.trans S2⟩, fun hn H2 S2 => q2 (allR_none hm hn) _ ((S1.trans S).trans S2)⟩
      · rintro acc H2 ⟨_, hy, S2⟩ D hD
        rw [List.take_length] at hy
        have hl := allR_len hy
        have S3 := same_upd (o := .lst acc) hD
        refine ⟨D, _, rfl, .inl ⟨SqL.of upd_same, fun r hr => ?_⟩⟩
        exact q1 acc hy (allR_ents hy) (by omega) _ r (((S1.trans S2).trans S3).trans (same_upd hr)) upd_same
def spNRX (C : Addr) : Sp := fun vs H Q E => ∃ z : Str, vs = [.str z] ∧ z.length ≤ 10000 ∧ (∀ n, numR z = some n → ∀ H', Same H H' → Q (.int n) H') ∧ (numR z = none → ∀ H', Same H H' → E (.ref C) none H')
theorem scNR : FnScope ["text", "number"] ["text"] (defScope sNR) := ⟨rfl, rfl, rfl, by decide +kernel, rfl, by decide +kernel, by decide +kernel⟩
theorem ok_nrX {f gN C : Addr} {fd dN : FuncData} (F : Fun K "number_read" "number_read" sNR f fd) (DN : Dfn K mg "number_of" sNum gN dN ["text", "most"]) (GN : FnOk P w K mg base CX0 3 gN dN ["text", "most"] spNum) {tm : Tok} (mM : mg "MOST_PRICE" = some (.int 1000000000000000000000000000000 tm)) (mC : mg "NoNotes" = some (.ref C)) (xC : VEx K C) : FnOk P w K mg base (CXv P w) 4 f fd ["text"] (spNRX C) := by
  refine Fun.okX F scNR (fun vs H Q E h => ?_) (fun cdv A outer s H vs Q E hr h => ?_)
  · obtain ⟨n, rfl, _⟩ := h
    rfl
  · obtain ⟨z, rfl, hz, q1, q2⟩ := h
    refine ⟨_, PSs.fly (pss_cons (ps_set (i := 1) scNR.nd rfl (Or.inl rfl) (pe_call GN hr (by rfl) DN.at_ DN.fn.kp DN.bn .nil pass0 (pa_cons (pv 0) (pa_cons (pe_glob (v := .int 1000000000000000000000000000000) (by rfl) mM ⟨_, rfl⟩) pa_nil))))
      (pss_cons (ps_if (pt_cmpR op_isN (pv 1) pe_non (nomark _)) (pss_one (ps_raise rfl (by rfl) mC xC landsF pe_str)) pss_nil)
      (pss_one (ps_ret (pv 1))))), ?_⟩
    have z1 : (1 : Nat) ≤ sizeLine := few (by omega)
    refine ⟨_, rfl, _, _, rfl, by omega, by decide, by decide, ?_⟩
    cases e : numR z with
    | none =>
      rw [show pnum z 1000000000000000000000000000000 = none from e]
      exact ⟨_, rfl, rfl, _, rfl, iteY rfl ⟨z1, q2 e _ (Same.refl H)⟩⟩
    | some n =>
      rw [show pnum z 1000000000000000000000000000000 = some n from e]
      exact ⟨_, rfl, rfl, _, rfl, iteK (fun e => nomatch e) ⟨_, rfl, q1 n e _ (Same.refl H)⟩⟩
theorem iteNK {c A B : Prop} [Decidable c] (h : ¬ c) (ha : A) : if (!decide c) = true then A else B := by rw [decide_eq_false h]; exact iteT ha
def spPRX (C : Addr) : Sp := fun vs H Q E => ∃ z y : Str, vs = [.str z, .str y] ∧ 1 ≤ y.length ∧ z.length ≤ 10000 ∧ (∀ a b, Txt.split z y = [a, b] → ∀ (H' : Hp) (p : Addr), Same H H' → H' p = some (.lst [.str a, .str b]) → Q (.ref p) H') ∧ ((Txt.split z y).length ≠ 2 → ∀ H', Same H H' → E (.ref C) none H')
theorem scPR : FnScope ["text", "between", "parts"] ["text", "between"] (defScope sPR) := ⟨rfl, rfl, rfl, by decide +kernel, rfl, by decide +kernel, by decide +kernel⟩
theorem ok_prX {f C : Addr} {fd : FuncData} (F : Fun K "parts_read" "parts_read" sPR f fd) (mlen : mg "len" = none) (mC : mg "NoNotes" = some (.ref C)) (xC : VEx K C) : FnOk P w K mg base (CXv P w) 1 f fd ["text", "between"] (spPRX C) := by
  refine Fun.okX F scPR (fun vs H Q E h => ?_) (fun cdv A outer s H vs Q E hr h => ?_)
  · obtain ⟨z, y, rfl, _⟩ := h
    rfl
  · obtain ⟨z, y, rfl, hy, hz, q1, q2⟩ := h
    refine ⟨_, PSs.fly (pss_cons (ps_set (i := 2) scPR.nd rfl (Or.inl rfl) (pe_bm PySem.F.plainAttrs_str PySem.F.slot_str_split PySem.F.type_str_split mt_splitB (pv 0) (pa_cons (pv 1) pa_nil)))
      (pss_cons (ps_if (pt_cmpR op_ne (pe_callB call_len_seq (by rfl) mlen PySem.boot_len (pa_cons (pv 2) pa_nil)) pe_int (nomark _)) (pss_one (ps_raise rfl (by rfl) mC xC landsF pe_str)) pss_nil)
      (pss_one (ps_ret (pv 2))))), ?_⟩
    have z1 : (1 : Nat) ≤ sizeLine := few (by omega)
    refine ⟨_, rfl, rfl, _, rfl, z, y, rfl, rfl, hy, by omega, fun p hp => ?_⟩
    generalize Txt.split z y = l at q1 q2 ⊢
    have S1 := same_upd (o := .lst (l.map V.str)) hp
    refine ⟨_, rfl, p, _, rfl, .inl (SqL.of upd_same), rfl, _, rfl, ?_⟩
    rw [List.length_map]
    match l, q1, q2, S1 with
    | [], q1, q2, S1 => exact iteNK (fun e => by have := V.int.inj e; simp at this) ⟨z1, q2 (by decide) _ S1⟩
    | [_], q1, q2, S1 => exact iteNK (fun e => by have := V.int.inj e; simp at this) ⟨z1, q2 (by simp) _ S1⟩
    | [a, b], q1, q2, S1 => exact iteNS rfl ⟨_, rfl, q1 a b rfl _ p S1 upd_same⟩
    | a :: b :: c :: r, q1, q2, S1 => exact iteNK (fun e => by have := V.int.inj e; simp at this; omega) ⟨z1, q2 (by simp) _ S1⟩
def RdgAtH (H : Hp) (t : Addr) (x : RdgZ) : Prop := Ent x.1 ∧ ∃ r, H t = some (.tup [x.1, .ref r]) ∧ H r = some (.tup (x.2.map V.int)) ∧ x.2.length ≤ 20000
def NoteAtH (H : Hp) (t : Addr) (x : NoteY) : Prop := (∀ y ∈ x.2, RdgAtH H y.1 y.2) ∧ ∃ q, H t = some (.tup [.int x.1, .ref q]) ∧ H q = some (.tup (x.2.map fun y => V.ref y.1)) ∧ x.2.length ≤ 20000
theorem RdgAtH.mono {H H' : Hp} {t : Addr} {x : RdgZ} (S : Same H H') (h : RdgAtH H t x) : RdgAtH H' t x := by
  obtain ⟨ho, r, h1, h2, h3⟩ := h
  exact ⟨ho, r, S _ _ h1, S _ _ h2, h3⟩
theorem NoteAtH.mono {H H' : Hp} {t : Addr} {x : NoteY} (S : Same H H') (h : NoteAtH H t x) : NoteAtH H' t x := by
  obtain ⟨h1, q, h2, h3, h4⟩ := h
  exact ⟨fun y hy => (h1 y hy).mono S, q, S _ _ h2, S _ _ h3, h4⟩
theorem RdgAtH.z {K : PySem.W.Frag} {H : Hp} {t : Addr} {x : RdgZ} (h : RdgAtH H t x) : RdgAtZ K H t x := by
  obtain ⟨ho, r, h1, h2, _⟩ := h
  exact ⟨ho, r, SqT.of h1, SqT.of h2⟩
theorem NoteAtH.z {K : PySem.W.Frag} {H : Hp} {t : Addr} {x : NoteY} (h : NoteAtH H t x) : NoteAtZ K H t x := by
  obtain ⟨h1, q, h2, h3, _⟩ := h
  exact ⟨fun y hy => (h1 y hy).z, q, SqT.of h2, SqT.of h3⟩
theorem rdgR_of {z a b : Str} (h : Txt.split z (Str.ofString " ") = [a, b]) : rdgR z = (entR a).bind fun e => (allR numR (Txt.split b (Str.ofString ","))).map fun rs => (e, rs) := by
  unfold rdgR
  rw [two_of h]
  rfl
theorem noteR_of {z a b : Str} (h : Txt.split z (Str.ofString ": ") = [a, b]) : noteR z = (numR a).bind fun n => (allR rdgR (Txt.split b (Str.ofString "; "))).map fun ys => (n, ys) := by
  unfold noteR
  rw [two_of h]
  rfl
theorem nd_row : (["row"] : List Str).Nodup := by decide +kernel
def spRRX (C : Addr) : Sp := fun vs H Q E => ∃ z : Str, vs = [.str z] ∧ z.length ≤ 10000 ∧ (∀ y, rdgR z = some y → ∀ (H' : Hp) (t : Addr), Same H H' → RdgAtH H' t y → Q (.ref t) H') ∧ (rdgR z = none → ∀ H', Same H H' → E (.ref C) none H')
theorem scRR : FnScope ["text", "parts"] ["text"] (defScope sRR) := ⟨rfl, rfl, rfl, by decide +kernel, rfl, by decide +kernel, by decide +kernel⟩
theorem ok_rrX {f gP gE gN C : Addr} {fd dP dE dN : FuncData} (F : Fun K "reading_read" "reading_read" sRR f fd) (DP : Dfn K mg "parts_read" sPR gP dP ["text", "between"]) (DE : Dfn K mg "entry_read" sER gE dE ["text"]) (DN : Dfn K mg "number_read" sNR gN dN ["text"]) (GP : FnOk P w K mg base (CXv P w) 4 gP dP ["text", "between"] (spPRX C)) (GE : FnOk P w K mg base (CXv P w) 4 gE dE ["text"] (spERX C)) (GN : FnOk P w K mg base (CXv P w) 4 gN dN ["text"] (spNRX C)) (mtup : mg "tuple" = none) : FnOk P w K mg base (CXv P w) 5 f fd ["text"] (spRRX C) := by
  refine Fun.okX F scRR (fun vs H Q E h => ?_) (fun cdv A outer s H vs Q E hr h => ?_)
  · obtain ⟨x, rfl, _⟩ := h
    rfl
  · obtain ⟨z, rfl, hz, q1, q2⟩ := h
    refine ⟨_, PSs.fly (pss_cons (ps_set (i := 1) scRR.nd rfl (Or.inl rfl) (pe_call GP hr (by rfl) DP.at_ DP.fn.kp DP.bn .nil passesF (pa_cons (pv 0) (pa_cons pe_str pa_nil))))
      (pss_one (ps_ret (pe_tup (pa_cons (pe_call GE hr (by rfl) DE.at_ DE.fn.kp DE.bn .nil passesF (pa_cons (pe_ix ix_list (pv 1) pe_int (fun _ _ => rfl)) pa_nil)) (pa_cons (pe_callTy call_tuple_of (by rfl) mtup boot_tuple (pa_cons (pe_compF (Nc := ["row"]) (mp := [none]) (CompOk.of (by rfl)) (pi_list (pe_bm PySem.F.plainAttrs_str PySem.F.slot_str_split PySem.F.type_str_split mt_splitB (pe_ix ix_list (pv 1) pe_int (fun _ _ => rfl)) (pa_cons pe_str pa_nil))) (fun cl C s H fp pn hp => ⟨pg_name (i := 0) nd_row rfl (Or.inl rfl), pts_nil, (pe_call GN hr (by rfl) DN.at_ DN.fn.kp DN.bn .nil (passesC rfl rfl hp) (pa_cons (pv 0) pa_nil))⟩)) pa_nil)) pa_nil)))))), ?_⟩
    refine ⟨_, rfl, z, _, rfl, (by decide +kernel), by omega, fun a b hs H1 p S1 h1 => ?_, fun hn H1 S1 => q2 (by unfold rdgR; rw [two_not hn]; rfl) _ S1⟩
    have ha := piece_le (show a ∈ Txt.split z (Str.ofString " ") by rw [hs]; exact List.mem_cons_self)
    have hb := piece_le (show b ∈ Txt.split z (Str.ofString " ") by rw [hs]; exact List.mem_cons_of_mem _ List.mem_cons_self)
    rw [rdgR_of hs] at q1 q2
    refine ⟨_, rfl, p, _, _, _, rfl, rfl, SqL.of h1, rfl, a, rfl, by omega, fun v hv H2 S2 => ?_, fun hn H2 S2 => q2 (by rw [hn]; rfl) _ (S1.trans S2)⟩
    rw [hv] at q1 q2
    have hEv := entR_ent hv
    have h2 := S2 _ _ h1
    refine ⟨_, rfl, p, _, _, _, rfl, rfl, SqL.of h2, rfl, rfl, _, _, rfl, rfl, (by decide +kernel), by omega, fun p3 hp3 => ?_⟩
    have hsl := PyProof.Rows.split_le b (Str.ofString ",")
    have hpl : ∀ y ∈ Txt.split b (Str.ofString ","), y.length ≤ 10000 := fun y hy => by have := piece_le hy; omega
    generalize Txt.split b (Str.ofString ",") = as at q1 q2 hsl hpl
    have S3 := same_upd (o := .lst (as.map V.str)) hp3
    have h3 : upd H2 p3 (.lst (as.map V.str)) p3 = some (.lst (as.map V.str)) := upd_same
    generalize upd H2 p3 (.lst (as.map V.str)) = H3 at S3 h3
    have S13 := (S1.trans S2).trans S3
    refine ⟨p3, rfl, ⟨_, SqL.of h3⟩, comp_grow (as := as) (v := V.str) (fun i acc H' => acc.length = i ∧ (∃ ns : List Int, acc = ns.map V.int ∧ allR numR (as.take i) = some ns) ∧ Same H3 H')
      (fun i acc H' _ ⟨_, _, S⟩ => src_list (SqL.of (S _ _ h3))) (few (by omega)) ⟨rfl, ⟨[], rfl, rfl⟩, Same.refl _⟩ (fun i acc H' h => h.1) ?_ ?_⟩
    · rintro i x acc H' hx ⟨hil, ⟨ns, rfl, hy⟩, S⟩ k hk
      have hm := List.mem_of_getElem? hx
      exact ⟨_, rfl, x, rfl, hpl x hm, fun n hn H4 S4 => hk _ _ ⟨by rw [List.length_append, hil]; rfl, ⟨ns ++ [n], by rw [List.map_append]; rfl, allR_take hx hy hn⟩, S.trans S4⟩, fun hn H4 S4 => q2 (by rw [allR_none hm hn]; rfl) _ ((S13.trans S).trans S4)⟩
    · rintro acc H4 ⟨_, ⟨ns, rfl, hy⟩, S4⟩ D hD
      rw [List.take_length] at hy
      have hl := allR_len hy
      have S5 := same_upd (o := .lst (ns.map V.int)) hD
      refine ⟨D, _, rfl, .inl ⟨SqL.of upd_same, fun r hr => ?_⟩⟩
      have S6 := same_upd (o := .tup (ns.map V.int)) hr
      refine ⟨few (by show 2 ≤ _; omega), fun t ht => ?_⟩
      have S7 := same_upd (o := .tup [v, .ref r]) ht
      exact q1 (v, ns) (by rw [hy]; rfl) _ t ((((S13.trans S4).trans S5).trans S6).trans S7) ⟨hEv, r, upd_same, S7 _ _ upd_same, by show ns.length ≤ _; omega⟩
def spNTRX (C : Addr) : Sp := fun vs H Q E => ∃ z : Str, vs = [.str z] ∧ z.length ≤ 5000 ∧ (∀ n, noteR z = some n → ∀ (H' : Hp) (t : Addr) (x : NoteY), Same H H' → NoteAtH H' t x → toldZ x = n → Q (.ref t) H') ∧ (noteR z = none → ∀ H', Same H H' → E (.ref C) none H')
theorem scNTR : FnScope ["line", "parts"] ["line"] (defScope sNTR) := ⟨rfl, rfl, rfl, by decide +kernel, rfl, by decide +kernel, by decide +kernel⟩
theorem nd_reading : (["reading"] : List Str).Nodup := by decide +kernel
theorem ok_ntrX {f gP gR gN C : Addr} {fd dP dR dN : FuncData} (F : Fun K "note_read" "note_read" sNTR f fd) (DP : Dfn K mg "parts_read" sPR gP dP ["text", "between"]) (DR : Dfn K mg "reading_read" sRR gR dR ["text"]) (DN : Dfn K mg "number_read" sNR gN dN ["text"]) (GP : FnOk P w K mg base (CXv P w) 5 gP dP ["text", "between"] (spPRX C)) (GR : FnOk P w K mg base (CXv P w) 5 gR dR ["text"] (spRRX C)) (GN : FnOk P w K mg base (CXv P w) 5 gN dN ["text"] (spNRX C)) (mtup : mg "tuple" = none) : FnOk P w K mg base (CXv P w) 6 f fd ["line"] (spNTRX C) := by
  refine Fun.okX F scNTR (fun vs H Q E h => ?_) (fun cdv A outer s H vs Q E hr h => ?_)
  · obtain ⟨x, rfl, _⟩ := h
    rfl
  · obtain ⟨z, rfl, hz, q1, q2⟩ := h
    refine ⟨_, PSs.fly (pss_cons (ps_set (i := 1) scNTR.nd rfl (Or.inl rfl) (pe_call GP hr (by rfl) DP.at_ DP.fn.kp DP.bn .nil passesF (pa_cons (pv 0) (pa_cons pe_str pa_nil))))
      (pss_one (ps_ret (pe_tup (pa_cons (pe_call GN hr (by rfl) DN.at_ DN.fn.kp DN.bn .nil passesF (pa_cons (pe_ix ix_list (pv 1) pe_int (fun _ _ => rfl)) pa_nil)) (pa_cons (pe_callTy call_tuple_of (by rfl) mtup boot_tuple (pa_cons (pe_compF (Nc := ["reading"]) (mp := [none]) (CompOk.of (by rfl)) (pi_list (pe_bm PySem.F.plainAttrs_str PySem.F.slot_str_split PySem.F.type_str_split mt_splitB (pe_ix ix_list (pv 1) pe_int (fun _ _ => rfl)) (pa_cons pe_str pa_nil))) (fun cl C s H fp pn hp => ⟨pg_name (i := 0) nd_reading rfl (Or.inl rfl), pts_nil, (pe_call GR hr (by rfl) DR.at_ DR.fn.kp DR.bn .nil (passesC rfl rfl hp) (pa_cons (pv 0) pa_nil))⟩)) pa_nil)) pa_nil)))))), ?_⟩
    refine ⟨_, rfl, z, _, rfl, (by decide +kernel), by omega, fun a b hs H1 p S1 h1 => ?_, fun hn H1 S1 => q2 (by unfold noteR; rw [two_not hn]; rfl) _ S1⟩
    have ha := piece_le (show a ∈ Txt.split z (Str.ofString ": ") by rw [hs]; exact List.mem_cons_self)
    have hb := piece_le (show b ∈ Txt.split z (Str.ofString ": ") by rw [hs]; exact List.mem_cons_of_mem _ List.mem_cons_self)
    rw [noteR_of hs] at q1 q2
    refine ⟨_, rfl, p, _, _, _, rfl, rfl, SqL.of h1, rfl, a, rfl, by omega, fun v hv H2 S2 => ?_, fun hn H2 S2 => q2 (by rw [hn]; rfl) _ (S1.trans S2)⟩
    rw [hv] at q1 q2
    have h2 := S2 _ _ h1
    refine ⟨_, rfl, p, _, _, _, rfl, rfl, SqL.of h2, rfl, rfl, _, _, rfl, rfl, (by decide +kernel), by omega, fun p3 hp3 => ?_⟩
    have hsl := PyProof.Rows.split_le b (Str.ofString "; ")
    have hpl : ∀ y ∈ Txt.split b (Str.ofString "; "), y.length ≤ 10000 := fun y hy => by have := piece_le hy; omega
    generalize Txt.split b (Str.ofString "; ") = as at q1 q2 hsl hpl
    have S3 := same_upd (o := .lst (as.map V.str)) hp3
    have h3 : upd H2 p3 (.lst (as.map V.str)) p3 = some (.lst (as.map V.str)) := upd_same
    generalize upd H2 p3 (.lst (as.map V.str)) = H3 at S3 h3
    have S13 := (S1.trans S2).trans S3
    refine ⟨p3, rfl, ⟨_, SqL.of h3⟩, comp_grow (as := as) (v := V.str) (fun i acc H' => acc.length = i ∧ (∃ ys : List (Addr × RdgZ), acc = ys.map (fun y => V.ref y.1) ∧ allR rdgR (as.take i) = some (ys.map fun y => y.2) ∧ ∀ y ∈ ys, RdgAtH H' y.1 y.2) ∧ Same H3 H')
      (fun i acc H' _ ⟨_, _, S⟩ => src_list (SqL.of (S _ _ h3))) (few (by omega)) ⟨rfl, ⟨[], rfl, rfl, fun _ z => nomatch z⟩, Same.refl _⟩ (fun i acc H' h => h.1) ?_ ?_⟩
    · rintro i x acc H' hx ⟨hil, ⟨ys, rfl, hy, hY⟩, S⟩ k hk
      have hm := List.mem_of_getElem? hx
      refine ⟨_, rfl, x, rfl, hpl x hm, fun y hn H4 t S4 h4 => hk _ _ ⟨by rw [List.length_append, hil]; rfl, ⟨ys ++ [(t, y)], by rw [List.map_append]; rfl, by rw [allR_take hx hy hn, List.map_append]; rfl, fun u hu => ?_⟩, S.trans S4⟩, fun hn H4 S4 => q2 (by rw [allR_none hm hn]; rfl) _ ((S13.trans S).trans S4)⟩
      rcases List.mem_append.mp hu with hu | hu
      · exact (hY u hu).mono S4
      · rw [List.mem_singleton.mp hu]; exact h4
    · rintro acc H4 ⟨_, ⟨ys, rfl, hy, hY⟩, S4⟩ D hD
      rw [List.take_length] at hy
      have hl := allR_len hy
      rw [List.length_map] at hl
      have S5 := same_upd (o := .lst (ys.map fun y => V.ref y.1)) hD
      refine ⟨D, _, rfl, .inl ⟨SqL.of upd_same, fun r hr => ?_⟩⟩
      have S6 := same_upd (o := .tup (ys.map fun y => V.ref y.1)) hr
      refine ⟨few (by show 2 ≤ _; omega), fun t ht => ?_⟩
      have S7 := same_upd (o := .tup [V.int v, .ref r]) ht
      have S57 := (S5.trans S6).trans S7
      exact q1 _ (by rw [hy]; rfl) _ t (v, ys) ((S13.trans S4).trans S57) ⟨fun y hy => (hY y hy).mono S57, r, upd_same, S7 _ _ upd_same, by show ys.length ≤ _; omega⟩ rfl
def spARX (C : Addr) : Sp := fun vs H Q E => ∃ z : Str, vs = [.str z] ∧ z.length ≤ 5000 ∧ (∀ es ns, appR z = some (es, ns) → ∀ (H' : Hp) (t p r : Addr) (ms : List (Addr × NoteY)), Same H H' → H' t = some (.tup [.ref p, .ref r]) → H' p = some (.tup es) → H' r = some (.tup (ms.map fun y => V.ref y.1)) → (∀ y ∈ ms, NoteAtH H' y.1 y.2) → (ms.map fun y => toldZ y.2) = ns → Q (.ref t) H') ∧ (appR z = none → ∀ H', Same H H' → E (.ref C) none H')
theorem scAR : FnScope ["text", "lines", "entries", "notes"] ["text"] (defScope sAR) := ⟨rfl, rfl, rfl, by decide +kernel, rfl, by decide +kernel, by decide +kernel⟩
theorem nd_line : (["line"] : List Str).Nodup := by decide +kernel
theorem ok_arX {f gE gN gB C : Addr} {fd dE dN dB : FuncData} (F : Fun K "apparatus_read" "apparatus_read" sAR f fd) (DE : Dfn K mg "entries_read" sESR gE dE ["line"]) (DN : Dfn K mg "note_read" sNTR gN dN ["line"]) (DB : Dfn K mg "collation_back" sOB gB dB ["entries", "many", "notes"]) (GE : FnOk P w K mg base (CXv P w) 6 gE dE ["line"] (spESRX C)) (GN : FnOk P w K mg base (CXv P w) 6 gN dN ["line"] (spNTRX C)) (GB : FnOk P w K mg base (CXv P w) 6 gB dB ["entries", "many", "notes"] (spOBX K C)) (mtup : mg "tuple" = none) {tr : Tok} (mR : mg "MOST_ROWS" = some (.int 30 tr)) : FnOk P w K mg base (CXv P w) 7 f fd ["text"] (spARX C) := by
  refine Fun.okX F scAR (fun vs H Q E h => ?_) (fun cdv A outer s H vs Q E hr h => ?_)
  · obtain ⟨z, rfl, _⟩ := h
    rfl
  · obtain ⟨z, rfl, hz, q1, q2⟩ := h
    refine ⟨_, PSs.fly (pss_cons (ps_set (i := 1) scAR.nd rfl (Or.inl rfl) (pe_bm PySem.F.plainAttrs_str PySem.F.slot_str_split PySem.F.type_str_split mt_splitB (pv 0) (pa_cons pe_str pa_nil)))
      (pss_cons (ps_set (i := 2) scAR.nd rfl (Or.inl rfl) (pe_call GE hr (by rfl) DE.at_ DE.fn.kp DE.bn .nil passesF (pa_cons (pe_ix ix_list (pv 1) pe_int (fun _ _ => rfl)) pa_nil)))
      (pss_cons (ps_set (i := 3) scAR.nd rfl (Or.inl rfl) (pe_callTy call_tuple_of (by rfl) mtup boot_tuple (pa_cons (pe_compF (Nc := ["line"]) (mp := [none]) (CompOk.of (by rfl)) (pi_list (pe_slice sl_lst (pv 1) (po_some pe_int) po_none)) (fun cl C s H fp pn hp => ⟨pg_name (i := 0) nd_line rfl (Or.inl rfl), pts_nil, (pe_call GN hr (by rfl) DN.at_ DN.fn.kp DN.bn .nil (passesC rfl rfl hp) (pa_cons (pv 0) pa_nil))⟩)) pa_nil)))
      (pss_cons (ps_expr (pe_call GB hr (by rfl) DB.at_ DB.fn.kp DB.bn .nil passesF (pa_cons (pv 2) (pa_cons (pe_glob (v := .int 30) (by rfl) mR ⟨_, rfl⟩) (pa_cons (pv 3) pa_nil)))))
      (pss_one (ps_ret (pe_tup (pa_cons (pv 2) (pa_cons (pv 3) pa_nil))))))))), ?_⟩
    refine ⟨_, rfl, rfl, _, _, rfl, rfl, (by decide +kernel), by omega, fun p hp => ?_⟩
    have hsl := PyProof.Rows.split_le z (Str.ofString "\n")
    have hpl : ∀ y ∈ linesOf z, y.length ≤ 5000 := fun y hy => by have := piece_le hy; omega
    have hpos := PyProof.Rows.split_pos z (Str.ofString "\n")
    obtain ⟨a0, r0, els⟩ : ∃ a r, linesOf z = a :: r := by
      have hp' : 1 ≤ (linesOf z).length := hpos
      cases e : linesOf z with
      | nil => rw [e] at hp'; simp at hp'
      | cons a r => exact ⟨a, r, rfl⟩
    have eA : appR z = (entsR a0).bind fun es => (allR noteR r0).bind fun ns => (obAll es 30 ns).map fun _ => (es, ns) := by
      unfold appR
      rw [els]
      rfl
    rw [eA] at q1 q2
    rw [show Txt.split z (Str.ofString "\n") = a0 :: r0 from els]
    rw [show Txt.split z (Str.ofString "\n") = a0 :: r0 from els, List.length_cons] at hsl
    rw [els] at hpl
    have S1 := same_upd (o := .lst ((a0 :: r0).map V.str)) hp
    have h1 : upd H p (.lst ((a0 :: r0).map V.str)) p = some (.lst (V.str a0 :: r0.map V.str)) := by rw [upd_same, List.map_cons]
    generalize upd H p (.lst ((a0 :: r0).map V.str)) = H1 at S1 h1
    refine ⟨_, rfl, p, _, _, _, rfl, rfl, SqL.of h1, atI_nat (j := 0) rfl, a0, rfl, hpl _ List.mem_cons_self, fun es hes hE hel H2 pe S2 h2 => ?_, fun hn H2 S2 => q2 (by rw [hn]; rfl) _ (S1.trans S2)⟩
    rw [hes] at q1 q2
    refine ⟨_, rfl, _, rfl, p, _, rfl, SqL.of (S2 _ _ h1), fun p3 hp3 => ?_⟩
    rw [cut_tail]
    have S3 := same_upd (o := .lst (r0.map V.str)) hp3
    have h3 : upd H2 p3 (.lst (r0.map V.str)) p3 = some (.lst (r0.map V.str)) := upd_same
    have S13 := (S1.trans S2).trans S3
    have h2 := S3 _ _ h2
    generalize upd H2 p3 (.lst (r0.map V.str)) = H3 at S13 h3 h2
    refine ⟨p3, rfl, ⟨_, SqL.of h3⟩, comp_grow (as := r0) (v := V.str) (fun i acc H' => acc.length = i ∧ (∃ ys : List (Addr × NoteY), acc = ys.map (fun y => V.ref y.1) ∧ allR noteR (r0.take i) = some (ys.map fun y => toldZ y.2) ∧ ∀ y ∈ ys, NoteAtH H' y.1 y.2) ∧ Same H3 H')
      (fun i acc H' _ ⟨_, _, S⟩ => src_list (SqL.of (S _ _ h3))) (few (by omega)) ⟨rfl, ⟨[], rfl, rfl, fun _ z => nomatch z⟩, Same.refl _⟩ (fun i acc H' h => h.1) ?_ ?_⟩
    · rintro i x acc H' hx ⟨hil, ⟨ys, rfl, hy, hY⟩, S⟩ k hk
      have hm := List.mem_of_getElem? hx
      refine ⟨_, rfl, x, rfl, hpl x (List.mem_cons_of_mem _ hm), fun y hn H4 t x' S4 h4 e4 => hk _ _ ⟨by rw [List.length_append, hil]; rfl, ⟨ys ++ [(t, x')], by rw [List.map_append]; rfl, by rw [allR_take hx hy hn, List.map_append, ← e4]; rfl, fun u hu => ?_⟩, S.trans S4⟩, fun hn H4 S4 => q2 (by show (allR noteR r0).bind _ = none; rw [allR_none hm hn]; rfl) _ ((S13.trans S).trans S4)⟩
      rcases List.mem_append.mp hu with hu | hu
      · exact (hY u hu).mono S4
      · rw [List.mem_singleton.mp hu]; exact h4
    · rintro acc H4 ⟨_, ⟨ys, rfl, hy, hY⟩, S4⟩ D hD
      rw [List.take_length] at hy
      have T5 := same_upd (o := .lst (ys.map fun y => V.ref y.1)) hD
      refine ⟨D, _, rfl, .inl ⟨SqL.of upd_same, fun r hr => ?_⟩⟩
      have T6 := same_upd (o := .tup (ys.map fun y => V.ref y.1)) hr
      have h6 : upd (upd H4 D (.lst (ys.map fun y => V.ref y.1))) r (.tup (ys.map fun y => V.ref y.1)) r = some (.tup (ys.map fun y => V.ref y.1)) := upd_same
      have S46 := T5.trans T6
      generalize upd (upd H4 D (.lst (ys.map fun y => V.ref y.1))) r (.tup (ys.map fun y => V.ref y.1)) = H6 at S46 h6
      have S36 := S4.trans S46
      have hY6 : ∀ y ∈ ys, NoteAtH H6 y.1 y.2 := fun y hy => (hY y hy).mono S46
      rw [hy] at q1 q2
      have q1 : ∀ (s : Int × List (List V)), obAll es 30 (ys.map fun y => toldZ y.2) = some s → _ := fun s hs => q1 es (ys.map fun y => toldZ y.2) (by show (obAll es 30 _).map _ = _; rw [hs]; rfl)
      refine ⟨_, rfl, _, rfl, pe, r, es, 30, ys, rfl, SqT.of (S36 _ _ h2), hE, by omega, by decide, by decide, SqT.of h6, fun y hy => (hY6 y hy).z, fun s hs H7 r7 as7 S7 _ _ _ _ => ?_, fun hn H7 S7 => q2 (by show (obAll es 30 _).map _ = none; rw [hn]; rfl) _ ((S13.trans S36).trans S7)⟩
      refine ⟨_, rfl, _, rfl, few (by show 2 ≤ _; omega), fun t ht => ?_⟩
      have S8 := same_upd (o := .tup [.ref pe, .ref r]) ht
      have S78 := S7.trans S8
      exact q1 s hs _ t pe r ys ((S13.trans S36).trans S78) upd_same (S78 _ _ (S36 _ _ h2)) (S78 _ _ h6) (fun y hy => (hY6 y hy).mono S78) rfl
theorem boot_VE : bootBuiltins "ValueError" = some (.type "ValueError") := by decide +kernel
structure Kx (K : PySem.W.Frag) (CV cN cR cP cS cL cM cT cO : Addr) : Prop where
  kx : Exk K cN
  hit : Hits K cN CV
  own : PySem.W.kitOne K (.ref cN) (.ref cN) = some true
  val : PySem.W.kitOne K (.ref cN) (.type "ValueError") = some true
  oth : PySem.W.kitAny K (.ref cN) [.ref cL, .ref cM, .ref cP, .ref cR, .ref cS, .ref cO, .ref cT] = some false
def spAsk : Sp := fun vs H Q _ => ∃ z : Str, vs = [.str z] ∧ z.length ≤ 5000 ∧
  (∀ es ns, appR z = some (es, ns) → ∀ (H' : Hp) (x t p r : Addr) (ms : List (Addr × NoteY)), Same H H' → H' x = some (.tup [.str (Str.ofString "told"), .ref t]) → H' t = some (.tup [.ref p, .ref r]) → H' p = some (.tup es) → H' r = some (.tup (ms.map fun y => V.ref y.1)) → (∀ y ∈ ms, NoteAtH H' y.1 y.2) → (ms.map fun y => toldZ y.2) = ns → Q (.ref x) H') ∧
  (appR z = none → ∀ (H' : Hp) (x : Addr), Same H H' → H' x = some (.tup [.str (Str.ofString "refused"), .non]) → Q (.ref x) H')
theorem scAsk : FnScope ["line", "caught", "found", "e"] ["line"] (defScope sAsk) := ⟨rfl, rfl, rfl, by decide +kernel, rfl, by decide +kernel, by decide +kernel⟩
theorem ok_ask {f gA CV cN cR cP cS cL cM cT cO : Addr} {fd dA : FuncData} (F : Fun K "_law_asked" "_law_asked" sAsk f fd) (DA : Dfn K mg "apparatus_read" sAR gA dA ["text"]) (GA : FnOk P w K mg base (CXv P w) 7 gA dA ["text"] (spARX cN)) (misi : mg "isinstance" = none) (mint : mg "int" = none) (mVE : mg "ValueError" = none)
    (m0 : mg "VellumError" = some (.ref CV)) (m1 : mg "NoNotes" = some (.ref cN)) (m2 : mg "NoRow" = some (.ref cR)) (m3 : mg "NoPrices" = some (.ref cP)) (m4 : mg "NoSlips" = some (.ref cS)) (m5 : mg "NoLine" = some (.ref cL)) (m6 : mg "NoName" = some (.ref cM)) (m7 : mg "TwiceNamed" = some (.ref cT)) (m8 : mg "TooMany" = some (.ref cO)) (X : Kx K CV cN cR cP cS cL cM cT cO) : FnOk P w K mg base CX0 8 f fd ["line"] spAsk := by
  refine F.ok scAsk (fun vs H Q E h => ?_) (fun cdv A outer s H vs Q E hr h => ?_)
  · obtain ⟨z, rfl, _⟩ := h
    rfl
  · obtain ⟨z, rfl, hz, q1, q2⟩ := h
    refine ⟨_, pss_cons (ps_set (i := 1) scAsk.nd rfl (Or.inl rfl) pe_non)
      (pss_cons (ps_set (i := 2) scAsk.nd rfl (Or.inl rfl) pe_non)
      (pss_cons (ps_try (i := 2) (j := 3) (D := CV) (fun _ _ z => z) ⟨rfl, rfl⟩ rfl GA hr (by rfl) DA.at_ DA.fn.kp DA.bn (pa_cons (pv 0) pa_nil) scAsk.nd rfl rfl rfl rfl (by rfl) m0 (fun ea => (pss_one (ps_set (i := 1) scAsk.nd rfl (Or.inl rfl) (pv 3)))))
      (pss_cons (ps_if (pt_cmpR op_isN (pv 1) pe_non (nomark _)) (pss_one (ps_ret (pe_tup (pa_cons pe_str (pa_cons (pv 2) pa_nil))))) pss_nil)
      (pss_cons (ps_if (pt_val (pe_callB (call_isxT (K := K) rfl) (by rfl) misi boot_isinstance (pa_cons (pv 1) (pa_cons (pe_tup (pa_cons (pe_glob (v := .ref cL) (by rfl) m5 rfl) (pa_cons (pe_glob (v := .ref cM) (by rfl) m6 rfl) (pa_cons (pe_glob (v := .ref cP) (by rfl) m3 rfl) (pa_cons (pe_glob (v := .ref cR) (by rfl) m2 rfl) (pa_cons (pe_glob (v := .ref cS) (by rfl) m4 rfl) (pa_cons (pe_glob (v := .ref cO) (by rfl) m8 rfl) (pa_cons (pe_glob (v := .ref cT) (by rfl) m7 rfl) pa_nil)))))))) pa_nil)))) (pss_one (ps_ret (pe_tup (pa_cons pe_str (pa_cons pe_non pa_nil))))) pss_nil)
      (pss_one (ps_ret (pe_tup (pa_cons (pe_ix ix_list (pe_lst (pa_cons pe_str (pa_cons pe_str pa_nil))) (pe_callTy call_int1 (by rfl) mint boot_int (pa_cons (pe_and (pe_callB (call_isx (K := K) rfl) (by rfl) misi boot_isinstance (pa_cons (pv 1) (pa_cons (pe_glob (v := .ref cN) (by rfl) m1 rfl) pa_nil))) (pe_one (pe_callB (call_isx (K := K) rfl) (by rfl) misi boot_isinstance (pa_cons (pv 1) (pa_cons (pe_bltn (v := .ty "ValueError") (by rfl) mVE boot_VE rfl) pa_nil))))) pa_nil)) (fun _ _ => rfl)) (pa_cons pe_non pa_nil))))))))), ?_⟩
    have z2 : (2 : Nat) ≤ sizeLine := few (by omega)
    refine ⟨_, rfl, z, rfl, hz, fun es ns hs H1 t p r ms S1 h1 h2 h3 h4 h5 => ?_, fun hn H1 S1 => ⟨cN, rfl, X.hit, fun ea hea => ?_⟩⟩
    · refine ⟨_, rfl, rfl, _, rfl, iteY rfl ⟨_, rfl, z2, fun x hx => ?_⟩⟩
      have T := same_upd (o := .tup [V.str (Str.ofString "told"), .ref t]) hx
      exact q1 es ns hs _ x t p r ms (S1.trans T) upd_same (T _ _ h1) (T _ _ h2) (T _ _ h3) (fun y hy => (h4 y hy).mono T) h5
    · have T1 := same_upd (o := excO ea cN) hea
      have he : upd H1 ea (excO ea cN) ea = some (excO ea cN) := upd_same
      generalize upd H1 ea (excO ea cN) = H2 at T1 he
      refine ⟨_, rfl, ?_⟩
      refine ⟨_, rfl, rfl, _, rfl, iteK (fun z => by cases z) ?_⟩
      refine ⟨_, rfl, few (by show 7 ≤ _; omega), fun t ht => ?_⟩
      have T2 := same_upd (o := .tup [V.ref cL, .ref cM, .ref cP, .ref cR, .ref cS, .ref cO, .ref cT]) ht
      refine ⟨ea, cN, false, t, [cL, cM, cP, cR, cS, cO, cT], rfl, upd_same, X.oth, T2 _ _ he, X.kx, _, rfl, iteF ?_⟩
      have he2 := T2 _ _ he
      generalize upd H2 t (.tup [V.ref cL, .ref cM, .ref cP, .ref cR, .ref cS, .ref cO, .ref cT]) = H3 at T2 he2
      refine ⟨z2, fun l hl => ?_⟩
      have T3 := same_upd (o := .lst [V.str (Str.ofString "odd"), .str (Str.ofString "refused")]) hl
      have he3 := T3 _ _ he2
      refine ⟨_, rfl, ea, cN, true, ⟨cN, .inl ⟨rfl, X.own⟩⟩, he3, X.kx, true, rfl, iteT ⟨_, rfl, ea, cN, true, ⟨cN, .inr ⟨_, rfl, X.val⟩⟩, he3, X.kx, .inr ⟨true, rfl, l, _, 1, _, rfl, rfl, SqL.of upd_same, atI_nat (j := 1) rfl, z2, fun x hx => ?_⟩⟩⟩
      exact q2 hn _ x ((((S1.trans T1).trans T2).trans T3).trans (same_upd hx)) upd_same
def spBH : Sp := fun vs H Q _ => ∃ w : Str, vs = [.str w] ∧ w.length ≤ 100 ∧ ∀ (H' : Hp) (p : Addr), Same H H' → H' p = some (.lst ((bh w).map V.str)) → Q (.ref p) H'
theorem scBH : FnScope ["word", "rows"] ["word"] (defScope sBH) := ⟨rfl, rfl, rfl, by decide +kernel, rfl, by decide +kernel, by decide +kernel⟩
theorem ok_bh {f : Addr} {fd : FuncData} (F : Fun K "_law_bad_heads" "_law_bad_heads" sBH f fd) : FnOk P w K mg base CX0 1 f fd ["word"] spBH := by
  refine F.ok scBH (fun vs H Q E h => ?_) (fun cdv A outer s H vs Q E hr h => ?_)
  · obtain ⟨w, rfl, _⟩ := h
    rfl
  · obtain ⟨w, rfl, hw, q⟩ := h
    refine ⟨_, pss_cons (ps_set (i := 1) scBH.nd rfl (Or.inl rfl) (pe_lst (pxs_cons (px_str 1) (pxs_cons (px_str 1) (pxs_cons (px_add (px_var 0 (pv 0)) (px_str 1)) (pxs_cons (px_str 2) (pxs_cons (px_add (px_var 0 (pv 0)) (px_str 2)) (pxs_cons (px_add (px_str 2) (px_var 0 (pv 0))) (pxs_cons (px_add (px_add (px_var 0 (pv 0)) (px_str 1)) (px_var 0 (pv 0))) (pxs_cons (px_add (px_add (px_var 0 (pv 0)) (px_str 5)) (px_var 0 (pv 0))) pxs_nil))))))))))
      (pss_cons (ps_set (i := 1) scBH.nd rfl (Or.inl rfl) (pe_op op_cat (pv 1) (pe_lst (pxs_cons (px_add (px_add (px_var 0 (pv 0)) (px_str 4)) (px_var 0 (pv 0))) (pxs_cons (px_add (px_add (px_var 0 (pv 0)) (px_str 4)) (px_var 0 (pv 0))) (pxs_cons (px_add (px_str 1) (px_var 0 (pv 0))) (pxs_cons (px_add (px_var 0 (pv 0)) (px_str 1)) (pxs_cons (px_add (px_add (px_var 0 (pv 0)) (px_str 1)) (px_var 0 (pv 0))) pxs_nil))))))))
      (pss_cons (ps_set (i := 1) scBH.nd rfl (Or.inl rfl) (pe_op op_cat (pv 1) (pe_lst (pxs_cons (px_add (px_var 0 (pv 0)) (px_str 3)) (pxs_cons (px_add (px_var 0 (pv 0)) (px_str 1)) (pxs_cons (px_str 1) (pxs_cons (px_mul 13 mul13) (pxs_cons (px_str 17) (pxs_cons (px_add (px_var 0 (pv 0)) (px_str 1)) (pxs_cons (px_str 1) (pxs_cons (px_add (px_var 0 (pv 0)) (px_str 5)) pxs_nil)))))))))))
      (pss_one (ps_ret (pv 1))))), ?_⟩
    refine ⟨⟨hw, trivial, trivial⟩, bh0 w, rfl, few (by show 8 ≤ _; omega), fun l0 hl0 => ?_⟩
    have S0 := same_upd (o := .lst ((bh0 w).map V.str)) hl0
    have g0 : upd H l0 (.lst ((bh0 w).map V.str)) l0 = some (.lst ((bh0 w).map V.str)) := upd_same
    generalize upd H l0 (.lst ((bh0 w).map V.str)) = H0 at S0 g0
    refine ⟨_, rfl, ⟨hw, trivial, trivial⟩, bh1 w, rfl, few (by show 5 ≤ _; omega), fun a1 ha1 => ?_⟩
    have T1 := same_upd (o := .lst ((bh1 w).map V.str)) ha1
    refine ⟨l0, a1, _, _, rfl, rfl, T1 _ _ g0, upd_same, few (by show 13 ≤ _; omega), fun l1 hl1 => ?_⟩
    rw [← List.map_append]
    have S1 := (S0.trans T1).trans (same_upd (o := .lst (((bh0 w) ++ bh1 w).map V.str)) hl1)
    have g1 : upd (upd H0 a1 (.lst ((bh1 w).map V.str))) l1 (.lst (((bh0 w) ++ bh1 w).map V.str)) l1 = some (.lst (((bh0 w) ++ bh1 w).map V.str)) := upd_same
    generalize upd (upd H0 a1 (.lst ((bh1 w).map V.str))) l1 (.lst (((bh0 w) ++ bh1 w).map V.str)) = H1 at S1 g1
    refine ⟨_, rfl, ⟨hw, trivial, trivial⟩, bh2 w, rfl, few (by show 8 ≤ _; omega), fun a2 ha2 => ?_⟩
    have T2 := same_upd (o := .lst ((bh2 w).map V.str)) ha2
    refine ⟨l1, a2, _, _, rfl, rfl, T2 _ _ g1, upd_same, few (by show 21 ≤ _; omega), fun l2 hl2 => ?_⟩
    rw [← List.map_append]
    have S2 := (S1.trans T2).trans (same_upd (o := .lst ((((bh0 w) ++ bh1 w) ++ bh2 w).map V.str)) hl2)
    have g2 : upd (upd H1 a2 (.lst ((bh2 w).map V.str))) l2 (.lst ((((bh0 w) ++ bh1 w) ++ bh2 w).map V.str)) l2 = some (.lst ((((bh0 w) ++ bh1 w) ++ bh2 w).map V.str)) := upd_same
    generalize upd (upd H1 a2 (.lst ((bh2 w).map V.str))) l2 (.lst ((((bh0 w) ++ bh1 w) ++ bh2 w).map V.str)) = H2 at S2 g2
    exact ⟨_, rfl, q _ l2 S2 g2⟩
def spBL : Sp := fun vs H Q _ => ∃ w o : Str, vs = [.str w, .str o] ∧ w.length ≤ 100 ∧ o.length ≤ 100 ∧ upO o = some (upS o) ∧ ∀ (H' : Hp) (p : Addr), Same H H' → H' p = some (.lst ((bl w o).map V.str)) → Q (.ref p) H'
theorem scBL : FnScope ["word", "other", "rows"] ["word", "other"] (defScope sBL) := ⟨rfl, rfl, rfl, by decide +kernel, rfl, by decide +kernel, by decide +kernel⟩
theorem ok_bl {f : Addr} {fd : FuncData} (F : Fun K "_law_bad_lines" "_law_bad_lines" sBL f fd) : FnOk P w K mg base CX0 1 f fd ["word", "other"] spBL := by
  refine F.ok scBL (fun vs H Q E h => ?_) (fun cdv A outer s H vs Q E hr h => ?_)
  · obtain ⟨w, o, rfl, _⟩ := h
    rfl
  · obtain ⟨w, o, rfl, hw, ho, hu, q⟩ := h
    refine ⟨_, pss_cons (ps_set (i := 2) scBL.nd rfl (Or.inl rfl) (pe_lst (pxs_cons (px_str 1) (pxs_cons (px_str 1) (pxs_cons (px_str 2) (pxs_cons (px_str 3) (pxs_cons (px_add (px_add (px_str 2) (px_var 1 (pv 1))) (px_str 2)) (pxs_cons (px_add (px_add (px_str 4) (px_var 1 (pv 1))) (px_str 2)) (pxs_cons (px_add (px_str 3) (px_var 1 (pv 1))) (pxs_cons (px_add (px_add (px_str 3) (px_var 1 (pv 1))) (px_str 1)) pxs_nil))))))))))
      (pss_cons (ps_set (i := 2) scBL.nd rfl (Or.inl rfl) (pe_op op_cat (pv 2) (pe_lst (pxs_cons (px_add (px_add (px_str 3) (px_var 1 (pv 1))) (px_str 3)) (pxs_cons (px_add (px_add (px_str 3) (px_var 1 (pv 1))) (px_str 3)) (pxs_cons (px_add (px_add (px_str 3) (px_var 1 (pv 1))) (px_str 5)) (pxs_cons (px_add (px_add (px_str 3) (px_var 1 (pv 1))) (px_str 5)) pxs_nil)))))))
      (pss_cons (ps_set (i := 2) scBL.nd rfl (Or.inl rfl) (pe_op op_cat (pv 2) (pe_lst (pxs_cons (px_add (px_add (px_str 3) (px_var 1 (pv 1))) (px_str 2)) (pxs_cons (px_add (px_add (px_str 3) (px_var 1 (pv 1))) (px_str 3)) (pxs_cons (px_add (px_add (px_str 3) (px_var 1 (pv 1))) (px_str 3)) (pxs_cons (px_add (px_add (px_str 3) (px_var 1 (pv 1))) (px_str 3)) pxs_nil)))))))
      (pss_cons (ps_set (i := 2) scBL.nd rfl (Or.inl rfl) (pe_op op_cat (pv 2) (pe_lst (pxs_cons (px_add (px_add (px_str 3) (px_var 1 (pv 1))) (px_str 3)) (pxs_cons (px_add (px_add (px_str 3) (px_var 1 (pv 1))) (px_str 4)) (pxs_cons (px_add (px_add (px_str 3) (px_var 1 (pv 1))) (px_str 2)) (pxs_cons (px_add (px_add (px_str 3) (px_var 1 (pv 1))) (px_str 4)) pxs_nil)))))))
      (pss_cons (ps_set (i := 2) scBL.nd rfl (Or.inl rfl) (pe_op op_cat (pv 2) (pe_lst (pxs_cons (px_add (px_add (px_str 3) (px_var 1 (pv 1))) (px_str 4)) (pxs_cons (px_add (px_add (px_str 4) (px_var 1 (pv 1))) (px_str 2)) (pxs_cons (px_add (px_add (px_str 3) (px_var 1 (pv 1))) (px_str 3)) (pxs_cons (px_add (px_add (px_str 4) (px_var 1 (pv 1))) (px_str 2)) pxs_nil)))))))
      (pss_cons (ps_set (i := 2) scBL.nd rfl (Or.inl rfl) (pe_op op_cat (pv 2) (pe_lst (pxs_cons (px_add (px_add (px_str 4) (px_var 1 (pv 1))) (px_str 2)) (pxs_cons (px_add (px_add (px_str 4) (px_var 1 (pv 1))) (px_str 2)) (pxs_cons (px_add (px_add (px_str 4) (px_var 1 (pv 1))) (px_str 2)) (pxs_cons (px_add (px_add (px_str 3) (px_var 1 (pv 1))) (px_str 2)) pxs_nil)))))))
      (pss_cons (ps_set (i := 2) scBL.nd rfl (Or.inl rfl) (pe_op op_cat (pv 2) (pe_lst (pxs_cons (px_add (px_add (px_str 3) (px_var 0 (pv 0))) (px_str 2)) (pxs_cons (px_str 6) (pxs_cons (px_add (px_add (px_str 3) (px_var 1 (pv 1))) (px_str 6)) (pxs_cons (px_add (px_add (px_str 3) (px_var 1 (pv 1))) (px_str 4)) (pxs_cons (px_str 8) pxs_nil))))))))
      (pss_cons (ps_set (i := 2) scBL.nd rfl (Or.inl rfl) (pe_op op_cat (pv 2) (pe_lst (pxs_cons (px_add (px_add (px_add (px_add (px_str 3) (px_var 1 (pv 1))) (px_str 4)) (px_var 1 (pv 1))) (px_str 2)) (pxs_cons (px_add (px_add (px_str 3) (px_var 1 (pv 1))) (px_str 7)) (pxs_cons (px_add (px_add (px_str 3) (px_var 1 (pv 1))) (px_str 9)) pxs_nil))))))
      (pss_cons (ps_set (i := 2) scBL.nd rfl (Or.inl rfl) (pe_op op_cat (pv 2) (pe_lst (pxs_cons (px_add (px_add (px_str 3) (px_up (px_var 1 (pv 1)))) (px_str 2)) (pxs_cons (px_add (px_add (px_str 3) (px_mul 13 mul13)) (px_str 2)) (pxs_cons (px_add (px_add (px_str 3) (px_var 1 (pv 1))) (px_str 3)) (pxs_cons (px_add (px_add (px_str 3) (px_var 1 (pv 1))) (px_str 1)) pxs_nil)))))))
      (pss_cons (ps_set (i := 2) scBL.nd rfl (Or.inl rfl) (pe_op op_cat (pv 2) (pe_lst (pxs_cons (px_add (px_add (px_str 3) (px_var 1 (pv 1))) (px_str 3)) (pxs_cons (px_add (px_add (px_add (px_add (px_str 3) (px_var 1 (pv 1))) (px_str 6)) (px_var 1 (pv 1))) (px_str 2)) (pxs_cons (px_add (px_add (px_str 10) (px_var 1 (pv 1))) (px_str 2)) pxs_nil))))))
      (pss_cons (ps_set (i := 2) scBL.nd rfl (Or.inl rfl) (pe_op op_cat (pv 2) (pe_lst (pxs_cons (px_add (px_add (px_str 11) (px_var 1 (pv 1))) (px_str 2)) (pxs_cons (px_str 21) (pxs_cons (px_add (px_add (px_str 7) (px_var 1 (pv 1))) (px_str 2)) pxs_nil))))))
      (pss_one (ps_ret (pv 2))))))))))))), ?_⟩
    refine ⟨⟨hw, ho, trivial, trivial⟩, bl0 w o, rfl, few (by show 8 ≤ _; omega), fun l0 hl0 => ?_⟩
    have S0 := same_upd (o := .lst ((bl0 w o).map V.str)) hl0
    have g0 : upd H l0 (.lst ((bl0 w o).map V.str)) l0 = some (.lst ((bl0 w o).map V.str)) := upd_same
    generalize upd H l0 (.lst ((bl0 w o).map V.str)) = H0 at S0 g0
    refine ⟨_, rfl, ⟨hw, ho, trivial, trivial⟩, bl1 w o, rfl, few (by show 4 ≤ _; omega), fun a1 ha1 => ?_⟩
    have T1 := same_upd (o := .lst ((bl1 w o).map V.str)) ha1
    refine ⟨l0, a1, _, _, rfl, rfl, T1 _ _ g0, upd_same, few (by show 12 ≤ _; omega), fun l1 hl1 => ?_⟩
    rw [← List.map_append]
    have S1 := (S0.trans T1).trans (same_upd (o := .lst (((bl0 w o) ++ bl1 w o).map V.str)) hl1)
    have g1 : upd (upd H0 a1 (.lst ((bl1 w o).map V.str))) l1 (.lst (((bl0 w o) ++ bl1 w o).map V.str)) l1 = some (.lst (((bl0 w o) ++ bl1 w o).map V.str)) := upd_same
    generalize upd (upd H0 a1 (.lst ((bl1 w o).map V.str))) l1 (.lst (((bl0 w o) ++ bl1 w o).map V.str)) = H1 at S1 g1
    refine ⟨_, rfl, ⟨hw, ho, trivial, trivial⟩, bl2 w o, rfl, few (by show 4 ≤ _; omega), fun a2 ha2 => ?_⟩
    have T2 := same_upd (o := .lst ((bl2 w o).map V.str)) ha2
    refine ⟨l1, a2, _, _, rfl, rfl, T2 _ _ g1, upd_same, few (by show 16 ≤ _; omega), fun l2 hl2 => ?_⟩
    rw [← List.map_append]
    have S2 := (S1.trans T2).trans (same_upd (o := .lst ((((bl0 w o) ++ bl1 w o) ++ bl2 w o).map V.str)) hl2)
    have g2 : upd (upd H1 a2 (.lst ((bl2 w o).map V.str))) l2 (.lst ((((bl0 w o) ++ bl1 w o) ++ bl2 w o).map V.str)) l2 = some (.lst ((((bl0 w o) ++ bl1 w o) ++ bl2 w o).map V.str)) := upd_same
    generalize upd (upd H1 a2 (.lst ((bl2 w o).map V.str))) l2 (.lst ((((bl0 w o) ++ bl1 w o) ++ bl2 w o).map V.str)) = H2 at S2 g2
    refine ⟨_, rfl, ⟨hw, ho, trivial, trivial⟩, bl3 w o, rfl, few (by show 4 ≤ _; omega), fun a3 ha3 => ?_⟩
    have T3 := same_upd (o := .lst ((bl3 w o).map V.str)) ha3
    refine ⟨l2, a3, _, _, rfl, rfl, T3 _ _ g2, upd_same, few (by show 20 ≤ _; omega), fun l3 hl3 => ?_⟩
    rw [← List.map_append]
    have S3 := (S2.trans T3).trans (same_upd (o := .lst (((((bl0 w o) ++ bl1 w o) ++ bl2 w o) ++ bl3 w o).map V.str)) hl3)
    have g3 : upd (upd H2 a3 (.lst ((bl3 w o).map V.str))) l3 (.lst (((((bl0 w o) ++ bl1 w o) ++ bl2 w o) ++ bl3 w o).map V.str)) l3 = some (.lst (((((bl0 w o) ++ bl1 w o) ++ bl2 w o) ++ bl3 w o).map V.str)) := upd_same
    generalize upd (upd H2 a3 (.lst ((bl3 w o).map V.str))) l3 (.lst (((((bl0 w o) ++ bl1 w o) ++ bl2 w o) ++ bl3 w o).map V.str)) = H3 at S3 g3
    refine ⟨_, rfl, ⟨hw, ho, trivial, trivial⟩, bl4 w o, rfl, few (by show 4 ≤ _; omega), fun a4 ha4 => ?_⟩
    have T4 := same_upd (o := .lst ((bl4 w o).map V.str)) ha4
    refine ⟨l3, a4, _, _, rfl, rfl, T4 _ _ g3, upd_same, few (by show 24 ≤ _; omega), fun l4 hl4 => ?_⟩
    rw [← List.map_append]
    have S4 := (S3.trans T4).trans (same_upd (o := .lst ((((((bl0 w o) ++ bl1 w o) ++ bl2 w o) ++ bl3 w o) ++ bl4 w o).map V.str)) hl4)
    have g4 : upd (upd H3 a4 (.lst ((bl4 w o).map V.str))) l4 (.lst ((((((bl0 w o) ++ bl1 w o) ++ bl2 w o) ++ bl3 w o) ++ bl4 w o).map V.str)) l4 = some (.lst ((((((bl0 w o) ++ bl1 w o) ++ bl2 w o) ++ bl3 w o) ++ bl4 w o).map V.str)) := upd_same
    generalize upd (upd H3 a4 (.lst ((bl4 w o).map V.str))) l4 (.lst ((((((bl0 w o) ++ bl1 w o) ++ bl2 w o) ++ bl3 w o) ++ bl4 w o).map V.str)) = H4 at S4 g4
    refine ⟨_, rfl, ⟨hw, ho, trivial, trivial⟩, bl5 w o, rfl, few (by show 4 ≤ _; omega), fun a5 ha5 => ?_⟩
    have T5 := same_upd (o := .lst ((bl5 w o).map V.str)) ha5
    refine ⟨l4, a5, _, _, rfl, rfl, T5 _ _ g4, upd_same, few (by show 28 ≤ _; omega), fun l5 hl5 => ?_⟩
    rw [← List.map_append]
    have S5 := (S4.trans T5).trans (same_upd (o := .lst (((((((bl0 w o) ++ bl1 w o) ++ bl2 w o) ++ bl3 w o) ++ bl4 w o) ++ bl5 w o).map V.str)) hl5)
    have g5 : upd (upd H4 a5 (.lst ((bl5 w o).map V.str))) l5 (.lst (((((((bl0 w o) ++ bl1 w o) ++ bl2 w o) ++ bl3 w o) ++ bl4 w o) ++ bl5 w o).map V.str)) l5 = some (.lst (((((((bl0 w o) ++ bl1 w o) ++ bl2 w o) ++ bl3 w o) ++ bl4 w o) ++ bl5 w o).map V.str)) := upd_same
    generalize upd (upd H4 a5 (.lst ((bl5 w o).map V.str))) l5 (.lst (((((((bl0 w o) ++ bl1 w o) ++ bl2 w o) ++ bl3 w o) ++ bl4 w o) ++ bl5 w o).map V.str)) = H5 at S5 g5
    refine ⟨_, rfl, ⟨hw, ho, trivial, trivial⟩, bl6 w o, rfl, few (by show 5 ≤ _; omega), fun a6 ha6 => ?_⟩
    have T6 := same_upd (o := .lst ((bl6 w o).map V.str)) ha6
    refine ⟨l5, a6, _, _, rfl, rfl, T6 _ _ g5, upd_same, few (by show 33 ≤ _; omega), fun l6 hl6 => ?_⟩
    rw [← List.map_append]
    have S6 := (S5.trans T6).trans (same_upd (o := .lst ((((((((bl0 w o) ++ bl1 w o) ++ bl2 w o) ++ bl3 w o) ++ bl4 w o) ++ bl5 w o) ++ bl6 w o).map V.str)) hl6)
    have g6 : upd (upd H5 a6 (.lst ((bl6 w o).map V.str))) l6 (.lst ((((((((bl0 w o) ++ bl1 w o) ++ bl2 w o) ++ bl3 w o) ++ bl4 w o) ++ bl5 w o) ++ bl6 w o).map V.str)) l6 = some (.lst ((((((((bl0 w o) ++ bl1 w o) ++ bl2 w o) ++ bl3 w o) ++ bl4 w o) ++ bl5 w o) ++ bl6 w o).map V.str)) := upd_same
    generalize upd (upd H5 a6 (.lst ((bl6 w o).map V.str))) l6 (.lst ((((((((bl0 w o) ++ bl1 w o) ++ bl2 w o) ++ bl3 w o) ++ bl4 w o) ++ bl5 w o) ++ bl6 w o).map V.str)) = H6 at S6 g6
    refine ⟨_, rfl, ⟨hw, ho, trivial, trivial⟩, bl7 w o, rfl, few (by show 3 ≤ _; omega), fun a7 ha7 => ?_⟩
    have T7 := same_upd (o := .lst ((bl7 w o).map V.str)) ha7
    refine ⟨l6, a7, _, _, rfl, rfl, T7 _ _ g6, upd_same, few (by show 36 ≤ _; omega), fun l7 hl7 => ?_⟩
    rw [← List.map_append]
    have S7 := (S6.trans T7).trans (same_upd (o := .lst (((((((((bl0 w o) ++ bl1 w o) ++ bl2 w o) ++ bl3 w o) ++ bl4 w o) ++ bl5 w o) ++ bl6 w o) ++ bl7 w o).map V.str)) hl7)
    have g7 : upd (upd H6 a7 (.lst ((bl7 w o).map V.str))) l7 (.lst (((((((((bl0 w o) ++ bl1 w o) ++ bl2 w o) ++ bl3 w o) ++ bl4 w o) ++ bl5 w o) ++ bl6 w o) ++ bl7 w o).map V.str)) l7 = some (.lst (((((((((bl0 w o) ++ bl1 w o) ++ bl2 w o) ++ bl3 w o) ++ bl4 w o) ++ bl5 w o) ++ bl6 w o) ++ bl7 w o).map V.str)) := upd_same
    generalize upd (upd H6 a7 (.lst ((bl7 w o).map V.str))) l7 (.lst (((((((((bl0 w o) ++ bl1 w o) ++ bl2 w o) ++ bl3 w o) ++ bl4 w o) ++ bl5 w o) ++ bl6 w o) ++ bl7 w o).map V.str)) = H7 at S7 g7
    have key : ∀ u : Option Str, u = some (upS o) → ((((some (Str.ofString "0: ")).bind fun x => u.map fun y => x ++ y).bind fun x => (some (Str.ofString " 1")).map fun y => x ++ y).bind fun z => (some (bl8 w o).tail).map fun zs => z :: zs) = some (bl8 w o) := fun u hu => by rw [hu]; rfl
    refine ⟨_, rfl, ⟨hw, ho, trivial, trivial⟩, bl8 w o, key _ hu, few (by show 4 ≤ _; omega), fun a8 ha8 => ?_⟩
    have T8 := same_upd (o := .lst ((bl8 w o).map V.str)) ha8
    refine ⟨l7, a8, _, _, rfl, rfl, T8 _ _ g7, upd_same, few (by show 40 ≤ _; omega), fun l8 hl8 => ?_⟩
    rw [← List.map_append]
    have S8 := (S7.trans T8).trans (same_upd (o := .lst ((((((((((bl0 w o) ++ bl1 w o) ++ bl2 w o) ++ bl3 w o) ++ bl4 w o) ++ bl5 w o) ++ bl6 w o) ++ bl7 w o) ++ bl8 w o).map V.str)) hl8)
    have g8 : upd (upd H7 a8 (.lst ((bl8 w o).map V.str))) l8 (.lst ((((((((((bl0 w o) ++ bl1 w o) ++ bl2 w o) ++ bl3 w o) ++ bl4 w o) ++ bl5 w o) ++ bl6 w o) ++ bl7 w o) ++ bl8 w o).map V.str)) l8 = some (.lst ((((((((((bl0 w o) ++ bl1 w o) ++ bl2 w o) ++ bl3 w o) ++ bl4 w o) ++ bl5 w o) ++ bl6 w o) ++ bl7 w o) ++ bl8 w o).map V.str)) := upd_same
    generalize upd (upd H7 a8 (.lst ((bl8 w o).map V.str))) l8 (.lst ((((((((((bl0 w o) ++ bl1 w o) ++ bl2 w o) ++ bl3 w o) ++ bl4 w o) ++ bl5 w o) ++ bl6 w o) ++ bl7 w o) ++ bl8 w o).map V.str)) = H8 at S8 g8
    refine ⟨_, rfl, ⟨hw, ho, trivial, trivial⟩, bl9 w o, rfl, few (by show 3 ≤ _; omega), fun a9 ha9 => ?_⟩
    have T9 := same_upd (o := .lst ((bl9 w o).map V.str)) ha9
    refine ⟨l8, a9, _, _, rfl, rfl, T9 _ _ g8, upd_same, few (by show 43 ≤ _; omega), fun l9 hl9 => ?_⟩
    rw [← List.map_append]
    have S9 := (S8.trans T9).trans (same_upd (o := .lst (((((((((((bl0 w o) ++ bl1 w o) ++ bl2 w o) ++ bl3 w o) ++ bl4 w o) ++ bl5 w o) ++ bl6 w o) ++ bl7 w o) ++ bl8 w o) ++ bl9 w o).map V.str)) hl9)
    have g9 : upd (upd H8 a9 (.lst ((bl9 w o).map V.str))) l9 (.lst (((((((((((bl0 w o) ++ bl1 w o) ++ bl2 w o) ++ bl3 w o) ++ bl4 w o) ++ bl5 w o) ++ bl6 w o) ++ bl7 w o) ++ bl8 w o) ++ bl9 w o).map V.str)) l9 = some (.lst (((((((((((bl0 w o) ++ bl1 w o) ++ bl2 w o) ++ bl3 w o) ++ bl4 w o) ++ bl5 w o) ++ bl6 w o) ++ bl7 w o) ++ bl8 w o) ++ bl9 w o).map V.str)) := upd_same
    generalize upd (upd H8 a9 (.lst ((bl9 w o).map V.str))) l9 (.lst (((((((((((bl0 w o) ++ bl1 w o) ++ bl2 w o) ++ bl3 w o) ++ bl4 w o) ++ bl5 w o) ++ bl6 w o) ++ bl7 w o) ++ bl8 w o) ++ bl9 w o).map V.str)) = H9 at S9 g9
    refine ⟨_, rfl, ⟨hw, ho, trivial, trivial⟩, bl10 w o, rfl, few (by show 3 ≤ _; omega), fun a10 ha10 => ?_⟩
    have T10 := same_upd (o := .lst ((bl10 w o).map V.str)) ha10
    refine ⟨l9, a10, _, _, rfl, rfl, T10 _ _ g9, upd_same, few (by show 46 ≤ _; omega), fun l10 hl10 => ?_⟩
    rw [← List.map_append]
    have S10 := (S9.trans T10).trans (same_upd (o := .lst ((((((((((((bl0 w o) ++ bl1 w o) ++ bl2 w o) ++ bl3 w o) ++ bl4 w o) ++ bl5 w o) ++ bl6 w o) ++ bl7 w o) ++ bl8 w o) ++ bl9 w o) ++ bl10 w o).map V.str)) hl10)
    have g10 : upd (upd H9 a10 (.lst ((bl10 w o).map V.str))) l10 (.lst ((((((((((((bl0 w o) ++ bl1 w o) ++ bl2 w o) ++ bl3 w o) ++ bl4 w o) ++ bl5 w o) ++ bl6 w o) ++ bl7 w o) ++ bl8 w o) ++ bl9 w o) ++ bl10 w o).map V.str)) l10 = some (.lst ((((((((((((bl0 w o) ++ bl1 w o) ++ bl2 w o) ++ bl3 w o) ++ bl4 w o) ++ bl5 w o) ++ bl6 w o) ++ bl7 w o) ++ bl8 w o) ++ bl9 w o) ++ bl10 w o).map V.str)) := upd_same
    generalize upd (upd H9 a10 (.lst ((bl10 w o).map V.str))) l10 (.lst ((((((((((((bl0 w o) ++ bl1 w o) ++ bl2 w o) ++ bl3 w o) ++ bl4 w o) ++ bl5 w o) ++ bl6 w o) ++ bl7 w o) ++ bl8 w o) ++ bl9 w o) ++ bl10 w o).map V.str)) = H10 at S10 g10
    exact ⟨_, rfl, q _ l10 S10 g10⟩
section
variable {X : Cx} {e a b : Expr} {es : List Expr} {pos : Pos} {α : Type}
def tMk (At : Hp → Addr → α → Prop) (f : L2.St → Option α) : TE := fun σ H Q => ∃ x, f σ = some x ∧ ∀ (H' : Hp) (t : Addr), Same H H' → At H' t x → Q (.ref t) H'
def tMks (At : Hp → Addr → α → Prop) (fs : L2.St → Option (List α)) : TA := fun σ H Q => ∃ xs, fs σ = some xs ∧ ∀ (H' : Hp) (ts : List (Addr × α)), Same H H' → (∀ y ∈ ts, At H' y.1 y.2) → (ts.map fun y => y.2) = xs → Q (ts.map fun y => V.ref y.1) H'
def tV (g : L2.St → Option V) : TE := fun σ H Q => ∃ v, g σ = some v ∧ Q v H
def tI (g : L2.St → Option Int) : TE := fun σ H Q => ∃ v, g σ = some v ∧ Q (.int v) H
def tIs (g : L2.St → Option (List Int)) : TA := fun σ H Q => ∃ v, g σ = some v ∧ Q (v.map V.int) H
def bothO {α β γ : Type} (h : α → β → γ) (f : L2.St → Option α) (g : L2.St → Option β) : L2.St → Option γ := fun σ => (f σ).bind fun x => (g σ).map fun y => h x y
theorem both_of {α β γ : Type} {h : α → β → γ} {f : L2.St → Option α} {g : L2.St → Option β} {σ : L2.St} {z : γ} (e : bothO h f g σ = some z) : ∃ x y, f σ = some x ∧ g σ = some y ∧ z = h x y := by
  unfold bothO at e
  cases e1 : f σ with
  | none => rw [e1] at e; cases e
  | some x =>
    rw [e1] at e
    cases e2 : g σ with
    | none => rw [e2] at e; cases e
    | some y => rw [e2] at e; cases e; exact ⟨x, y, rfl, rfl, rfl⟩
def valAt (i : Nat) (σ : L2.St) : Option V := (σ[i]?).bind id
def intAt (i : Nat) (σ : L2.St) : Option Int := match σ[i]? with
  | some (some (.int n)) => some n
  | _ => none
def cV : L2.St → Option V := fun _ => some .non
def cI (n : Int) : L2.St → Option Int := fun _ => some n
def nI : L2.St → Option (List Int) := fun _ => some []
theorem v_non {j} {pos : Pos} : PE X (.Constant .none j pos) (tV cV) := pe_weak pe_non fun σ H Q ⟨v, e, q⟩ => by cases e; exact q
theorem v_var (i : Nat) (h : PE X e (tVar i)) : PE X e (tV (valAt i)) := pe_weak h fun σ H Q ⟨v, e, q⟩ => ⟨v, by
  unfold valAt at e
  cases e1 : σ[i]? with
  | none => rw [e1] at e; cases e
  | some o =>
    rw [e1] at e
    have e : o = some v := e
    rw [e], q⟩
theorem i_int {n : Int} {j} {pos : Pos} : PE X (.Constant (.int n) j pos) (tI (cI n)) := pe_weak pe_int fun σ H Q ⟨v, e, q⟩ => by cases e; exact q
theorem i_var (i : Nat) (h : PE X e (tVar i)) : PE X e (tI (intAt i)) := pe_weak h fun σ H Q ⟨v, e, q⟩ => ⟨.int v, by
  unfold intAt at e
  split at e
  · next e1 => cases e; exact e1
  · exact absurd e (fun e => (nomatch e)), q⟩
theorem is_nil : PA X [] (tIs nI) := pa_weak pa_nil fun σ H Q ⟨v, e, q⟩ => by cases e; exact q
theorem is_cons {f : L2.St → Option Int} {g : L2.St → Option (List Int)} (ha : PE X e (tI f)) (hr : PA X es (tIs g)) (hs : starEach (e :: es) X.env = (false, eval e X.env) :: starEach es X.env := by rfl) : PA X (e :: es) (tIs (bothO List.cons f g)) :=
  pa_weak (pa_cons ha hr hs) fun σ H Q ⟨v, e, q⟩ => by
    obtain ⟨x, y, e1, e2, rfl⟩ := both_of e
    exact ⟨x, e1, y, e2, q⟩
theorem mks_nil {At : Hp → Addr → α → Prop} : PA X [] (tMks At fun _ => some []) := pa_weak pa_nil fun σ H Q ⟨v, e, q⟩ => by cases e; exact q H [] (Same.refl H) (fun _ z => nomatch z) rfl
theorem mks_cons {At : Hp → Addr → α → Prop} {f : L2.St → Option α} {g : L2.St → Option (List α)} (mono : ∀ (H H' : Hp) (t : Addr) (x : α), Same H H' → At H t x → At H' t x) (ha : PE X e (tMk At f)) (hr : PA X es (tMks At g)) (hs : starEach (e :: es) X.env = (false, eval e X.env) :: starEach es X.env := by rfl) : PA X (e :: es) (tMks At (bothO List.cons f g)) :=
  pa_weak (pa_cons ha hr hs) fun σ H Q ⟨v, e, q⟩ => by
    obtain ⟨x, y, e1, e2, rfl⟩ := both_of e
    refine ⟨x, e1, fun H1 t S1 h1 => ⟨y, e2, fun H2 ts S2 h2 e3 => q H2 ((t, x) :: ts) (S1.trans S2) (fun u hu => ?_) (by rw [List.map_cons, e3])⟩⟩
    rcases List.mem_cons.mp hu with z | z
    · rw [z]; exact mono _ _ _ _ S2 h1
    · exact h2 u z
def AtL (At : Hp → Addr → α → Prop) (H : Hp) (t : Addr) (xs : List α) : Prop := ∃ ts : List (Addr × α), H t = some (.tup (ts.map fun y => V.ref y.1)) ∧ (∀ y ∈ ts, At H y.1 y.2) ∧ (ts.map fun y => y.2) = xs ∧ xs.length ≤ 20000
theorem AtL.mono {At : Hp → Addr → α → Prop} (mono : ∀ (H H' : Hp) (t : Addr) (x : α), Same H H' → At H t x → At H' t x) {H H' : Hp} {t : Addr} {xs : List α} (S : Same H H') (h : AtL At H t xs) : AtL At H' t xs := by
  obtain ⟨ts, h1, h2, h3, h4⟩ := h
  exact ⟨ts, S _ _ h1, fun y hy => mono _ _ _ _ S (h2 y hy), h3, h4⟩
def fewO {α : Type} (g : L2.St → Option (List α)) : L2.St → Option (List α) := fun σ => (g σ).bind fun xs => if xs.length ≤ 20000 then some xs else none
theorem few_of {α : Type} {g : L2.St → Option (List α)} {σ : L2.St} {xs : List α} (e : fewO g σ = some xs) : g σ = some xs ∧ xs.length ≤ 20000 := by
  unfold fewO at e
  cases e1 : g σ with
  | none => rw [e1] at e; cases e
  | some ys =>
    rw [e1] at e
    have e : (if ys.length ≤ 20000 then some ys else none) = some xs := e
    by_cases h : ys.length ≤ 20000
    · rw [if_pos h] at e; cases e; exact ⟨rfl, h⟩
    · rw [if_neg h] at e; cases e
theorem list_tup {x1} {At : Hp → Addr → α → Prop} {g : L2.St → Option (List α)} (mono : ∀ (H H' : Hp) (t : Addr) (x : α), Same H H' → At H t x → At H' t x) (h : PA X es (tMks At g)) : PE X (.Tuple es x1 pos) (tMk (AtL At) (fewO g)) := pe_weak (pe_tup h) fun σ H Q ⟨xs, e, q⟩ => by
  obtain ⟨e1, hl⟩ := few_of e
  have go : ∀ (H1 : Hp) (ts : List (Addr × α)), Same H H1 → (∀ y ∈ ts, At H1 y.1 y.2) → (ts.map fun y => y.2) = xs → (ts.map fun y => V.ref y.1).length ≤ sizeLine ∧ ∀ t, H1 t = none → Q (.ref t) (upd H1 t (.tup (ts.map fun y => V.ref y.1))) := by
    intro H1 ts S1 h1 e2
    have hz : (ts.map fun y => V.ref y.1).length ≤ sizeLine := by
      have := congrArg List.length e2
      rw [List.length_map] at this ⊢
      exact few (by omega)
    refine ⟨hz, fun t ht => ?_⟩
    have T := same_upd (o := .tup (ts.map fun y => V.ref y.1)) ht
    have hA : AtL At (upd H1 t (.tup (ts.map fun y => V.ref y.1))) t xs := ⟨ts, upd_same, fun y hy => mono _ _ _ _ T (h1 y hy), e2, hl⟩
    exact q _ t (S1.trans T) hA
  exact ⟨xs, e1, go⟩
def AtR (H : Hp) (t : Addr) (rs : List Int) : Prop := H t = some (.tup (rs.map V.int)) ∧ rs.length ≤ 20000
theorem rows_tup {x1} {g : L2.St → Option (List Int)} (h : PA X es (tIs g)) : PE X (.Tuple es x1 pos) (tMk AtR (fewO g)) := pe_weak (pe_tup h) fun σ H Q ⟨xs, e, q⟩ => by
  obtain ⟨e1, hl⟩ := few_of e
  have hz : (xs.map V.int).length ≤ sizeLine := by rw [List.length_map]; exact few (by omega)
  have hq : ∀ t, H t = none → Q (.ref t) (upd H t (.tup (xs.map V.int))) := fun t ht => q _ t (same_upd ht) ⟨upd_same, hl⟩
  exact ⟨xs, e1, hz, hq⟩
def AtG (H : Hp) (t : Addr) (y : RdgZ) : Prop := ∃ r, H t = some (.tup [y.1, .ref r]) ∧ AtR H r y.2
theorem atR_mono {H H' : Hp} {t : Addr} {x : List Int} (S : Same H H') (h : AtR H t x) : AtR H' t x := ⟨S _ _ h.1, h.2⟩
theorem atG_mono {H H' : Hp} {t : Addr} {x : RdgZ} (S : Same H H') (h : AtG H t x) : AtG H' t x := by
  obtain ⟨r, h1, h2⟩ := h
  exact ⟨r, S _ _ h1, atR_mono S h2⟩
theorem rdg_tup {x1} {f : L2.St → Option V} {g : L2.St → Option (List Int)} (ha : PE X a (tV f)) (hb : PE X b (tMk AtR g)) (h1 : starEach [a, b] X.env = (false, eval a X.env) :: starEach [b] X.env := by rfl) (h2 : starEach [b] X.env = (false, eval b X.env) :: starEach [] X.env := by rfl) : PE X (.Tuple [a, b] x1 pos) (tMk AtG (bothO Prod.mk f g)) :=
  pe_weak (pe_tup (pa_cons ha (pa_cons hb pa_nil h2) h1)) fun σ H Q ⟨z, e, q⟩ => by
    obtain ⟨x, y, e1, e2, rfl⟩ := both_of e
    have hz : (2 : Nat) ≤ sizeLine := few (by omega)
    have go : ∀ (H1 : Hp) (r : Addr), Same H H1 → AtR H1 r y → ([x, V.ref r] : List V).length ≤ sizeLine ∧ ∀ t, H1 t = none → Q (.ref t) (upd H1 t (.tup [x, .ref r])) := by
      intro H1 r S1 h1
      refine ⟨hz, fun t ht => ?_⟩
      have T := same_upd (o := .tup [x, .ref r]) ht
      have hA : AtG (upd H1 t (.tup [x, .ref r])) t (x, y) := ⟨r, upd_same, atR_mono T h1⟩
      exact q _ t (S1.trans T) hA
    exact ⟨x, e1, y, e2, go⟩
def AtN (H : Hp) (t : Addr) (n : NoteZ) : Prop := ∃ r, H t = some (.tup [.int n.1, .ref r]) ∧ AtL AtG H r n.2
theorem atN_mono {H H' : Hp} {t : Addr} {x : NoteZ} (S : Same H H') (h : AtN H t x) : AtN H' t x := by
  obtain ⟨r, h1, h2⟩ := h
  exact ⟨r, S _ _ h1, AtL.mono (At := AtG) (fun _ _ _ _ => atG_mono) S h2⟩
theorem note_tup {x1} {f : L2.St → Option Int} {g : L2.St → Option (List RdgZ)} (ha : PE X a (tI f)) (hb : PE X b (tMk (AtL AtG) g)) (h1 : starEach [a, b] X.env = (false, eval a X.env) :: starEach [b] X.env := by rfl) (h2 : starEach [b] X.env = (false, eval b X.env) :: starEach [] X.env := by rfl) : PE X (.Tuple [a, b] x1 pos) (tMk AtN (bothO Prod.mk f g)) :=
  pe_weak (pe_tup (pa_cons ha (pa_cons hb pa_nil h2) h1)) fun σ H Q ⟨z, e, q⟩ => by
    obtain ⟨x, y, e1, e2, rfl⟩ := both_of e
    have hz : (2 : Nat) ≤ sizeLine := few (by omega)
    have go : ∀ (H1 : Hp) (r : Addr), Same H H1 → AtL AtG H1 r y → ([V.int x, V.ref r] : List V).length ≤ sizeLine ∧ ∀ t, H1 t = none → Q (.ref t) (upd H1 t (.tup [.int x, .ref r])) := by
      intro H1 r S1 h1
      refine ⟨hz, fun t ht => ?_⟩
      have T := same_upd (o := .tup [.int x, .ref r]) ht
      have hA : AtN (upd H1 t (.tup [.int x, .ref r])) t (x, y) := ⟨r, upd_same, AtL.mono (At := AtG) (fun _ _ _ _ => atG_mono) T h1⟩
      exact q _ t (S1.trans T) hA
    exact ⟨x, e1, y, e2, go⟩
theorem atNs_mono {H H' : Hp} {t : Addr} {x : List NoteZ} (S : Same H H') (h : AtL AtN H t x) : AtL AtN H' t x := AtL.mono (At := AtN) (fun _ _ _ _ => atN_mono) S h
end
def tRw (f : L2.St → Option (List Int)) : TE := tMk AtR f
def tGm (f : L2.St → Option RdgZ) : TE := tMk AtG f
def tGms (f : L2.St → Option (List RdgZ)) : TA := tMks AtG f
def tGl (f : L2.St → Option (List RdgZ)) : TE := tMk (AtL AtG) f
def tNm (f : L2.St → Option NoteZ) : TE := tMk AtN f
def tNms (f : L2.St → Option (List NoteZ)) : TA := tMks AtN f
def tNl (f : L2.St → Option (List NoteZ)) : TE := tMk (AtL AtN) f
def tWs (f : L2.St → Option (List (List NoteZ))) : TA := tMks (AtL AtN) f
def nG : L2.St → Option (List RdgZ) := fun _ => some []
def nN : L2.St → Option (List NoteZ) := fun _ => some []
def nW : L2.St → Option (List (List NoteZ)) := fun _ => some []
def coI (f : L2.St → Option Int) (g : L2.St → Option (List Int)) : L2.St → Option (List Int) := bothO List.cons f g
def coG (f : L2.St → Option RdgZ) (g : L2.St → Option (List RdgZ)) : L2.St → Option (List RdgZ) := bothO List.cons f g
def coN (f : L2.St → Option NoteZ) (g : L2.St → Option (List NoteZ)) : L2.St → Option (List NoteZ) := bothO List.cons f g
def coW (f : L2.St → Option (List NoteZ)) (g : L2.St → Option (List (List NoteZ))) : L2.St → Option (List (List NoteZ)) := bothO List.cons f g
def mkG (f : L2.St → Option V) (g : L2.St → Option (List Int)) : L2.St → Option RdgZ := bothO Prod.mk f g
def mkN (f : L2.St → Option Int) (g : L2.St → Option (List RdgZ)) : L2.St → Option NoteZ := bothO Prod.mk f g
def fwI (f : L2.St → Option (List Int)) : L2.St → Option (List Int) := fewO f
def fwG (f : L2.St → Option (List RdgZ)) : L2.St → Option (List RdgZ) := fewO f
def fwN (f : L2.St → Option (List NoteZ)) : L2.St → Option (List NoteZ) := fewO f
structure QE (X : Cx) (e : Expr) (t : TE) : Prop where
  pe : PE X e t
structure QA (X : Cx) (es : List Expr) (t : TA) : Prop where
  pa : PA X es t
section
variable {X : Cx} {e a b : Expr} {es : List Expr} {pos : Pos} {k : Nat}
theorem qi_int {n : Int} {j} {pos : Pos} : QE X (.Constant (.int n) j pos) (tI (cI n)) := ⟨i_int⟩
theorem qi_var (i : Nat) (h : QE X e (tVar i)) : QE X e (tI (intAt i)) := ⟨i_var i h.pe⟩
theorem qv_non {j} {pos : Pos} : QE X (.Constant .none j pos) (tV cV) := ⟨v_non⟩
theorem qv_var (i : Nat) (h : QE X e (tVar i)) : QE X e (tV (valAt i)) := ⟨v_var i h.pe⟩
theorem qi_nil : QA X [] (tIs nI) := ⟨is_nil⟩
theorem i_cons {f : L2.St → Option Int} {g : L2.St → Option (List Int)} (ha : QE X e (tI f)) (hr : QA X es (tIs g)) (hs : starEach (e :: es) X.env = (false, eval e X.env) :: starEach es X.env) : QA X (e :: es) (tIs (coI f g)) := ⟨is_cons ha.pe hr.pa hs⟩
theorem r_tup {g : L2.St → Option (List Int)} (h : QA X es (tIs g)) : QE X (.Tuple es k pos) (tRw (fwI g)) := ⟨rows_tup h.pa⟩
theorem rg_tup {f : L2.St → Option V} {g : L2.St → Option (List Int)} (ha : QE X a (tV f)) (hb : QE X b (tRw g)) (h1 : starEach [a, b] X.env = (false, eval a X.env) :: starEach [b] X.env) (h2 : starEach [b] X.env = (false, eval b X.env) :: starEach [] X.env) : QE X (.Tuple [a, b] k pos) (tGm (mkG f g)) := ⟨rdg_tup ha.pe hb.pe h1 h2⟩
theorem g_nil : QA X [] (tGms nG) := ⟨mks_nil⟩
theorem g_cons {f : L2.St → Option RdgZ} {g : L2.St → Option (List RdgZ)} (ha : QE X e (tGm f)) (hr : QA X es (tGms g)) (hs : starEach (e :: es) X.env = (false, eval e X.env) :: starEach es X.env) : QA X (e :: es) (tGms (coG f g)) := ⟨mks_cons (fun _ _ _ _ => atG_mono) ha.pe hr.pa hs⟩
theorem g_tup {g : L2.St → Option (List RdgZ)} (h : QA X es (tGms g)) : QE X (.Tuple es k pos) (tGl (fwG g)) := ⟨list_tup (fun _ _ _ _ => atG_mono) h.pa⟩
theorem nt_tup {f : L2.St → Option Int} {g : L2.St → Option (List RdgZ)} (ha : QE X a (tI f)) (hb : QE X b (tGl g)) (h1 : starEach [a, b] X.env = (false, eval a X.env) :: starEach [b] X.env) (h2 : starEach [b] X.env = (false, eval b X.env) :: starEach [] X.env) : QE X (.Tuple [a, b] k pos) (tNm (mkN f g)) := ⟨note_tup ha.pe hb.pe h1 h2⟩
theorem n_nil : QA X [] (tNms nN) := ⟨mks_nil⟩
theorem n_cons {f : L2.St → Option NoteZ} {g : L2.St → Option (List NoteZ)} (ha : QE X e (tNm f)) (hr : QA X es (tNms g)) (hs : starEach (e :: es) X.env = (false, eval e X.env) :: starEach es X.env) : QA X (e :: es) (tNms (coN f g)) := ⟨mks_cons (fun _ _ _ _ => atN_mono) ha.pe hr.pa hs⟩
theorem n_tup {g : L2.St → Option (List NoteZ)} (h : QA X es (tNms g)) : QE X (.Tuple es k pos) (tNl (fwN g)) := ⟨list_tup (fun _ _ _ _ => atN_mono) h.pa⟩
theorem w_nil : QA X [] (tWs nW) := ⟨mks_nil⟩
theorem w_cons {f : L2.St → Option (List NoteZ)} {g : L2.St → Option (List (List NoteZ))} (ha : QE X e (tNl f)) (hr : QA X es (tWs g)) (hs : starEach (e :: es) X.env = (false, eval e X.env) :: starEach es X.env) : QA X (e :: es) (tWs (coW f g)) := ⟨mks_cons (fun _ _ _ _ => atNs_mono) ha.pe hr.pa hs⟩
theorem w_lst {g : L2.St → Option (List (List NoteZ))} (h : QA X es (tWs g)) : QE X (.List es pos) (tLst (tWs g)) := ⟨pe_lst h.pa⟩
end
structure QS (X : Cx) (st : Stmt) (t : TS) : Prop where
  ps : PS X st t
structure QSs (X : Cx) (sts : List Stmt) (t : TS) : Prop where
  pss : PSs X sts t
section
variable {X : Cx} {e a b : Expr} {pos : Pos} {st : Stmt} {rest : List Stmt}
theorem q_cons {t u : TS} (h1 : QS X st t) (h2 : QSs X rest u) : QSs X (st :: rest) (tSeq t u) := ⟨pss_cons h1.ps h2.pss⟩
theorem q_one {t : TS} (h1 : QS X st t) : QSs X [st] t := ⟨pss_one h1.ps⟩
theorem q_setL {i : Nat} {x : Str} {es : List Expr} {lp : Pos} {te : TE} {pos' : Pos} (hN : X.N.Nodup) (hi : X.N[i]? = some x) (hx : Loc X.env.scope x) (he : QE X (.List es lp) te) (hf : X.fn x = true ∨ X.env.scope.names.lookup x = some .local) : QS X (.Assign [.Name x pos'] (.List es lp) pos) (tAsg te (gName i)) := ⟨ps_set hN hi hx he.pe rfl hf⟩
theorem q_setC {i : Nat} {x : Str} {te : TE} {pos' lp : Pos} (hN : X.N.Nodup) (hi : X.N[i]? = some x) (hx : Loc X.env.scope x) (he : QE X (.BinOp a .Add b lp) te) (hs : swapsWith (.BinOp a .Add b lp) (some (.Name x pos')) pos.line X.env = pure false) (hf : X.fn x = true ∨ X.env.scope.names.lookup x = some .local) : QS X (.Assign [.Name x pos'] (.BinOp a .Add b lp) pos) (tAsg te (gName i)) := ⟨ps_set hN hi hx he.pe hs hf⟩
theorem q_cat {ta tb : TE} (ha : QE X a ta) (hb : QE X b tb) : QE X (.BinOp a .Add b pos) (tOp rCat ta tb) := ⟨pe_op op_cat ha.pe hb.pe⟩
end
theorem st_tup {es r : List Expr} {k : Nat} {q : Pos} {env : Env} : starEach (.Tuple es k q :: r) env = (false, eval (.Tuple es k q) env) :: starEach r env := rfl
theorem st_name {x : Str} {r : List Expr} {q : Pos} {env : Env} : starEach (.Name x q :: r) env = (false, eval (.Name x q) env) :: starEach r env := rfl
theorem st_const {c} {r : List Expr} {j} {q : Pos} {env : Env} : starEach (.Constant c j q :: r) env = (false, eval (.Constant c j q) env) :: starEach r env := rfl
section
theorem list0 {X : Cx} {x1 x2 : Str} {q1 q2 q3 q4 q5 q6 q7 q8 q9 q10 q11 q12 q13 q14 q15 q16 q17 q18 q19 q20 q21 q22 q23 : Pos} {k1 k2 k3 k4 k5 k6 k7 k8 k9 k10 k11 k12 k13 k14 k15 k16 k17 k18 k19 : Nat} (hq3 : QE X (Expr.Name x1 q3) (tVar 1)) (hq4 : QE X (Expr.Name x2 q4) (tVar 2)) (hq16 : QE X (Expr.Name x1 q16) (tVar 1)) : QE X (Expr.List [(Expr.Tuple [] k1 q1), (Expr.Tuple [(Expr.Tuple [(Expr.Constant (Const.int 0) k2 q2), (Expr.Tuple [(Expr.Tuple [(Expr.Name x1 q3), (Expr.Tuple [(Expr.Name x2 q4)] k3 q5)] k4 q6)] k5 q7)] k6 q8)] k7 q9), (Expr.Tuple [(Expr.Tuple [(Expr.Constant (Const.int 0) k8 q10), (Expr.Tuple [(Expr.Tuple [(Expr.Constant Const.none k9 q11), (Expr.Tuple [(Expr.Constant (Const.int 1) k10 q12), (Expr.Constant (Const.int 29) k11 q13)] k12 q14)] k13 q15), (Expr.Tuple [(Expr.Name x1 q16), (Expr.Tuple [(Expr.Constant (Const.int 2) k14 q17)] k15 q18)] k16 q19)] k17 q20)] k18 q21)] k19 q22)] q23) (tLst (tWs (coW (fwN nN) (coW (fwN (coN (mkN (cI 0) (fwG (coG (mkG (valAt 1) (fwI (coI (intAt 2) nI))) nG))) nN)) (coW (fwN (coN (mkN (cI 0) (fwG (coG (mkG cV (fwI (coI (cI 1) (coI (cI 29) nI)))) (coG (mkG (valAt 1) (fwI (coI (cI 2) nI))) nG)))) nN)) nW))))) := by
  have p1 : QE X (Expr.Tuple [] k1 q1) (tNl (fwN nN)) := n_tup n_nil
  have p2 : QA X [(Expr.Name x2 q4)] (tIs (coI (intAt 2) nI)) := i_cons (qi_var 2 hq4) qi_nil st_name
  have p3 : QE X (Expr.Tuple [(Expr.Name x2 q4)] k3 q5) (tRw (fwI (coI (intAt 2) nI))) := r_tup p2
  have p4 : QE X (Expr.Tuple [(Expr.Name x1 q3), (Expr.Tuple [(Expr.Name x2 q4)] k3 q5)] k4 q6) (tGm (mkG (valAt 1) (fwI (coI (intAt 2) nI)))) := rg_tup (qv_var 1 hq3) p3 st_name st_tup
  have p5 : QA X [(Expr.Tuple [(Expr.Name x1 q3), (Expr.Tuple [(Expr.Name x2 q4)] k3 q5)] k4 q6)] (tGms (coG (mkG (valAt 1) (fwI (coI (intAt 2) nI))) nG)) := g_cons p4 g_nil st_tup
  have p6 : QE X (Expr.Tuple [(Expr.Tuple [(Expr.Name x1 q3), (Expr.Tuple [(Expr.Name x2 q4)] k3 q5)] k4 q6)] k5 q7) (tGl (fwG (coG (mkG (valAt 1) (fwI (coI (intAt 2) nI))) nG))) := g_tup p5
  have p7 : QE X (Expr.Tuple [(Expr.Constant (Const.int 0) k2 q2), (Expr.Tuple [(Expr.Tuple [(Expr.Name x1 q3), (Expr.Tuple [(Expr.Name x2 q4)] k3 q5)] k4 q6)] k5 q7)] k6 q8) (tNm (mkN (cI 0) (fwG (coG (mkG (valAt 1) (fwI (coI (intAt 2) nI))) nG)))) := nt_tup qi_int p6 st_const st_tup
  have p8 : QA X [(Expr.Tuple [(Expr.Constant (Const.int 0) k2 q2), (Expr.Tuple [(Expr.Tuple [(Expr.Name x1 q3), (Expr.Tuple [(Expr.Name x2 q4)] k3 q5)] k4 q6)] k5 q7)] k6 q8)] (tNms (coN (mkN (cI 0) (fwG (coG (mkG (valAt 1) (fwI (coI (intAt 2) nI))) nG))) nN)) := n_cons p7 n_nil st_tup
  have p9 : QE X (Expr.Tuple [(Expr.Tuple [(Expr.Constant (Const.int 0) k2 q2), (Expr.Tuple [(Expr.Tuple [(Expr.Name x1 q3), (Expr.Tuple [(Expr.Name x2 q4)] k3 q5)] k4 q6)] k5 q7)] k6 q8)] k7 q9) (tNl (fwN (coN (mkN (cI 0) (fwG (coG (mkG (valAt 1) (fwI (coI (intAt 2) nI))) nG))) nN))) := n_tup p8
  have p10 : QA X [(Expr.Constant (Const.int 29) k11 q13)] (tIs (coI (cI 29) nI)) := i_cons qi_int qi_nil st_const
  have p11 : QA X [(Expr.Constant (Const.int 1) k10 q12), (Expr.Constant (Const.int 29) k11 q13)] (tIs (coI (cI 1) (coI (cI 29) nI))) := i_cons qi_int p10 st_const
  have p12 : QE X (Expr.Tuple [(Expr.Constant (Const.int 1) k10 q12), (Expr.Constant (Const.int 29) k11 q13)] k12 q14) (tRw (fwI (coI (cI 1) (coI (cI 29) nI)))) := r_tup p11
  have p13 : QE X (Expr.Tuple [(Expr.Constant Const.none k9 q11), (Expr.Tuple [(Expr.Constant (Const.int 1) k10 q12), (Expr.Constant (Const.int 29) k11 q13)] k12 q14)] k13 q15) (tGm (mkG cV (fwI (coI (cI 1) (coI (cI 29) nI))))) := rg_tup qv_non p12 st_const st_tup
  have p14 : QA X [(Expr.Constant (Const.int 2) k14 q17)] (tIs (coI (cI 2) nI)) := i_cons qi_int qi_nil st_const
  have p15 : QE X (Expr.Tuple [(Expr.Constant (Const.int 2) k14 q17)] k15 q18) (tRw (fwI (coI (cI 2) nI))) := r_tup p14
  have p16 : QE X (Expr.Tuple [(Expr.Name x1 q16), (Expr.Tuple [(Expr.Constant (Const.int 2) k14 q17)] k15 q18)] k16 q19) (tGm (mkG (valAt 1) (fwI (coI (cI 2) nI)))) := rg_tup (qv_var 1 hq16) p15 st_name st_tup
  have p17 : QA X [(Expr.Tuple [(Expr.Name x1 q16), (Expr.Tuple [(Expr.Constant (Const.int 2) k14 q17)] k15 q18)] k16 q19)] (tGms (coG (mkG (valAt 1) (fwI (coI (cI 2) nI))) nG)) := g_cons p16 g_nil st_tup
  have p18 : QA X [(Expr.Tuple [(Expr.Constant Const.none k9 q11), (Expr.Tuple [(Expr.Constant (Const.int 1) k10 q12), (Expr.Constant (Const.int 29) k11 q13)] k12 q14)] k13 q15), (Expr.Tuple [(Expr.Name x1 q16), (Expr.Tuple [(Expr.Constant (Const.int 2) k14 q17)] k15 q18)] k16 q19)] (tGms (coG (mkG cV (fwI (coI (cI 1) (coI (cI 29) nI)))) (coG (mkG (valAt 1) (fwI (coI (cI 2) nI))) nG))) := g_cons p13 p17 st_tup
  have p19 : QE X (Expr.Tuple [(Expr.Tuple [(Expr.Constant Const.none k9 q11), (Expr.Tuple [(Expr.Constant (Const.int 1) k10 q12), (Expr.Constant (Const.int 29) k11 q13)] k12 q14)] k13 q15), (Expr.Tuple [(Expr.Name x1 q16), (Expr.Tuple [(Expr.Constant (Const.int 2) k14 q17)] k15 q18)] k16 q19)] k17 q20) (tGl (fwG (coG (mkG cV (fwI (coI (cI 1) (coI (cI 29) nI)))) (coG (mkG (valAt 1) (fwI (coI (cI 2) nI))) nG)))) := g_tup p18
  have p20 : QE X (Expr.Tuple [(Expr.Constant (Const.int 0) k8 q10), (Expr.Tuple [(Expr.Tuple [(Expr.Constant Const.none k9 q11), (Expr.Tuple [(Expr.Constant (Const.int 1) k10 q12), (Expr.Constant (Const.int 29) k11 q13)] k12 q14)] k13 q15), (Expr.Tuple [(Expr.Name x1 q16), (Expr.Tuple [(Expr.Constant (Const.int 2) k14 q17)] k15 q18)] k16 q19)] k17 q20)] k18 q21) (tNm (mkN (cI 0) (fwG (coG (mkG cV (fwI (coI (cI 1) (coI (cI 29) nI)))) (coG (mkG (valAt 1) (fwI (coI (cI 2) nI))) nG))))) := nt_tup qi_int p19 st_const st_tup
  have p21 : QA X [(Expr.Tuple [(Expr.Constant (Const.int 0) k8 q10), (Expr.Tuple [(Expr.Tuple [(Expr.Constant Const.none k9 q11), (Expr.Tuple [(Expr.Constant (Const.int 1) k10 q12), (Expr.Constant (Const.int 29) k11 q13)] k12 q14)] k13 q15), (Expr.Tuple [(Expr.Name x1 q16), (Expr.Tuple [(Expr.Constant (Const.int 2) k14 q17)] k15 q18)] k16 q19)] k17 q20)] k18 q21)] (tNms (coN (mkN (cI 0) (fwG (coG (mkG cV (fwI (coI (cI 1) (coI (cI 29) nI)))) (coG (mkG (valAt 1) (fwI (coI (cI 2) nI))) nG)))) nN)) := n_cons p20 n_nil st_tup
  have p22 : QE X (Expr.Tuple [(Expr.Tuple [(Expr.Constant (Const.int 0) k8 q10), (Expr.Tuple [(Expr.Tuple [(Expr.Constant Const.none k9 q11), (Expr.Tuple [(Expr.Constant (Const.int 1) k10 q12), (Expr.Constant (Const.int 29) k11 q13)] k12 q14)] k13 q15), (Expr.Tuple [(Expr.Name x1 q16), (Expr.Tuple [(Expr.Constant (Const.int 2) k14 q17)] k15 q18)] k16 q19)] k17 q20)] k18 q21)] k19 q22) (tNl (fwN (coN (mkN (cI 0) (fwG (coG (mkG cV (fwI (coI (cI 1) (coI (cI 29) nI)))) (coG (mkG (valAt 1) (fwI (coI (cI 2) nI))) nG)))) nN))) := n_tup p21
  have p23 : QA X [(Expr.Tuple [(Expr.Tuple [(Expr.Constant (Const.int 0) k8 q10), (Expr.Tuple [(Expr.Tuple [(Expr.Constant Const.none k9 q11), (Expr.Tuple [(Expr.Constant (Const.int 1) k10 q12), (Expr.Constant (Const.int 29) k11 q13)] k12 q14)] k13 q15), (Expr.Tuple [(Expr.Name x1 q16), (Expr.Tuple [(Expr.Constant (Const.int 2) k14 q17)] k15 q18)] k16 q19)] k17 q20)] k18 q21)] k19 q22)] (tWs (coW (fwN (coN (mkN (cI 0) (fwG (coG (mkG cV (fwI (coI (cI 1) (coI (cI 29) nI)))) (coG (mkG (valAt 1) (fwI (coI (cI 2) nI))) nG)))) nN)) nW)) := w_cons p22 w_nil st_tup
  have p24 : QA X [(Expr.Tuple [(Expr.Tuple [(Expr.Constant (Const.int 0) k2 q2), (Expr.Tuple [(Expr.Tuple [(Expr.Name x1 q3), (Expr.Tuple [(Expr.Name x2 q4)] k3 q5)] k4 q6)] k5 q7)] k6 q8)] k7 q9), (Expr.Tuple [(Expr.Tuple [(Expr.Constant (Const.int 0) k8 q10), (Expr.Tuple [(Expr.Tuple [(Expr.Constant Const.none k9 q11), (Expr.Tuple [(Expr.Constant (Const.int 1) k10 q12), (Expr.Constant (Const.int 29) k11 q13)] k12 q14)] k13 q15), (Expr.Tuple [(Expr.Name x1 q16), (Expr.Tuple [(Expr.Constant (Const.int 2) k14 q17)] k15 q18)] k16 q19)] k17 q20)] k18 q21)] k19 q22)] (tWs (coW (fwN (coN (mkN (cI 0) (fwG (coG (mkG (valAt 1) (fwI (coI (intAt 2) nI))) nG))) nN)) (coW (fwN (coN (mkN (cI 0) (fwG (coG (mkG cV (fwI (coI (cI 1) (coI (cI 29) nI)))) (coG (mkG (valAt 1) (fwI (coI (cI 2) nI))) nG)))) nN)) nW))) := w_cons p9 p23 st_tup
  have p25 : QA X [(Expr.Tuple [] k1 q1), (Expr.Tuple [(Expr.Tuple [(Expr.Constant (Const.int 0) k2 q2), (Expr.Tuple [(Expr.Tuple [(Expr.Name x1 q3), (Expr.Tuple [(Expr.Name x2 q4)] k3 q5)] k4 q6)] k5 q7)] k6 q8)] k7 q9), (Expr.Tuple [(Expr.Tuple [(Expr.Constant (Const.int 0) k8 q10), (Expr.Tuple [(Expr.Tuple [(Expr.Constant Const.none k9 q11), (Expr.Tuple [(Expr.Constant (Const.int 1) k10 q12), (Expr.Constant (Const.int 29) k11 q13)] k12 q14)] k13 q15), (Expr.Tuple [(Expr.Name x1 q16), (Expr.Tuple [(Expr.Constant (Const.int 2) k14 q17)] k15 q18)] k16 q19)] k17 q20)] k18 q21)] k19 q22)] (tWs (coW (fwN nN) (coW (fwN (coN (mkN (cI 0) (fwG (coG (mkG (valAt 1) (fwI (coI (intAt 2) nI))) nG))) nN)) (coW (fwN (coN (mkN (cI 0) (fwG (coG (mkG cV (fwI (coI (cI 1) (coI (cI 29) nI)))) (coG (mkG (valAt 1) (fwI (coI (cI 2) nI))) nG)))) nN)) nW)))) := w_cons p1 p24 st_tup
  have p26 : QE X (Expr.List [(Expr.Tuple [] k1 q1), (Expr.Tuple [(Expr.Tuple [(Expr.Constant (Const.int 0) k2 q2), (Expr.Tuple [(Expr.Tuple [(Expr.Name x1 q3), (Expr.Tuple [(Expr.Name x2 q4)] k3 q5)] k4 q6)] k5 q7)] k6 q8)] k7 q9), (Expr.Tuple [(Expr.Tuple [(Expr.Constant (Const.int 0) k8 q10), (Expr.Tuple [(Expr.Tuple [(Expr.Constant Const.none k9 q11), (Expr.Tuple [(Expr.Constant (Const.int 1) k10 q12), (Expr.Constant (Const.int 29) k11 q13)] k12 q14)] k13 q15), (Expr.Tuple [(Expr.Name x1 q16), (Expr.Tuple [(Expr.Constant (Const.int 2) k14 q17)] k15 q18)] k16 q19)] k17 q20)] k18 q21)] k19 q22)] q23) (tLst (tWs (coW (fwN nN) (coW (fwN (coN (mkN (cI 0) (fwG (coG (mkG (valAt 1) (fwI (coI (intAt 2) nI))) nG))) nN)) (coW (fwN (coN (mkN (cI 0) (fwG (coG (mkG cV (fwI (coI (cI 1) (coI (cI 29) nI)))) (coG (mkG (valAt 1) (fwI (coI (cI 2) nI))) nG)))) nN)) nW))))) := w_lst p25
  exact p26
theorem list1 {X : Cx} {x1 x2 : Str} {q1 q2 q3 q4 q5 q6 q7 q8 q9 q10 q11 q12 q13 q14 q15 q16 q17 q18 q19 q20 q21 q22 q23 q24 q25 q26 : Pos} {k1 k2 k3 k4 k5 k6 k7 k8 k9 k10 k11 k12 k13 k14 k15 k16 k17 k18 k19 k20 k21 : Nat} (hq2 : QE X (Expr.Name x1 q2) (tVar 1)) (hq3 : QE X (Expr.Name x2 q3) (tVar 2)) (hq10 : QE X (Expr.Name x1 q10) (tVar 1)) (hq17 : QE X (Expr.Name x1 q17) (tVar 1)) : QE X (Expr.List [(Expr.Tuple [(Expr.Tuple [(Expr.Constant (Const.int 1) k1 q1), (Expr.Tuple [(Expr.Tuple [(Expr.Name x1 q2), (Expr.Tuple [(Expr.Name x2 q3)] k2 q4)] k3 q5)] k4 q6)] k5 q7)] k6 q8), (Expr.Tuple [(Expr.Tuple [(Expr.Constant (Const.int 0) k7 q9), (Expr.Tuple [(Expr.Tuple [(Expr.Name x1 q10), (Expr.Tuple [(Expr.Constant (Const.int 29) k8 q11)] k9 q12)] k10 q13)] k11 q14)] k12 q15), (Expr.Tuple [(Expr.Constant (Const.int 1) k13 q16), (Expr.Tuple [(Expr.Tuple [(Expr.Name x1 q17), (Expr.Tuple [(Expr.Constant (Const.int 1) k14 q18), (Expr.Constant (Const.int 2) k15 q19), (Expr.Constant (Const.int 3) k16 q20)] k17 q21)] k18 q22)] k19 q23)] k20 q24)] k21 q25)] q26) (tLst (tWs (coW (fwN (coN (mkN (cI 1) (fwG (coG (mkG (valAt 1) (fwI (coI (intAt 2) nI))) nG))) nN)) (coW (fwN (coN (mkN (cI 0) (fwG (coG (mkG (valAt 1) (fwI (coI (cI 29) nI))) nG))) (coN (mkN (cI 1) (fwG (coG (mkG (valAt 1) (fwI (coI (cI 1) (coI (cI 2) (coI (cI 3) nI))))) nG))) nN))) nW)))) := by
  have p1 : QA X [(Expr.Name x2 q3)] (tIs (coI (intAt 2) nI)) := i_cons (qi_var 2 hq3) qi_nil st_name
  have p2 : QE X (Expr.Tuple [(Expr.Name x2 q3)] k2 q4) (tRw (fwI (coI (intAt 2) nI))) := r_tup p1
  have p3 : QE X (Expr.Tuple [(Expr.Name x1 q2), (Expr.Tuple [(Expr.Name x2 q3)] k2 q4)] k3 q5) (tGm (mkG (valAt 1) (fwI (coI (intAt 2) nI)))) := rg_tup (qv_var 1 hq2) p2 st_name st_tup
  have p4 : QA X [(Expr.Tuple [(Expr.Name x1 q2), (Expr.Tuple [(Expr.Name x2 q3)] k2 q4)] k3 q5)] (tGms (coG (mkG (valAt 1) (fwI (coI (intAt 2) nI))) nG)) := g_cons p3 g_nil st_tup
  have p5 : QE X (Expr.Tuple [(Expr.Tuple [(Expr.Name x1 q2), (Expr.Tuple [(Expr.Name x2 q3)] k2 q4)] k3 q5)] k4 q6) (tGl (fwG (coG (mkG (valAt 1) (fwI (coI (intAt 2) nI))) nG))) := g_tup p4
  have p6 : QE X (Expr.Tuple [(Expr.Constant (Const.int 1) k1 q1), (Expr.Tuple [(Expr.Tuple [(Expr.Name x1 q2), (Expr.Tuple [(Expr.Name x2 q3)] k2 q4)] k3 q5)] k4 q6)] k5 q7) (tNm (mkN (cI 1) (fwG (coG (mkG (valAt 1) (fwI (coI (intAt 2) nI))) nG)))) := nt_tup qi_int p5 st_const st_tup
  have p7 : QA X [(Expr.Tuple [(Expr.Constant (Const.int 1) k1 q1), (Expr.Tuple [(Expr.Tuple [(Expr.Name x1 q2), (Expr.Tuple [(Expr.Name x2 q3)] k2 q4)] k3 q5)] k4 q6)] k5 q7)] (tNms (coN (mkN (cI 1) (fwG (coG (mkG (valAt 1) (fwI (coI (intAt 2) nI))) nG))) nN)) := n_cons p6 n_nil st_tup
  have p8 : QE X (Expr.Tuple [(Expr.Tuple [(Expr.Constant (Const.int 1) k1 q1), (Expr.Tuple [(Expr.Tuple [(Expr.Name x1 q2), (Expr.Tuple [(Expr.Name x2 q3)] k2 q4)] k3 q5)] k4 q6)] k5 q7)] k6 q8) (tNl (fwN (coN (mkN (cI 1) (fwG (coG (mkG (valAt 1) (fwI (coI (intAt 2) nI))) nG))) nN))) := n_tup p7
  have p9 : QA X [(Expr.Constant (Const.int 29) k8 q11)] (tIs (coI (cI 29) nI)) := i_cons qi_int qi_nil st_const
  have p10 : QE X (Expr.Tuple [(Expr.Constant (Const.int 29) k8 q11)] k9 q12) (tRw (fwI (coI (cI 29) nI))) := r_tup p9
  have p11 : QE X (Expr.Tuple [(Expr.Name x1 q10), (Expr.Tuple [(Expr.Constant (Const.int 29) k8 q11)] k9 q12)] k10 q13) (tGm (mkG (valAt 1) (fwI (coI (cI 29) nI)))) := rg_tup (qv_var 1 hq10) p10 st_name st_tup
  have p12 : QA X [(Expr.Tuple [(Expr.Name x1 q10), (Expr.Tuple [(Expr.Constant (Const.int 29) k8 q11)] k9 q12)] k10 q13)] (tGms (coG (mkG (valAt 1) (fwI (coI (cI 29) nI))) nG)) := g_cons p11 g_nil st_tup
  have p13 : QE X (Expr.Tuple [(Expr.Tuple [(Expr.Name x1 q10), (Expr.Tuple [(Expr.Constant (Const.int 29) k8 q11)] k9 q12)] k10 q13)] k11 q14) (tGl (fwG (coG (mkG (valAt 1) (fwI (coI (cI 29) nI))) nG))) := g_tup p12
  have p14 : QE X (Expr.Tuple [(Expr.Constant (Const.int 0) k7 q9), (Expr.Tuple [(Expr.Tuple [(Expr.Name x1 q10), (Expr.Tuple [(Expr.Constant (Const.int 29) k8 q11)] k9 q12)] k10 q13)] k11 q14)] k12 q15) (tNm (mkN (cI 0) (fwG (coG (mkG (valAt 1) (fwI (coI (cI 29) nI))) nG)))) := nt_tup qi_int p13 st_const st_tup
  have p15 : QA X [(Expr.Constant (Const.int 3) k16 q20)] (tIs (coI (cI 3) nI)) := i_cons qi_int qi_nil st_const
  have p16 : QA X [(Expr.Constant (Const.int 2) k15 q19), (Expr.Constant (Const.int 3) k16 q20)] (tIs (coI (cI 2) (coI (cI 3) nI))) := i_cons qi_int p15 st_const
  have p17 : QA X [(Expr.Constant (Const.int 1) k14 q18), (Expr.Constant (Const.int 2) k15 q19), (Expr.Constant (Const.int 3) k16 q20)] (tIs (coI (cI 1) (coI (cI 2) (coI (cI 3) nI)))) := i_cons qi_int p16 st_const
  have p18 : QE X (Expr.Tuple [(Expr.Constant (Const.int 1) k14 q18), (Expr.Constant (Const.int 2) k15 q19), (Expr.Constant (Const.int 3) k16 q20)] k17 q21) (tRw (fwI (coI (cI 1) (coI (cI 2) (coI (cI 3) nI))))) := r_tup p17
  have p19 : QE X (Expr.Tuple [(Expr.Name x1 q17), (Expr.Tuple [(Expr.Constant (Const.int 1) k14 q18), (Expr.Constant (Const.int 2) k15 q19), (Expr.Constant (Const.int 3) k16 q20)] k17 q21)] k18 q22) (tGm (mkG (valAt 1) (fwI (coI (cI 1) (coI (cI 2) (coI (cI 3) nI)))))) := rg_tup (qv_var 1 hq17) p18 st_name st_tup
  have p20 : QA X [(Expr.Tuple [(Expr.Name x1 q17), (Expr.Tuple [(Expr.Constant (Const.int 1) k14 q18), (Expr.Constant (Const.int 2) k15 q19), (Expr.Constant (Const.int 3) k16 q20)] k17 q21)] k18 q22)] (tGms (coG (mkG (valAt 1) (fwI (coI (cI 1) (coI (cI 2) (coI (cI 3) nI))))) nG)) := g_cons p19 g_nil st_tup
  have p21 : QE X (Expr.Tuple [(Expr.Tuple [(Expr.Name x1 q17), (Expr.Tuple [(Expr.Constant (Const.int 1) k14 q18), (Expr.Constant (Const.int 2) k15 q19), (Expr.Constant (Const.int 3) k16 q20)] k17 q21)] k18 q22)] k19 q23) (tGl (fwG (coG (mkG (valAt 1) (fwI (coI (cI 1) (coI (cI 2) (coI (cI 3) nI))))) nG))) := g_tup p20
  have p22 : QE X (Expr.Tuple [(Expr.Constant (Const.int 1) k13 q16), (Expr.Tuple [(Expr.Tuple [(Expr.Name x1 q17), (Expr.Tuple [(Expr.Constant (Const.int 1) k14 q18), (Expr.Constant (Const.int 2) k15 q19), (Expr.Constant (Const.int 3) k16 q20)] k17 q21)] k18 q22)] k19 q23)] k20 q24) (tNm (mkN (cI 1) (fwG (coG (mkG (valAt 1) (fwI (coI (cI 1) (coI (cI 2) (coI (cI 3) nI))))) nG)))) := nt_tup qi_int p21 st_const st_tup
  have p23 : QA X [(Expr.Tuple [(Expr.Constant (Const.int 1) k13 q16), (Expr.Tuple [(Expr.Tuple [(Expr.Name x1 q17), (Expr.Tuple [(Expr.Constant (Const.int 1) k14 q18), (Expr.Constant (Const.int 2) k15 q19), (Expr.Constant (Const.int 3) k16 q20)] k17 q21)] k18 q22)] k19 q23)] k20 q24)] (tNms (coN (mkN (cI 1) (fwG (coG (mkG (valAt 1) (fwI (coI (cI 1) (coI (cI 2) (coI (cI 3) nI))))) nG))) nN)) := n_cons p22 n_nil st_tup
  have p24 : QA X [(Expr.Tuple [(Expr.Constant (Const.int 0) k7 q9), (Expr.Tuple [(Expr.Tuple [(Expr.Name x1 q10), (Expr.Tuple [(Expr.Constant (Const.int 29) k8 q11)] k9 q12)] k10 q13)] k11 q14)] k12 q15), (Expr.Tuple [(Expr.Constant (Const.int 1) k13 q16), (Expr.Tuple [(Expr.Tuple [(Expr.Name x1 q17), (Expr.Tuple [(Expr.Constant (Const.int 1) k14 q18), (Expr.Constant (Const.int 2) k15 q19), (Expr.Constant (Const.int 3) k16 q20)] k17 q21)] k18 q22)] k19 q23)] k20 q24)] (tNms (coN (mkN (cI 0) (fwG (coG (mkG (valAt 1) (fwI (coI (cI 29) nI))) nG))) (coN (mkN (cI 1) (fwG (coG (mkG (valAt 1) (fwI (coI (cI 1) (coI (cI 2) (coI (cI 3) nI))))) nG))) nN))) := n_cons p14 p23 st_tup
  have p25 : QE X (Expr.Tuple [(Expr.Tuple [(Expr.Constant (Const.int 0) k7 q9), (Expr.Tuple [(Expr.Tuple [(Expr.Name x1 q10), (Expr.Tuple [(Expr.Constant (Const.int 29) k8 q11)] k9 q12)] k10 q13)] k11 q14)] k12 q15), (Expr.Tuple [(Expr.Constant (Const.int 1) k13 q16), (Expr.Tuple [(Expr.Tuple [(Expr.Name x1 q17), (Expr.Tuple [(Expr.Constant (Const.int 1) k14 q18), (Expr.Constant (Const.int 2) k15 q19), (Expr.Constant (Const.int 3) k16 q20)] k17 q21)] k18 q22)] k19 q23)] k20 q24)] k21 q25) (tNl (fwN (coN (mkN (cI 0) (fwG (coG (mkG (valAt 1) (fwI (coI (cI 29) nI))) nG))) (coN (mkN (cI 1) (fwG (coG (mkG (valAt 1) (fwI (coI (cI 1) (coI (cI 2) (coI (cI 3) nI))))) nG))) nN)))) := n_tup p24
  have p26 : QA X [(Expr.Tuple [(Expr.Tuple [(Expr.Constant (Const.int 0) k7 q9), (Expr.Tuple [(Expr.Tuple [(Expr.Name x1 q10), (Expr.Tuple [(Expr.Constant (Const.int 29) k8 q11)] k9 q12)] k10 q13)] k11 q14)] k12 q15), (Expr.Tuple [(Expr.Constant (Const.int 1) k13 q16), (Expr.Tuple [(Expr.Tuple [(Expr.Name x1 q17), (Expr.Tuple [(Expr.Constant (Const.int 1) k14 q18), (Expr.Constant (Const.int 2) k15 q19), (Expr.Constant (Const.int 3) k16 q20)] k17 q21)] k18 q22)] k19 q23)] k20 q24)] k21 q25)] (tWs (coW (fwN (coN (mkN (cI 0) (fwG (coG (mkG (valAt 1) (fwI (coI (cI 29) nI))) nG))) (coN (mkN (cI 1) (fwG (coG (mkG (valAt 1) (fwI (coI (cI 1) (coI (cI 2) (coI (cI 3) nI))))) nG))) nN))) nW)) := w_cons p25 w_nil st_tup
  have p27 : QA X [(Expr.Tuple [(Expr.Tuple [(Expr.Constant (Const.int 1) k1 q1), (Expr.Tuple [(Expr.Tuple [(Expr.Name x1 q2), (Expr.Tuple [(Expr.Name x2 q3)] k2 q4)] k3 q5)] k4 q6)] k5 q7)] k6 q8), (Expr.Tuple [(Expr.Tuple [(Expr.Constant (Const.int 0) k7 q9), (Expr.Tuple [(Expr.Tuple [(Expr.Name x1 q10), (Expr.Tuple [(Expr.Constant (Const.int 29) k8 q11)] k9 q12)] k10 q13)] k11 q14)] k12 q15), (Expr.Tuple [(Expr.Constant (Const.int 1) k13 q16), (Expr.Tuple [(Expr.Tuple [(Expr.Name x1 q17), (Expr.Tuple [(Expr.Constant (Const.int 1) k14 q18), (Expr.Constant (Const.int 2) k15 q19), (Expr.Constant (Const.int 3) k16 q20)] k17 q21)] k18 q22)] k19 q23)] k20 q24)] k21 q25)] (tWs (coW (fwN (coN (mkN (cI 1) (fwG (coG (mkG (valAt 1) (fwI (coI (intAt 2) nI))) nG))) nN)) (coW (fwN (coN (mkN (cI 0) (fwG (coG (mkG (valAt 1) (fwI (coI (cI 29) nI))) nG))) (coN (mkN (cI 1) (fwG (coG (mkG (valAt 1) (fwI (coI (cI 1) (coI (cI 2) (coI (cI 3) nI))))) nG))) nN))) nW))) := w_cons p8 p26 st_tup
  have p28 : QE X (Expr.List [(Expr.Tuple [(Expr.Tuple [(Expr.Constant (Const.int 1) k1 q1), (Expr.Tuple [(Expr.Tuple [(Expr.Name x1 q2), (Expr.Tuple [(Expr.Name x2 q3)] k2 q4)] k3 q5)] k4 q6)] k5 q7)] k6 q8), (Expr.Tuple [(Expr.Tuple [(Expr.Constant (Const.int 0) k7 q9), (Expr.Tuple [(Expr.Tuple [(Expr.Name x1 q10), (Expr.Tuple [(Expr.Constant (Const.int 29) k8 q11)] k9 q12)] k10 q13)] k11 q14)] k12 q15), (Expr.Tuple [(Expr.Constant (Const.int 1) k13 q16), (Expr.Tuple [(Expr.Tuple [(Expr.Name x1 q17), (Expr.Tuple [(Expr.Constant (Const.int 1) k14 q18), (Expr.Constant (Const.int 2) k15 q19), (Expr.Constant (Const.int 3) k16 q20)] k17 q21)] k18 q22)] k19 q23)] k20 q24)] k21 q25)] q26) (tLst (tWs (coW (fwN (coN (mkN (cI 1) (fwG (coG (mkG (valAt 1) (fwI (coI (intAt 2) nI))) nG))) nN)) (coW (fwN (coN (mkN (cI 0) (fwG (coG (mkG (valAt 1) (fwI (coI (cI 29) nI))) nG))) (coN (mkN (cI 1) (fwG (coG (mkG (valAt 1) (fwI (coI (cI 1) (coI (cI 2) (coI (cI 3) nI))))) nG))) nN))) nW)))) := w_lst p27
  exact p28
end
theorem at_draw {c k : Int} {m : Nat} (hm : 0 < m) : ∃ j : Nat, drawD c k (m : Int) = (j : Int) ∧ j < m := by
  have h0 := draw_lo c k (m := (m : Int)) (by omega)
  have h1 := draw_hi c k (m := (m : Int)) (by omega)
  exact ⟨(drawD c k (m : Int)).toNat, by omega, by omega⟩
def spGd : Sp := fun vs H Q _ => ∃ (c : Int) (o : Str), vs = [.int c, .str o] ∧ Builtin.Int.intBits c ≤ 1048576 ∧ ∀ (H' : Hp) (t : Addr) (j l : Nat), j < 5 → l < 30 → 1 ≤ l → Same H H' → AtL AtN H' t ((goodN j l o).map toldM) → Q (.ref t) H'
theorem scGd : FnScope ["cell", "other", "last", "ways"] ["cell", "other"] (defScope sGd) := ⟨rfl, rfl, rfl, by decide +kernel, rfl, by decide +kernel, by decide +kernel⟩
section
theorem ok_gd {f gD : Addr} {fd dD : FuncData} (F : Fun K "_law_good" "_law_good" sGd f fd) (DD : Dfn K mg "_law_draw" sDraw gD dD ["cell", "k", "many"]) : FnOk P w K mg base CX0 2 f fd ["cell", "other"] spGd := by
  have GD : FnOk P w K mg base CX0 1 gD dD ["cell", "k", "many"] spDraw := ok_draw DD.fn
  refine F.ok scGd (fun vs H Q E h => ?_) (fun cdv A outer s H vs Q E hr h => ?_)
  · obtain ⟨c, o, rfl, _⟩ := h
    rfl
  · obtain ⟨c, o, rfl, hb, q⟩ := h
    refine ⟨_, QSs.pss (q_cons ⟨ps_set (i := 2) scGd.nd rfl (Or.inl rfl) (pe_op op_add pe_int (pe_call GD hr (by rfl) DD.at_ DD.fn.kp DD.bn .nil pass0 (pa_cons (pv 0) (pa_cons pe_int (pa_cons pe_int pa_nil)))))⟩
      (q_cons (q_setL (i := 3) scGd.nd rfl (Or.inl rfl) (list0 ⟨pv 1⟩ ⟨pv 2⟩ ⟨pv 1⟩) (Or.inl rfl))
      (q_cons (q_setC (i := 3) scGd.nd rfl (Or.inl rfl) (q_cat ⟨pv 3⟩ (list1 ⟨pv 1⟩ ⟨pv 2⟩ ⟨pv 1⟩ ⟨pv 1⟩)) rfl (Or.inl rfl))
      (q_one ⟨ps_ret (pe_ix ix_list (pv 3) (pe_call GD hr (by rfl) DD.at_ DD.fn.kp DD.bn .nil pass0 (pa_cons (pv 0) (pa_cons pe_int (pa_cons pe_int pa_nil)))) (fun _ _ => rfl))⟩)))), ?_⟩
    obtain ⟨l, el, hl⟩ := at_draw (c := c) (k := 84) (m := 29) (by decide)
    obtain ⟨j, ej, hj⟩ := at_draw (c := c) (k := 85) (m := 5) (by decide)
    refine ⟨_, rfl, c, 84, 29, rfl, hb, by decide, by decide, by decide, _, _, rfl, rfl, ?_⟩
    have e1 : (1 : Int) + drawD c 84 29 = (((l + 1 : Nat)) : Int) := by
      have : drawD c 84 29 = (l : Int) := el
      omega
    refine ⟨[(goodN 0 (l + 1) o).map toldM, (goodN 1 (l + 1) o).map toldM, (goodN 2 (l + 1) o).map toldM], ?_, fun H1 ts1 S1 h1 t1 => ⟨?_, fun l1 hl1 => ?_⟩⟩
    · show some [[], [((0 : Int), [(V.str o, [1 + drawD c 84 29])])], [((0 : Int), [(V.non, [(1 : Int), 29]), (V.str o, [(2 : Int)])])]] = _
      rw [e1]
      rfl
    · have := congrArg List.length t1
      rw [List.length_map] at this ⊢
      exact few (by rw [this]; show 3 ≤ _; omega)
    have T1 := same_upd (o := .lst (ts1.map fun y => V.ref y.1)) hl1
    have g1 : upd H1 l1 (.lst (ts1.map fun y => V.ref y.1)) l1 = some (.lst (ts1.map fun y => V.ref y.1)) := upd_same
    have h1' : ∀ y ∈ ts1, AtL AtN (upd H1 l1 (.lst (ts1.map fun y => V.ref y.1))) y.1 y.2 := fun y hy => atNs_mono T1 (h1 y hy)
    have S2 := S1.trans T1
    generalize upd H1 l1 (.lst (ts1.map fun y => V.ref y.1)) = H2 at g1 h1' S2
    refine ⟨_, rfl, [(goodN 3 (l + 1) o).map toldM, (goodN 4 (l + 1) o).map toldM], ?_, fun H3 ts2 S3 h3 t2 => ⟨?_, fun l2 hl2 => ?_⟩⟩
    · show some [[((1 : Int), [(V.str o, [1 + drawD c 84 29])])], [((0 : Int), [(V.str o, [(29 : Int)])]), ((1 : Int), [(V.str o, [(1 : Int), 2, 3])])]] = _
      rw [e1]
      rfl
    · have := congrArg List.length t2
      rw [List.length_map] at this ⊢
      exact few (by rw [this]; show 2 ≤ _; omega)
    have n1 := congrArg List.length t1
    have n2 := congrArg List.length t2
    rw [List.length_map] at n1 n2
    have n1 : ts1.length = 3 := n1
    have n2 : ts2.length = 2 := n2
    have T2 := same_upd (o := .lst (ts2.map fun y => V.ref y.1)) hl2
    refine ⟨l1, l2, _, _, rfl, rfl, T2 _ _ (S3 _ _ g1), upd_same, few (by rw [List.length_map, List.length_map]; omega), fun l3 hl3 => ?_⟩
    have T3 := same_upd (o := .lst ((ts1.map fun y => V.ref y.1) ++ ts2.map fun y => V.ref y.1)) hl3
    have S4 := (S3.trans T2).trans T3
    have hA : ∀ y ∈ ts1 ++ ts2, AtL AtN (upd (upd H3 l2 (.lst (ts2.map fun y => V.ref y.1))) l3 (.lst ((ts1.map fun y => V.ref y.1) ++ ts2.map fun y => V.ref y.1))) y.1 y.2 := fun y hy => by
      rcases List.mem_append.mp hy with hy | hy
      · exact atNs_mono S4 (h1' y hy)
      · exact atNs_mono (T2.trans T3) (h3 y hy)
    have g3 : upd (upd H3 l2 (.lst (ts2.map fun y => V.ref y.1))) l3 (.lst ((ts1.map fun y => V.ref y.1) ++ ts2.map fun y => V.ref y.1)) l3 = some (.lst ((ts1 ++ ts2).map fun y => V.ref y.1)) := by rw [upd_same, List.map_append]
    generalize upd (upd H3 l2 (.lst (ts2.map fun y => V.ref y.1))) l3 (.lst ((ts1.map fun y => V.ref y.1) ++ ts2.map fun y => V.ref y.1)) = H4 at hA g3 S4
    have hjl : j < (ts1 ++ ts2).length := by rw [List.length_append]; omega
    have gj := List.getElem?_eq_getElem hjl
    have et : ((ts1 ++ ts2)[j]).2 = (goodN j (l + 1) o).map toldM := by
      have : ((ts1 ++ ts2).map fun y => y.2)[j]? = some ((goodN j (l + 1) o).map toldM) := by
        rw [List.map_append, t1, t2]
        match j, hj with
        | 0, _ => rfl
        | 1, _ => rfl
        | 2, _ => rfl
        | 3, _ => rfl
        | 4, _ => rfl
        | j + 5, h => exact absurd h (by omega)
      rw [List.getElem?_map, gj] at this
      exact Option.some.inj this
    refine ⟨_, rfl, _, rfl, c, 85, 5, rfl, hb, by decide, by decide, by decide, l3, _, _, V.ref ((ts1 ++ ts2)[j]).1, rfl, rfl, SqL.of g3, ?_, ?_⟩
    · rw [show drawD c 85 5 = (j : Int) from ej]
      refine atI_nat ?_
      rw [List.getElem?_map, gj]
      rfl
    · refine q _ _ j (l + 1) hj (by omega) (by omega) (S2.trans S4) ?_
      have := hA _ (List.getElem_mem hjl)
      rw [et] at this
      exact this
end
theorem atN_at {H : Hp} {t : Addr} {n : Note} (h : AtN H t (toldM n)) : ∃ (q : Addr) (ts : List (Addr × RdgZ)), H t = some (.tup [.int ((n.1 : Nat) : Int), .ref q]) ∧ H q = some (.tup (ts.map fun y => V.ref y.1)) ∧ (∀ y ∈ ts, AtG H y.1 y.2) ∧ (ts.map fun y => y.2) = n.2.map fun y => rdgZ y.2 := by
  obtain ⟨q, h1, ts, h2, h3, h4, _⟩ := h
  exact ⟨q, ts, h1, h2, h3, h4⟩
theorem take_snoc {α : Type} {xs : List α} {i : Nat} {x : α} (h : xs[i]? = some x) : xs.take (i + 1) = xs.take i ++ [x] := by
  rw [List.take_add_one, h]
  rfl
def spLO : Sp := fun vs H Q _ => ∃ (t : Addr) (n : Note), vs = [.ref t] ∧ AtN H t (toldM n) ∧ FineN n ∧ n.2.length ≤ 30 ∧ ∀ H', Same H H' → Q (.str (noteS n)) H'
theorem scLO : FnScope ["note", "parts", "entry", "rows"] ["note"] (defScope sLO) := ⟨rfl, rfl, rfl, by decide +kernel, rfl, by decide +kernel, by decide +kernel⟩
section
theorem ok_lo {f : Addr} {fd : FuncData} (F : Fun K "_law_line_of" "_law_line_of" sLO f fd) (mstr : mg "str" = none) (mint : mg "int" = none) : FnOk P w K mg base CX0 1 f fd ["note"] spLO := by
  refine F.ok scLO (fun vs H Q E h => ?_) (fun cdv A outer s H vs Q E hr h => ?_)
  · obtain ⟨t, n, rfl, _⟩ := h
    rfl
  · obtain ⟨t, n, rfl, hn, hf, hnl, q⟩ := h
    obtain ⟨qa, ts, n1, n2, n3, n4⟩ := atN_at hn
    refine ⟨_, pss_cons (ps_set (i := 1) scLO.nd rfl (Or.inl rfl) (pe_lst pa_nil))
      (pss_cons (ps_for PassesOwn.never rfl (pi_tup (pe_ix ix_tup (pv 0) pe_int (fun _ _ => rfl))) (pg_tup (n := 2) rfl (pgs_cons (pg_name (i := 2) scLO.nd rfl (Or.inl rfl)) (pgs_cons (pg_name (i := 3) scLO.nd rfl (Or.inl rfl)) pgs_nil)))
      (pss_one (ps_expr (pe_bm PySem.F.plainAttrs_list PySem.F.slot_list_append PySem.F.type_list_append mt_append (pv 1) (pa_cons (pe_op op_add_str (pe_op op_add_str (pe_ix ix_list (pe_lst (pa_cons pe_str (pa_cons (pv 2) pa_nil))) (pe_callTy call_int1 (by rfl) mint boot_int (pa_cons (pe_cmpR op_notN (pv 2) pe_non (nomark _)) pa_nil)) (fun _ _ => rfl)) pe_str) (pe_bm PySem.F.plainAttrs_str PySem.F.slot_str_join PySem.F.type_str_join mt_join pe_str (pa_cons (pe_comp (Nc := ["row"]) (mp := [none]) rfl (CompOk.of (by rfl)) (pi_tup (pv 3)) (fun cl C s H fp => ⟨pg_name (i := 0) nd_row rfl (Or.inl rfl), pts_nil, (pe_callTy call_str_any (by rfl) mstr boot_str (pa_cons (pv 0) pa_nil))⟩)) pa_nil))) pa_nil)))))
      (pss_one (ps_ret (pe_op op_add_str (pe_op op_add_str (pe_callTy call_str_any (by rfl) mstr boot_str (pa_cons (pe_ix ix_tup (pv 0) pe_int (fun _ _ => rfl)) pa_nil)) pe_str) (pe_bm PySem.F.plainAttrs_str PySem.F.slot_str_join PySem.F.type_str_join mt_join pe_str (pa_cons (pv 1) pa_nil)))))), ?_⟩
    refine ⟨Nat.zero_le _, fun l hl => ?_⟩
    have S0 := same_upd (o := .lst []) hl
    have hz2 : (2 : Nat) ≤ sizeLine := few (by omega)
    refine ⟨_, rfl, t, _, _, _, rfl, rfl, SqT.of (S0 _ _ n1), atI_nat (j := 1) rfl, qa, rfl, ⟨_, SqT.of (S0 _ _ n2)⟩, for_tup (K := K) (a := qa) (xs := ts.map fun y => V.ref y.1) (fun j σ H5 => ∃ v2 v3 : Option V, σ = [some (.ref t), some (.ref l), v2, v3] ∧ Same H H5 ∧ H5 l = some (.lst ((n.2.take j).map fun y => V.str (rdgS y.2)))) ⟨none, none, rfl, S0, upd_same⟩ (fun j σ H5 _ ⟨_, _, _, S, _⟩ => SqT.of (S _ _ n2)) ?_ ?_⟩
    · rintro j y σ H5 hj ⟨v2, v3, rfl, S5, h5⟩
      rw [List.getElem?_map] at hj
      obtain ⟨u, hu, rfl⟩ := Option.map_eq_some_iff.mp hj
      have e4 := congrArg (fun l => l[j]?) n4
      rw [List.getElem?_map, List.getElem?_map, hu] at e4
      obtain ⟨z, hz, ez⟩ := Option.map_eq_some_iff.mp e4.symm
      have ez : rdgZ z.2 = u.2 := ez
      have hzm := List.mem_of_getElem? hz
      have hj' := (List.getElem?_eq_some_iff.mp hz).1
      obtain ⟨ho, hne⟩ := hf.2.2 z hzm
      obtain ⟨ra, k1, k2, _⟩ := atG_mono S5 (n3 u (List.mem_of_getElem? hu))
      rw [← ez] at k1 k2
      have k2 : H5 ra = some (.tup (z.2.2.map natV)) := by
        have : H5 ra = some (.tup ((z.2.2.map fun n => ((n : Nat) : Int)).map V.int)) := k2
        rw [List.map_map] at this
        exact this
      have k1 : H5 u.1 = some (.tup [z.2.1, .ref ra]) := k1
      have l12 := ent_len ho.1
      have l1 : (Str.ofString " ").length = 1 := by decide +kernel
      have hrl := rows_len ho
      refine ⟨u.1, _, rfl, SqT.of k1, rfl, _, _, rfl, _, _, rfl, rfl, ?_⟩
      refine ⟨_, rfl, .inl ⟨rfl, _, SqL.of h5⟩, _, rfl, hz2, fun d hd => ?_⟩
      have T6 := same_upd (o := .lst [V.str (Str.ofString "-"), z.2.1]) hd
      have h6d : upd H5 d (.lst [V.str (Str.ofString "-"), z.2.1]) d = some (.lst [V.str (Str.ofString "-"), z.2.1]) := upd_same
      have h6 := T6 _ _ h5
      have k26 := T6 _ _ k2
      have S6 := S5.trans T6
      generalize upd H5 d (.lst [V.str (Str.ofString "-"), z.2.1]) = H6 at h6d h6 k26 S6
      refine ⟨_, rfl, rfl, .inr ⟨!decide (z.2.1 = V.non), rfl, d, _, _, V.str (entS z.2.1), rfl, rfl, SqL.of h6d, ?_, ?_⟩⟩
      · rcases ho.1 with e | ⟨zz, _, e⟩
        · rw [e]; exact atI_nat (j := 0) rfl
        · rw [e]; exact atI_nat (j := 1) rfl
      refine ⟨_, _, rfl, rfl, few (by rw [l1]; omega), rfl, _, rfl, ra, rfl, ⟨_, SqT.of k26⟩, comp_map (as := z.2.2) (v := natV) (fun n => .str (numS ((n : Nat) : Int))) (src_tup (SqT.of k26)) (few (by have := ho.2.1; omega)) (fun n hn k hk => ?_) (fun D hD => ?_)⟩
      · have := ho.2.2 n hn
        exact ⟨_, rfl, .inl ⟨((n : Nat) : Int), rfl, log_ok (by omega) (by omega), hk⟩⟩
      · refine ⟨_, D, z.2.2.map fun n => numS ((n : Nat) : Int), rfl, rfl, .inl (SqL.of (by rw [upd_same, List.map_map]; rfl)), ?_, ?_⟩
        · have h2 : (Str.ofString ",").length = 1 := by decide +kernel
          have h3 := sum_le (ws := z.2.2.map fun n => numS ((n : Nat) : Int)) (b := 2) fun u hu => by
            obtain ⟨n, hn, rfl⟩ := List.mem_map.mp hu
            exact numS_le (k := 1) (by have := ho.2.2 n hn; omega)
          have h4 := ho.2.1
          rw [List.length_map] at h3
          rw [h2, List.length_map]
          omega
        · rw [tjoin]
          have S7 := same_upd (o := .lst (z.2.2.map fun n => V.str (numS ((n : Nat) : Int)))) hD
          have h7 := S7 _ _ h6
          refine ⟨_, _, rfl, rfl, few (by rw [app_len, l1]; omega), l, _, _, rfl, rfl, h7, fewer (by rw [List.length_map, List.length_take]; omega), _, _, rfl, same_to (S6.trans S7) hl, ?_⟩
          rw [upd_same, take_snoc hz, List.map_append]
          rfl
    · rintro σ H5 ⟨v2, v3, rfl, S5, h5⟩
      have el : ts.length = n.2.length := by have := congrArg List.length n4; rw [List.length_map, List.length_map] at this; exact this
      rw [List.length_map, el, List.take_length] at h5
      have l2 : (Str.ofString ": ").length = 2 := by decide +kernel
      have l4 := numS_le (m := n.1) (k := 3) (by have := hf.1; omega)
      have hrl := rdgs_len (xs := n.2) (fun y hy => (hf.2.2 y hy).1) hnl
      refine ⟨_, rfl, t, _, _, _, rfl, rfl, SqT.of (S5 _ _ n1), atI_nat (j := 0) rfl, .inl ⟨((n.1 : Nat) : Int), rfl, log_ok (by omega) (by have := hf.1; omega), _, _, rfl, rfl, few (by show (numS ((n.1 : Nat) : Int)).length + _ ≤ _; omega), rfl, _, rfl, _, l, n.2.map (fun y => rdgS y.2), rfl, rfl, .inl (SqL.of (by rw [h5, List.map_map]; rfl)), ?_, ?_⟩⟩
      · have h2 : (Str.ofString "; ").length = 2 := by decide +kernel
        have h3 := sum_le (ws := n.2.map fun y => rdgS y.2) (b := 113) fun z hz => by
          obtain ⟨y, hy, rfl⟩ := List.mem_map.mp hz
          exact rdg_len (hf.2.2 y hy).1
        rw [List.length_map] at h3
        rw [h2, List.length_map]
        omega
      · rw [tjoin]
        exact ⟨_, _, rfl, rfl, few (by rw [app_len]; show (numS ((n.1 : Nat) : Int)).length + _ + _ ≤ _; omega), q _ S5⟩
end
theorem pick_o (w : Str) : ∃ o, o ∈ ab ∧ w ≠ o ∧ atI [V.str (Str.ofString "a"), .str (Str.ofString "b")] (if decide (V.str w = V.str (Str.ofString "a")) = true then 1 else 0) = some (V.str o) := by
  by_cases h : w = Str.ofString "a"
  · refine ⟨Str.ofString "b", by decide +kernel, ?_, ?_⟩
    · rw [h]; decide +kernel
    · rw [h, decide_eq_true rfl, if_pos rfl]
      exact atI_nat (j := 1) rfl
  · refine ⟨Str.ofString "a", by decide +kernel, h, ?_⟩
    rw [decide_eq_false fun e => h (V.str.inj e), if_neg Bool.false_ne_true]
    exact atI_nat (j := 0) rfl
def moreL (w o : Str) : List Str := [Str.ofString "", Str.ofString " | " ++ o, Str.ofString " | -", Str.ofString " | " ++ w ++ Str.ofString " | -"]
def moreS (w o : Str) (k : Nat) : Str := (moreL w o).getD k (Str.ofString "")
theorem more_at {w o : Str} {d : Int} {k : Nat} (e : d = (k : Int)) (hk : k < 4) : atI ((moreL w o).map V.str) d = some (V.str (moreS w o k)) := by
  rw [e]
  refine atI_nat ?_
  match k, hk with
  | 0, _ => rfl
  | 1, _ => rfl
  | 2, _ => rfl
  | 3, _ => rfl
  | k + 4, h => exact absurd h (by omega)
theorem more_len {w o : Str} (hw : w.length ≤ 12) (ho : o.length ≤ 12) : ∀ k, (moreS w o k).length ≤ 30
  | 0 => by show (Str.ofString "").length ≤ 30; decide +kernel
  | 1 => by
    show (Str.ofString " | " ++ o).length ≤ 30
    rw [app_len, show (Str.ofString " | ").length = 3 from by decide +kernel]; omega
  | 2 => by show (Str.ofString " | -").length ≤ 30; decide +kernel
  | 3 => by
    show (Str.ofString " | " ++ w ++ Str.ofString " | -").length ≤ 30
    rw [app_len, app_len, show (Str.ofString " | ").length = 3 from by decide +kernel, show (Str.ofString " | -").length = 4 from by decide +kernel]; omega
  | k + 4 => by show (Str.ofString "").length ≤ 30; decide +kernel
theorem app_nilS (a : Str) : a ++ Str.ofString "" = a := by
  apply Str.ext'
  apply Array.toList_inj.mp
  rw [app_list, show (Str.ofString "").cps.toList = [] from by decide +kernel, List.append_nil]
theorem head_eq (w o : Str) : ∀ k, k < 4 → w ++ Str.ofString " | -" ++ moreS w o k = headS (esOf w o k) := by
  have e1 : Str.ofString " | -" = Str.ofString " | " ++ Str.ofString "-" := by decide +kernel
  intro k hk
  match k, hk with
  | 0, _ =>
    show w ++ Str.ofString " | -" ++ Str.ofString "" = w ++ Str.ofString " | " ++ Str.ofString "-"
    rw [app_nilS, e1, sassoc]
  | 1, _ =>
    show w ++ Str.ofString " | -" ++ (Str.ofString " | " ++ o) = w ++ Str.ofString " | " ++ (Str.ofString "-" ++ Str.ofString " | " ++ o)
    rw [e1]; simp only [sassoc]
  | 2, _ =>
    show w ++ Str.ofString " | -" ++ Str.ofString " | -" = w ++ Str.ofString " | " ++ (Str.ofString "-" ++ Str.ofString " | " ++ Str.ofString "-")
    rw [e1]; simp only [sassoc]
  | 3, _ =>
    show w ++ Str.ofString " | -" ++ (Str.ofString " | " ++ w ++ Str.ofString " | -") = w ++ Str.ofString " | " ++ (Str.ofString "-" ++ Str.ofString " | " ++ (w ++ Str.ofString " | " ++ Str.ofString "-"))
    rw [e1]; simp only [sassoc]
  | k + 4, h => exact absurd h (by omega)
def moreE (w o : Str) (k : Nat) : List V := ([[], [.str o], [.non], [.str w, .non]] : List (List V)).getD k []
theorem es_more (w o : Str) (k : Nat) : esOf w o k = [.str w, .non] ++ moreE w o k := rfl
theorem head_short {w o : Str} {k : Nat} (hw : w.length ≤ 12) (ho : o.length ≤ 12) (hk : k < 4) : (headS (esOf w o k)).length ≤ 50 := by
  have := more_len hw ho k
  rw [← head_eq w o k hk, app_len, app_len, show (Str.ofString " | -").length = 4 from by decide +kernel]
  omega
theorem up_ab : ∀ o ∈ ab, upO o = some (upS o) := by decide +kernel
theorem ab_len : ∀ o ∈ ab, o.length = 1 := by decide +kernel
theorem bh_len {w : Str} (hw : Good w) : ∀ z ∈ bh w, z.length ≤ 100 := fun z hz => by
  have all : ∀ n, n < 13 → ∀ z ∈ bh (repA n), z.length ≤ 100 := by decide +kernel
  have h1 : phiS z ∈ (bh w).map phiS := List.mem_map_of_mem hz
  rw [heads_phi (phi_good hw)] at h1
  obtain ⟨y, hy, e⟩ := List.mem_map.mp h1
  rw [← phi_len z, ← e, phi_len]
  exact all w.length (by have := hw.hi; omega) y hy
theorem bl_phi {w u o : Str} (h : phiS w = phiS u) : (bl w o).map phiS = (bl u o).map phiS := by
  simp only [bl, bl0, bl1, bl2, bl3, bl4, bl5, bl6, bl7, bl8, bl9, bl10, List.map_cons, List.map_nil, List.map_append, phi_app, h]
theorem bl_len {w o : Str} (hw : Good w) (ho : o ∈ ab) : ∀ z ∈ bl w o, z.length ≤ 100 := fun z hz => by
  have all : ∀ o ∈ ab, ∀ n, n < 13 → ∀ z ∈ bl (repA n) o, z.length ≤ 100 := by decide +kernel
  have h1 : phiS z ∈ (bl w o).map phiS := List.mem_map_of_mem hz
  rw [bl_phi (phi_good hw)] at h1
  obtain ⟨y, hy, e⟩ := List.mem_map.mp h1
  rw [← phi_len z, ← e, phi_len]
  exact all o ho w.length (by have := hw.hi; omega) y hy
theorem at_row {zs : List Str} {c k : Int} (h0 : zs ≠ []) : ∃ z ∈ zs, atI (zs.map V.str) (drawD c k (((zs.map V.str).length : Nat) : Int)) = some (V.str z) := by
  have hl : 0 < (zs.map V.str).length := by rw [List.length_map]; exact List.length_pos_iff.mpr h0
  obtain ⟨j, ej, hj⟩ := at_draw (c := c) (k := k) hl
  rw [List.length_map] at hj
  refine ⟨zs[j], List.getElem_mem hj, ?_⟩
  rw [ej]
  refine atI_nat ?_
  rw [List.getElem?_map, List.getElem?_eq_getElem hj]
  rfl
theorem sameV_seq {H : Hp} {n : Nat} {p r : Addr} {xs ys : List V} (hp : H p = some (.tup xs)) (hr : H r = some (.tup ys)) (hl : xs.length = ys.length) (hz : ys.length ≤ 100000) (h : ∀ (i : Nat) (a b : V), xs[i]? = some a → ys[i]? = some b → SameV H n a b) : SameV H (n + 1) (.ref p) (.ref r) := .inr ⟨p, r, xs, ys, rfl, rfl, hp, hr, hl, hz, h⟩
theorem sameV_ent {H : Hp} {v : V} (h : Ent v) : SameV H 0 v v := by
  rcases h with rfl | ⟨z, _, rfl⟩
  · exact .inr (.inr ⟨rfl, rfl⟩)
  · exact .inl ⟨z, rfl, rfl⟩
theorem sameV_list {α : Type} {H : Hp} {n : Nat} {At Bt : Hp → Addr → α → Prop} {a b : Addr} {xs : List α} (h : AtL At H a xs) (h2 : AtL Bt H b xs) (k : ∀ (x : α) (u v : Addr), x ∈ xs → At H u x → Bt H v x → SameV H n (.ref u) (.ref v)) : SameV H (n + 1) (.ref a) (.ref b) := by
  obtain ⟨ts, t1, t2, t3, t4⟩ := h
  obtain ⟨us, u1, u2, u3, _⟩ := h2
  have l1 : ts.length = xs.length := by rw [← t3, List.length_map]
  have l2 : us.length = xs.length := by rw [← u3, List.length_map]
  refine sameV_seq t1 u1 (by rw [List.length_map, List.length_map]; omega) (by rw [List.length_map]; omega) fun i x y hx hy => ?_
  rw [List.getElem?_map] at hx hy
  obtain ⟨z, hz, rfl⟩ := Option.map_eq_some_iff.mp hx
  obtain ⟨z', hz', rfl⟩ := Option.map_eq_some_iff.mp hy
  have e1 : xs[i]? = some z.2 := by rw [← t3, List.getElem?_map, hz]; rfl
  have e2 : xs[i]? = some z'.2 := by rw [← u3, List.getElem?_map, hz']; rfl
  have e3 : z.2 = z'.2 := by rw [e1] at e2; exact Option.some.inj e2
  have r2 := u2 z' (List.mem_of_getElem? hz')
  rw [← e3] at r2
  exact k z.2 z.1 z'.1 (List.mem_of_getElem? e1) (t2 z (List.mem_of_getElem? hz)) r2
theorem sameV_G {H : Hp} {a b : Addr} {y : RdgZ} (hE : Ent y.1) (h : AtG H a y) (h2 : AtG H b y) : SameV H 2 (.ref a) (.ref b) := by
  obtain ⟨r, e1, e2, e3⟩ := h
  obtain ⟨r', e4, e5, _⟩ := h2
  refine sameV_seq e1 e4 rfl (by show 2 ≤ _; omega) fun i u v hu hv => ?_
  match i, hu, hv with
  | 0, hu, hv => cases hu; cases hv; exact .inl (sameV_ent hE)
  | 1, hu, hv =>
    cases hu; cases hv
    refine sameV_seq e2 e5 rfl (by rw [List.length_map]; omega) fun i u v hu hv => ?_
    rw [hu] at hv
    cases hv
    obtain ⟨k, _, rfl⟩ := List.mem_map.mp (List.mem_of_getElem? hu)
    exact .inr (.inl ⟨_, rfl, rfl⟩)
  | n + 2, hu, hv => simp at hu
theorem sameV_N {H : Hp} {a b : Addr} {n : NoteZ} (hE : ∀ y ∈ n.2, Ent y.1) (h : AtN H a n) (h2 : AtN H b n) : SameV H 4 (.ref a) (.ref b) := by
  obtain ⟨r, e1, e2⟩ := h
  obtain ⟨r', e4, e5⟩ := h2
  refine sameV_seq e1 e4 rfl (by show 2 ≤ _; omega) fun i u v hu hv => ?_
  match i, hu, hv with
  | 0, hu, hv => cases hu; cases hv; exact .inl (.inl (.inl (.inr (.inl ⟨_, rfl, rfl⟩))))
  | 1, hu, hv =>
    cases hu; cases hv
    exact sameV_list e2 e5 fun x u v hx hu hv => sameV_G (hE x hx) hu hv
  | n + 2, hu, hv => simp at hu
theorem noteH_N {H : Hp} {t : Addr} {x : NoteY} (h : NoteAtH H t x) : AtN H t (toldZ x) := by
  obtain ⟨h1, q, h2, h3, h4⟩ := h
  refine ⟨q, h2, x.2, h3, fun y hy => ?_, rfl, by show (x.2.map _).length ≤ _; rw [List.length_map]; exact h4⟩
  obtain ⟨_, r, k1, k2, k3⟩ := h1 y hy
  exact ⟨r, k1, k2, k3⟩
theorem notesH_L {H : Hp} {t : Addr} {ms : List (Addr × NoteY)} {ns : List NoteZ} (h : H t = some (.tup (ms.map fun y => V.ref y.1))) (h2 : ∀ y ∈ ms, NoteAtH H y.1 y.2) (e : (ms.map fun y => toldZ y.2) = ns) (hl : ns.length ≤ 20000) : AtL AtN H t ns := by
  refine ⟨ms.map fun y => (y.1, toldZ y.2), by rw [h, List.map_map]; rfl, fun y hy => ?_, by rw [List.map_map, ← e]; rfl, hl⟩
  obtain ⟨z, hz, rfl⟩ := List.mem_map.mp hy
  exact noteH_N (h2 z hz)
theorem good_len : ∀ j, j < 5 → ∀ l o, (goodN j l o).length ≤ 2
  | 0, _, l, o => by show 0 ≤ 2; decide
  | 1, _, l, o => by show 1 ≤ 2; decide
  | 2, _, l, o => by show 1 ≤ 2; decide
  | 3, _, l, o => by show 1 ≤ 2; decide
  | 4, _, l, o => by show 2 ≤ 2; decide
  | j + 5, h, _, _ => absurd h (by omega)
theorem good_rl {o : Str} {l : Nat} : ∀ j, ∀ n ∈ goodN j l o, n.2.length ≤ 30 := by
  intro j n hn
  unfold goodN at hn
  match j, hn with
  | 0, hn => exact nomatch hn
  | 1, hn => rw [List.mem_singleton.mp hn]; show 1 ≤ 30; decide
  | 2, hn => rw [List.mem_singleton.mp hn]; show 2 ≤ 30; decide
  | 3, hn => rw [List.mem_singleton.mp hn]; show 1 ≤ 30; decide
  | 4, hn =>
    rcases List.mem_cons.mp hn with e | e
    · rw [e]; show 1 ≤ 30; decide
    · rw [List.mem_singleton.mp e]; show 1 ≤ 30; decide
  | j + 5, hn => exact nomatch hn
theorem good_txt : ∀ o ∈ ab, ∀ j, j < 5 → ∀ l, l < 30 → ∀ n ∈ goodN j l o, (noteS n).length ≤ 100 := by decide +kernel
theorem refd {K : PySem.W.Frag} {H' : Hp} {x t : Addr} (hx : H' x = some (.tup [.str (Str.ofString "refused"), .non])) (ht : H' t = none) : EqS K (upd H' t (.tup [.str (Str.ofString "refused"), .non])) 0 (.ref x) (.ref t) true := EqS.same (.inr ⟨SqT.of ((same_upd ht) _ _ hx), SqT.of upd_same⟩) rfl
theorem join_short {j l : Nat} {w o : Str} {k : Nat} (hw : w.length ≤ 12) (ho : o ∈ ab) (hk : k < 4) (hj : j < 5) (hl : l < 30) : (((headS (esOf w o k) :: (goodN j l o).map noteS).map fun z => z.length).sum ≤ 300) := by
  have h1 := head_short (k := k) hw (show o.length ≤ 12 by rw [ab_len o ho]; omega) hk
  have h2 := good_len j hj l o
  have h3 := sum_le (ws := (goodN j l o).map noteS) (b := 100) fun z hz => by
    obtain ⟨n, hn, rfl⟩ := List.mem_map.mp hz
    exact good_txt o ho j hj l hl n hn
  rw [List.length_map] at h3
  rw [List.map_cons, List.sum_cons]
  have h4 : (goodN j l o).length * 100 ≤ 200 := by omega
  omega
def spRight : Sp := fun vs H Q _ => ∃ c : Int, vs = [.int c] ∧ Builtin.Int.intBits c ≤ 1048576 ∧ ∀ H', Same H H' → Q (.bl true) H'
theorem scRight : FnScope ["cell", "word", "other", "more", "head", "entries", "way", "rows", "line", "notes", "found"] ["cell"] (defScope sRight) := ⟨rfl, rfl, rfl, by decide +kernel, rfl, by decide +kernel, by decide +kernel⟩
theorem nd_note : (["note"] : List Str).Nodup := by decide +kernel
section
theorem ok_right {f gD gW gA gBH gBL gG gL gS : Addr} {fd dD dW dA dBH dBL dG dL dS : FuncData} (F : Fun K "_law_right" "_law_right" sRight f fd) (DD : Dfn K mg "_law_draw" sDraw gD dD ["cell", "k", "many"]) (DW : Dfn K mg "_law_word_by" sWordBy gW dW ["cell", "k"]) (DA : Dfn K mg "_law_asked" sAsk gA dA ["line"]) (DBH : Dfn K mg "_law_bad_heads" sBH gBH dBH ["word"]) (DBL : Dfn K mg "_law_bad_lines" sBL gBL dBL ["word", "other"]) (DG : Dfn K mg "_law_good" sGd gG dG ["cell", "other"]) (DL : Dfn K mg "_law_line_of" sLO gL dL ["note"]) (DS : Dfn K mg "_law_same" sSame gS dS ["found", "due"])
    (GA : FnOk P w K mg base CX0 8 gA dA ["line"] spAsk) (misi : mg "isinstance" = none) (mtup : mg "tuple" = none) (mstr : mg "str" = none) (mint : mg "int" = none) (mbool : mg "bool" = none) (mlen : mg "len" = none) (mrange : mg "range" = none) (mall : mg "all" = none) (kk : Kinds K) : FnOk P w K mg base CX0 9 f fd ["cell"] spRight := by
  have GD : FnOk P w K mg base CX0 8 gD dD ["cell", "k", "many"] spDraw := (ok_draw DD.fn).mono (by decide)
  have GW : FnOk P w K mg base CX0 8 gW dW ["cell", "k"] spWordBy := (ok_wordby DW.fn DD mrange).mono (by decide)
  have GBH : FnOk P w K mg base CX0 8 gBH dBH ["word"] spBH := (ok_bh DBH.fn).mono (by decide)
  have GBL : FnOk P w K mg base CX0 8 gBL dBL ["word", "other"] spBL := (ok_bl DBL.fn).mono (by decide)
  have GG : FnOk P w K mg base CX0 8 gG dG ["cell", "other"] spGd := (ok_gd DG.fn DD).mono (by decide)
  have GL : FnOk P w K mg base CX0 8 gL dL ["note"] spLO := (ok_lo DL.fn mstr mint).mono (by decide)
  have GS : FnOk P w K mg base CX0 8 gS dS ["found", "due"] (spSame 6) := (ok_same DS.fn DS misi mtup mstr mint mbool mlen mrange mall kk 6).mono (by decide)
  refine F.ok scRight (fun vs H Q E h => ?_) (fun cdv A outer s H vs Q E hr h => ?_)
  · obtain ⟨c, rfl, _⟩ := h
    rfl
  · obtain ⟨c, rfl, hb, q⟩ := h
    refine ⟨_, pss_cons (ps_set (i := 1) scRight.nd rfl (Or.inl rfl) (pe_call GW hr (by rfl) DW.at_ DW.fn.kp DW.bn .nil pass0 (pa_cons (pv 0) (pa_cons pe_int pa_nil))))
      (pss_cons (ps_set (i := 2) scRight.nd rfl (Or.inl rfl) (pe_ix ix_list (pe_lst (pa_cons pe_str (pa_cons pe_str pa_nil))) (pe_callTy call_int1 (by rfl) mint boot_int (pa_cons (pe_cmpR op_eq (pv 1) pe_str (nomark _)) pa_nil)) (fun _ _ => rfl)))
      (pss_cons (ps_set (i := 3) scRight.nd rfl (Or.inl rfl) (pe_ix ix_list (pe_lst (pxs_cons (px_str 1) (pxs_cons (px_add (px_str 3) (px_var 2 (pv 2))) (pxs_cons (px_str 4) (pxs_cons (px_add (px_add (px_str 3) (px_var 1 (pv 1))) (px_str 4)) pxs_nil))))) (pe_call GD hr (by rfl) DD.at_ DD.fn.kp DD.bn .nil pass0 (pa_cons (pv 0) (pa_cons pe_int (pa_cons pe_int pa_nil)))) (fun _ _ => rfl)))
      (pss_cons (ps_set (i := 4) scRight.nd rfl (Or.inl rfl) (PX.pe (px_add (px_add (px_var 1 (pv 1)) (px_str 4)) (px_var 3 (pv 3)))))
      (pss_cons (ps_mid (ps_set (i := 5) scRight.nd rfl (Or.inl rfl) (pe_op op_catT (pe_tup (pa_cons (pv 1) (pa_cons pe_non pa_nil))) (pe_ix ix_list (pe_lst (pa_cons (pe_tup pa_nil) (pa_cons (pe_tup (pa_cons (pv 2) pa_nil)) (pa_cons (pe_tup (pa_cons pe_non pa_nil)) (pa_cons (pe_tup (pa_cons (pv 1) (pa_cons pe_non pa_nil))) pa_nil))))) (pe_call GD hr (by rfl) DD.at_ DD.fn.kp DD.bn .nil pass0 (pa_cons (pv 0) (pa_cons pe_int (pa_cons pe_int pa_nil)))) (fun _ _ => rfl)))))
      (pss_cons (ps_set (i := 6) scRight.nd rfl (Or.inl rfl) (pe_call GD hr (by rfl) DD.at_ DD.fn.kp DD.bn .nil pass0 (pa_cons (pv 0) (pa_cons pe_int (pa_cons pe_int pa_nil)))))
      (pss_cons (ps_if (pt_cmpR op_eq (pv 6) pe_int (nomark _)) (pss_cons (ps_set (i := 7) scRight.nd rfl (Or.inl rfl) (pe_call GBH hr (by rfl) DBH.at_ DBH.fn.kp DBH.bn .nil pass0 (pa_cons (pv 1) pa_nil)))
      (pss_one (ps_ret (pe_cmpR (op_eqS hr.units) (pe_call GA hr (by rfl) DA.at_ DA.fn.kp DA.bn .nil pass0 (pa_cons (pe_ix ix_list (pv 7) (pe_call GD hr (by rfl) DD.at_ DD.fn.kp DD.bn .nil pass0 (pa_cons (pv 0) (pa_cons pe_int (pa_cons (pe_callB call_len_seq (by rfl) mlen PySem.boot_len (pa_cons (pv 7) pa_nil)) pa_nil)))) (fun _ _ => rfl)) pa_nil)) (pe_tup (pa_cons pe_str (pa_cons pe_non pa_nil))) (nomark _))))) pss_nil)
      (pss_cons (ps_if (pt_cmpR op_lt (pv 6) pe_int (nomark _)) (pss_cons (ps_set (i := 7) scRight.nd rfl (Or.inl rfl) (pe_call GBL hr (by rfl) DBL.at_ DBL.fn.kp DBL.bn .nil pass0 (pa_cons (pv 1) (pa_cons (pv 2) pa_nil))))
      (pss_cons (ps_set (i := 8) scRight.nd rfl (Or.inl rfl) (pe_op op_add_str (pe_op op_add_str (pv 4) pe_str) (pe_ix ix_list (pv 7) (pe_call GD hr (by rfl) DD.at_ DD.fn.kp DD.bn .nil pass0 (pa_cons (pv 0) (pa_cons pe_int (pa_cons (pe_callB call_len_seq (by rfl) mlen PySem.boot_len (pa_cons (pv 7) pa_nil)) pa_nil)))) (fun _ _ => rfl))))
      (pss_cons (ps_mid (ps_if (pt_cmpR op_eq (pv 6) pe_int (nomark _)) (pss_one (ps_set (i := 8) scRight.nd rfl (Or.inl rfl) (pe_op op_add_str (pe_op op_add_str (pe_op op_add_str (pv 8) pe_str) (pv 2)) pe_str))) pss_nil))
      (pss_one (ps_ret (pe_cmpR (op_eqS hr.units) (pe_call GA hr (by rfl) DA.at_ DA.fn.kp DA.bn .nil pass0 (pa_cons (pv 8) pa_nil)) (pe_tup (pa_cons pe_str (pa_cons pe_non pa_nil))) (nomark _))))))) pss_nil)
      (pss_cons (ps_set (i := 9) scRight.nd rfl (Or.inl rfl) (pe_call GG hr (by rfl) DG.at_ DG.fn.kp DG.bn .nil pass0 (pa_cons (pv 0) (pa_cons (pv 2) pa_nil))))
      (pss_cons (ps_set (i := 10) scRight.nd rfl (Or.inl rfl) (pe_call GA hr (by rfl) DA.at_ DA.fn.kp DA.bn .nil pass0 (pa_cons (pe_bm PySem.F.plainAttrs_str PySem.F.slot_str_join PySem.F.type_str_join mt_join pe_str (pa_cons (pe_op op_cat (pe_lst (pa_cons (pv 4) pa_nil)) (pe_comp (Nc := ["note"]) (mp := [none]) rfl (CompOk.of (by rfl)) (pi_tup (pv 9)) (fun cl C s H fp => ⟨pg_name (i := 0) nd_note rfl (Or.inl rfl), pts_nil, (pe_call GL hr (by rfl) DL.at_ DL.fn.kp DL.bn .nil pass0 (pa_cons (pv 0) pa_nil))⟩))) pa_nil)) pa_nil)))
      (pss_one (ps_ret (pe_and (pe_cmpR op_eq (pe_ix ix_tup (pv 10) pe_int (fun _ _ => rfl)) pe_str (nomark _)) (pe_one (pe_call GS hr (by rfl) DS.at_ DS.fn.kp DS.bn .nil pass0 (pa_cons (pe_ix ix_tup (pv 10) pe_int (fun _ _ => rfl)) (pa_cons (pe_tup (pa_cons (pv 5) (pa_cons (pv 9) pa_nil))) pa_nil)))))))))))))))), ?_⟩
    have z1 : (1 : Nat) ≤ sizeLine := few (by omega)
    have z2 : (2 : Nat) ≤ sizeLine := few (by omega)
    have z4 : (4 : Nat) ≤ sizeLine := few (by omega)
    refine ⟨_, rfl, c, 0, rfl, hb, by decide, by decide, fun w hw => ?_⟩
    obtain ⟨o, ho, hne, hat⟩ := pick_o w
    have w12 := hw.hi
    have o1 := ab_len o ho
    have wl : w.length ≤ 100 := by omega
    have ol : o.length ≤ 100 := by omega
    refine ⟨z2, fun l1 hl1 => ⟨_, rfl, rfl, .inr ⟨_, rfl, l1, _, _, V.str o, rfl, rfl, SqL.of upd_same, hat, ?_⟩⟩⟩
    have S1 := same_upd (o := .lst [V.str (Str.ofString "a"), .str (Str.ofString "b")]) hl1
    generalize upd H l1 (.lst [V.str (Str.ofString "a"), .str (Str.ofString "b")]) = H1 at S1
    obtain ⟨k, ek, hk⟩ := at_draw (c := c) (k := 86) (m := 4) (by decide)
    refine ⟨⟨trivial, wl, ol, trivial, trivial, trivial, trivial, trivial, trivial, trivial, trivial, trivial⟩, moreL w o, rfl, few (by show 4 ≤ _; omega), fun l2 hl2 => ?_⟩
    have S2 := S1.trans (same_upd (o := .lst ((moreL w o).map V.str)) hl2)
    have g2 : upd H1 l2 (.lst ((moreL w o).map V.str)) l2 = some (.lst ((moreL w o).map V.str)) := upd_same
    generalize upd H1 l2 (.lst ((moreL w o).map V.str)) = H2 at S2 g2
    refine ⟨_, rfl, c, 86, 4, rfl, hb, by decide, by decide, by decide, l2, _, _, V.str (moreS w o k), rfl, rfl, SqL.of g2, more_at ek hk, ?_⟩
    have ml : (moreS w o k).length ≤ 100 := by have := more_len (w := w) (o := o) (by omega) (by omega) k; omega
    refine ⟨⟨trivial, wl, ol, ml, trivial, trivial, trivial, trivial, trivial, trivial, trivial, trivial⟩, headS (esOf w o k), congrArg some (head_eq w o k hk), ?_⟩
    have hsh := head_short (w := w) (o := o) (k := k) (by omega) (by omega) hk
    have hEs := es_ent hw (ab_good ho) k
    refine ⟨fun σ H' => ∃ en, σ = [some (.int c), some (.str w), some (.str o), some (.str (moreS w o k)), some (.str (headS (esOf w o k))), some (.ref en), none, none, none, none, none] ∧ Same H H' ∧ H' en = some (.tup (esOf w o k)), ?_, ?_⟩
    · refine ⟨_, rfl, z2, fun e1 he1 => ⟨Nat.zero_le _, fun t0 ht0 => ⟨_, rfl, z1, fun t1 ht1 => ⟨z1, fun t2 ht2 => ⟨_, rfl, z2, fun t3 ht3 => ⟨z4, fun l3 hl3 => ?_⟩⟩⟩⟩⟩⟩
      have E1 := same_upd (o := .tup [V.str w, .non]) he1
      have E2 := same_upd (o := .tup []) ht0
      have E3 := same_upd (o := .tup [V.str o]) ht1
      have E4 := same_upd (o := .tup [V.non]) ht2
      have E5 := same_upd (o := .tup [V.str w, .non]) ht3
      have E6 := same_upd (o := .lst [V.ref t0, .ref t1, .ref t2, .ref t3]) hl3
      have f1 := E6 _ _ (E5 _ _ (E4 _ _ (E3 _ _ (E2 _ _ (upd_same (H := H2) (a := e1) (o := .tup [V.str w, .non]))))))
      have f2 := E6 _ _ (E5 _ _ (E4 _ _ (E3 _ _ (upd_same (a := t0) (o := .tup [])))))
      have f3 := E6 _ _ (E5 _ _ (E4 _ _ (upd_same (a := t1) (o := .tup [V.str o]))))
      have f4 := E6 _ _ (E5 _ _ (upd_same (a := t2) (o := .tup [V.non])))
      have f5 := E6 _ _ (upd_same (a := t3) (o := .tup [V.str w, .non]))
      have f6 := upd_same (H := upd (upd (upd (upd (upd H2 e1 (.tup [V.str w, .non])) t0 (.tup [])) t1 (.tup [V.str o])) t2 (.tup [V.non])) t3 (.tup [V.str w, .non])) (a := l3) (o := .lst [V.ref t0, .ref t1, .ref t2, .ref t3])
      have S8 := (((((S2.trans E1).trans E2).trans E3).trans E4).trans E5).trans E6
      generalize upd (upd (upd (upd (upd (upd H2 e1 (.tup [V.str w, .non])) t0 (.tup [])) t1 (.tup [V.str o])) t2 (.tup [V.non])) t3 (.tup [V.str w, .non])) l3 (.lst [V.ref t0, .ref t1, .ref t2, .ref t3]) = H8 at f1 f2 f3 f4 f5 f6 S8
      obtain ⟨tk, h1, h2⟩ : ∃ tk, atI [V.ref t0, .ref t1, .ref t2, .ref t3] (drawD c 86 4) = some (V.ref tk) ∧ H8 tk = some (.tup (moreE w o k)) := by
        rw [show drawD c 86 4 = (k : Int) from ek]
        match k, hk with
        | 0, _ => exact ⟨t0, atI_nat (j := 0) rfl, f2⟩
        | 1, _ => exact ⟨t1, atI_nat (j := 1) rfl, f3⟩
        | 2, _ => exact ⟨t2, atI_nat (j := 2) rfl, f4⟩
        | 3, _ => exact ⟨t3, atI_nat (j := 3) rfl, f5⟩
        | k + 4, h => exact absurd h (by omega)
      have hml : (moreE w o k).length ≤ 2 := by
        match k, hk with
        | 0, _ => show 0 ≤ 2; decide
        | 1, _ => show 1 ≤ 2; decide
        | 2, _ => show 1 ≤ 2; decide
        | 3, _ => show 2 ≤ 2; decide
        | k + 4, h => exact absurd h (by omega)
      have z5 : ([V.str w, V.non] : List V).length + (moreE w o k).length ≤ sizeLine := few (by show 2 + _ ≤ _; omega)
      refine ⟨_, rfl, c, 86, 4, rfl, hb, by decide, by decide, by decide, l3, _, _, V.ref tk, rfl, rfl, SqL.of f6, h1, e1, tk, _, _, rfl, rfl, SqT.of f1, SqT.of h2, (fun e => nomatch e), z5, fun hn => ?_, fun _ p hp => ?_⟩
      · exact ⟨e1, rfl, S8, by rw [f1, es_more, hn, List.append_nil]⟩
      · exact ⟨p, rfl, S8.trans (same_upd hp), upd_same⟩
    rintro σ H3 ⟨en, rfl, S3, hen⟩
    refine ⟨_, rfl, c, 87, 5, rfl, hb, by decide, by decide, by decide, ?_⟩
    refine ⟨_, rfl, rfl, _, rfl, ?_⟩
    by_cases h0 : V.int (drawD c 87 5) = V.int 0
    · refine iteY h0 ?_
      refine ⟨_, rfl, w, rfl, wl, fun H6 p S6 h6 => ?_⟩
      obtain ⟨z, hz, hatz⟩ := at_row (zs := bh w) (c := c) (k := 88) (fun e => nomatch (show ((bh0 w ++ bh1 w) ++ bh2 w) = [] from e))
      have hzl := bh_len hw z hz
      have hpos : (0 : Int) < ((((bh w).map V.str).length : Nat) : Int) := by show (0 : Int) < ((21 : Nat) : Int); decide
      refine ⟨_, rfl, _, rfl, _, rfl, p, _, rfl, .inl (SqL.of h6), c, 88, _, rfl, hb, by decide, by decide, hpos, p, _, _, V.str z, rfl, rfl, SqL.of h6, hatz, z, rfl, by omega, fun es ns hs => ?_, fun _ H7 x S7 hx => ?_⟩
      · rw [head_row hw hz] at hs
        cases hs
      · exact ⟨z2, fun tt htt => ⟨0, true, by decide, refd hx htt, q _ (((S3.trans S6).trans S7).trans (same_upd htt))⟩⟩
    · refine iteK h0 ?_
      refine ⟨_, rfl, _, _, rfl, rfl, _, rfl, ?_⟩
      by_cases h1 : drawD c 87 5 < 4
      · refine iteY h1 ?_
        refine ⟨_, rfl, _, rfl, w, o, rfl, wl, ol, up_ab o ho, fun H6 p S6 h6 => ?_⟩
        obtain ⟨z, hz, hatz⟩ := at_row (zs := bl w o) (c := c) (k := 88) (fun e => nomatch (show (((((((((((bl0 w o ++ bl1 w o) ++ bl2 w o) ++ bl3 w o) ++ bl4 w o) ++ bl5 w o) ++ bl6 w o) ++ bl7 w o) ++ bl8 w o) ++ bl9 w o) ++ bl10 w o)) = [] from e))
        have hzl := bl_len hw ho z hz
        have hpos : (0 : Int) < ((((bl w o).map V.str).length : Nat) : Int) := by show (0 : Int) < ((46 : Nat) : Int); decide
        have n1 : (Str.ofString "\n").length = 1 := by decide +kernel
        have ln1 : (headS (esOf w o k)).length + (Str.ofString "\n").length ≤ sizeLine := few (by omega)
        have ln2 : (headS (esOf w o k) ++ Str.ofString "\n").length + z.length ≤ sizeLine := few (by rw [app_len]; omega)
        refine ⟨_, rfl, _, _, rfl, rfl, ln1, _, rfl, _, rfl, _, rfl, p, _, rfl, .inl (SqL.of h6), c, 88, _, rfl, hb, by decide, by decide, hpos, p, _, _, V.str z, rfl, rfl, SqL.of h6, hatz, _, _, rfl, rfl, ln2, ?_⟩
        refine ⟨fun σ H' => ∃ tl ∈ [Str.ofString "", tailS o], σ = [some (.int c), some (.str w), some (.str o), some (.str (moreS w o k)), some (.str (headS (esOf w o k))), some (.ref en), some (.int (drawD c 87 5)), some (.ref p), some (.str (headS (esOf w o k) ++ Str.ofString "\n" ++ (z ++ tl))), none, none] ∧ H' = H6, ?_, ?_⟩
        · refine ⟨_, rfl, rfl, _, rfl, ?_⟩
          by_cases h3 : V.int (drawD c 87 5) = V.int 3
          · refine iteY h3 ?_
            have a1 : (Str.ofString "\n1: ").length = 4 := by decide +kernel
            have a2 : (Str.ofString " 5").length = 2 := by decide +kernel
            have ln3 : (headS (esOf w o k) ++ Str.ofString "\n" ++ z).length + (Str.ofString "\n1: ").length ≤ sizeLine := few (by rw [app_len, app_len]; omega)
            have ln4 : (headS (esOf w o k) ++ Str.ofString "\n" ++ z ++ Str.ofString "\n1: ").length + o.length ≤ sizeLine := few (by rw [app_len, app_len, app_len]; omega)
            have ln5 : (headS (esOf w o k) ++ Str.ofString "\n" ++ z ++ Str.ofString "\n1: " ++ o).length + (Str.ofString " 5").length ≤ sizeLine := few (by rw [app_len, app_len, app_len, app_len]; omega)
            refine ⟨_, rfl, _, _, rfl, rfl, ln3, _, rfl, _, _, rfl, rfl, ln4, _, _, rfl, rfl, ln5, tailS o, List.mem_cons_of_mem _ List.mem_cons_self, ?_, rfl⟩
            have e : headS (esOf w o k) ++ Str.ofString "\n" ++ z ++ Str.ofString "\n1: " ++ o ++ Str.ofString " 5" = headS (esOf w o k) ++ Str.ofString "\n" ++ (z ++ tailS o) := by
              unfold tailS
              simp only [sassoc]
            rw [← e]
            rfl
          · refine iteK h3 ⟨Str.ofString "", List.mem_cons_self, ?_, rfl⟩
            rw [app_nilS]
            rfl
        · rintro σ H7 ⟨tl, htl, rfl, rfl⟩
          have htll : tl.length ≤ 20 := by
            rcases List.mem_cons.mp htl with e | e
            · rw [e]; show (Str.ofString "").length ≤ 20; decide +kernel
            · rw [List.mem_singleton.mp e]
              unfold tailS
              rw [app_len, app_len, show (Str.ofString "\n1: ").length = 4 from by decide +kernel, show (Str.ofString " 5").length = 2 from by decide +kernel]
              omega
          have hll : (headS (esOf w o k) ++ Str.ofString "\n" ++ (z ++ tl)).length ≤ 5000 := by rw [app_len, app_len, app_len, n1]; omega
          refine ⟨_, rfl, _, rfl, hll, fun es ns hs => ?_, fun _ H8 x S8 hx => ?_⟩
          · rw [line_row hw ho hne hk hz htl] at hs
            cases hs
          · exact ⟨z2, fun tt htt => ⟨0, true, by decide, refd hx htt, q _ (((S3.trans S6).trans S8).trans (same_upd htt))⟩⟩
      · refine iteK h1 ?_
        refine ⟨_, rfl, _, rfl, c, o, rfl, hb, fun H6 t j l hj hl hl1 S6 h6 => ?_⟩
        have hfine := good_fine (ab_good ho) hl j
        have hen6 := S6 _ _ hen
        obtain ⟨ts, t1, t2, t3, t4⟩ := id h6
        refine ⟨rfl, _, rfl, z1, fun l4 hl4 => ?_⟩
        have T7 := same_upd (o := .lst [V.str (headS (esOf w o k))]) hl4
        have g7 : upd H6 l4 (.lst [V.str (headS (esOf w o k))]) l4 = some (.lst [V.str (headS (esOf w o k))]) := upd_same
        generalize upd H6 l4 (.lst [V.str (headS (esOf w o k))]) = H7 at T7 g7
        have gl := good_len j hj l o
        have tl : ts.length = (goodN j l o).length := by have := congrArg List.length t3; rw [List.length_map, List.length_map] at this; exact this
        refine ⟨_, rfl, t, rfl, ⟨_, SqT.of (T7 _ _ t1)⟩, comp_grow (as := ts) (v := fun y => V.ref y.1) (fun i acc H' => acc.length = i ∧ acc = ((goodN j l o).take i).map (fun n => V.str (noteS n)) ∧ Same H7 H')
          (fun i acc H' _ ⟨_, _, S⟩ => src_tup (SqT.of ((T7.trans S) _ _ t1))) (few (by omega)) ⟨rfl, rfl, Same.refl _⟩ (fun i acc H' h => h.1) ?_ ?_⟩
        · rintro i y acc H' hy ⟨hil, rfl, S⟩ kk2 hk2
          have e4 := congrArg (fun l => l[i]?) t3
          rw [List.getElem?_map, List.getElem?_map, hy] at e4
          obtain ⟨n, hn, en2⟩ := Option.map_eq_some_iff.mp e4.symm
          have en2 : toldM n = y.2 := en2
          have hnm := List.mem_of_getElem? hn
          have hy2 := t2 y (List.mem_of_getElem? hy)
          rw [← en2] at hy2
          refine ⟨_, rfl, y.1, n, rfl, atN_mono (T7.trans S) hy2, hfine n hnm, good_rl j n hnm, fun H8 S8 => hk2 _ _ ⟨by rw [List.length_append, hil]; rfl, ?_, S.trans S8⟩⟩
          rw [take_snoc hn, List.map_append]
          rfl
        · rintro acc H8 ⟨_, rfl, S8⟩ D hD
          rw [tl, List.take_length]
          have T9 := same_upd (o := .lst ((goodN j l o).map fun n => V.str (noteS n))) hD
          have z3 : ([V.str (headS (esOf w o k))] : List V).length + ((goodN j l o).map fun n => V.str (noteS n)).length ≤ sizeLine := few (by rw [List.length_map]; show 1 + _ ≤ _; omega)
          refine ⟨l4, D, _, _, rfl, rfl, T9 _ _ (S8 _ _ g7), upd_same, z3, fun l5 hl5 => ?_⟩
          have T10 := same_upd (o := .lst ([V.str (headS (esOf w o k))] ++ (goodN j l o).map fun n => V.str (noteS n))) hl5
          have g10 : upd (upd H8 D (.lst ((goodN j l o).map fun n => V.str (noteS n)))) l5 (.lst ([V.str (headS (esOf w o k))] ++ (goodN j l o).map fun n => V.str (noteS n))) l5 = some (.lst ((headS (esOf w o k) :: (goodN j l o).map noteS).map V.str)) := by rw [upd_same, List.map_cons, List.map_map]; rfl
          have S10 := ((T7.trans S8).trans T9).trans T10
          generalize upd (upd H8 D (.lst ((goodN j l o).map fun n => V.str (noteS n)))) l5 (.lst ([V.str (headS (esOf w o k))] ++ (goodN j l o).map fun n => V.str (noteS n))) = H10 at g10 S10
          have hjs := join_short (w := w) (o := o) (k := k) (j := j) (l := l) (by omega) ho hk hj hl
          have n1 : (Str.ofString "\n").length = 1 := by decide +kernel
          have hsum : ((headS (esOf w o k) :: (goodN j l o).map noteS).map fun z => z.length).sum + (headS (esOf w o k) :: (goodN j l o).map noteS).length * (Str.ofString "\n").length ≤ 1000 := by rw [n1, List.length_cons, List.length_map]; omega
          refine ⟨_, l5, headS (esOf w o k) :: (goodN j l o).map noteS, rfl, rfl, .inl (SqL.of g10), few (by omega), ?_⟩
          rw [tjoin]
          have hjl : (Str.join (Str.ofString "\n") (headS (esOf w o k) :: (goodN j l o).map noteS)).length ≤ 5000 := by
            have := join_len (Str.ofString "\n") (headS (esOf w o k) :: (goodN j l o).map noteS)
            omega
          have hread := good_read hw ho hne hk hj hl hl1
          refine ⟨_, rfl, hjl, fun es ns hs H11 x t11 p11 r11 ms S11 hx ht11 hp11 hr11 hms ems => ?_, fun hn => ?_⟩
          · rw [hread] at hs
            have hs2 := Option.some.inj hs
            have es_eq : esOf w o k = es := congrArg Prod.fst hs2
            have ns_eq : (goodN j l o).map toldM = ns := congrArg Prod.snd hs2
            subst es_eq ns_eq
            refine ⟨_, rfl, x, _, _, _, rfl, rfl, SqT.of hx, atI_nat (j := 0) rfl, rfl, _, rfl, iteY rfl ?_⟩
            refine ⟨_, rfl, x, _, _, _, rfl, rfl, SqT.of hx, atI_nat (j := 1) rfl, _, rfl, _, rfl, z2, fun tt htt => ?_⟩
            have T12 := same_upd (o := .tup [V.ref en, .ref t]) htt
            have S12 := (S10.trans S11).trans T12
            refine ⟨.ref t11, .ref tt, rfl, ?_, q _ ((S3.trans S6).trans S12)⟩
            refine sameV_seq (T12 _ _ ht11) upd_same rfl (by show 2 ≤ _; omega) fun i u v hu hv => ?_
            match i, hu, hv with
            | 0, hu, hv =>
              cases hu; cases hv
              refine .inl (.inl (.inl (.inl (sameV_seq (T12 _ _ hp11) (S12 _ _ hen6) rfl ?_ fun i u v hu hv => ?_))))
              · rw [es_more, List.length_append]
                match k, hk with
                | 0, _ => show 2 + 0 ≤ _; omega
                | 1, _ => show 2 + 1 ≤ _; omega
                | 2, _ => show 2 + 1 ≤ _; omega
                | 3, _ => show 2 + 2 ≤ _; omega
                | k + 4, h => exact absurd h (by omega)
              · rw [hu] at hv
                cases hv
                exact sameV_ent (hEs _ (List.mem_of_getElem? hu))
            | 1, hu, hv =>
              cases hu; cases hv
              refine sameV_list (notesH_L (T12 _ _ hr11) (fun y hy => (hms y hy).mono T12) ems (by rw [List.length_map]; omega)) (atNs_mono S12 h6) fun n u v hn hu hv => sameV_N (fun y hy => ?_) hu hv
              obtain ⟨n', hn', rfl⟩ := List.mem_map.mp hn
              obtain ⟨y', hy', rfl⟩ := List.mem_map.mp hy
              exact ((hfine n' hn').2.2 y' hy').1.1
            | n + 2, hu, hv => simp at hu
          · rw [hread] at hn
            cases hn
end
theorem cut_ints (ns : List Int) (lo hi : Option Int) : ∃ ms : List Int, cutV (ns.map V.int) lo hi = ms.map V.int ∧ (∀ m ∈ ms, m ∈ ns) ∧ ms.length ≤ ns.length := by
  unfold cutV
  rw [← List.map_drop, ← List.map_take]
  refine ⟨_, rfl, fun m hm => List.mem_of_mem_drop (List.mem_of_mem_take hm), ?_⟩
  rw [List.length_take, List.length_drop]
  omega
def spLaw (K : PySem.W.Frag) : Sp := fun vs H Q _ => ∃ (a : Addr) (ns : List Int), vs = [.ref a] ∧ SqL K H a (ns.map V.int) ∧ ns.length ≤ 63 ∧ (∀ m ∈ ns, Builtin.Int.intBits m ≤ 1048576) ∧ ∀ H', Q (.bl true) H'
theorem scLaw : FnScope ["script", "cell"] ["script"] (defScope sLaw) := ⟨rfl, rfl, rfl, by decide +kernel, rfl, by decide +kernel, by decide +kernel⟩
section
theorem ok_law {f gRf gCB gOB gHa gIW gWr gNu gER gESR gNR gPR gRR gNTR gAR gD gS gW gA gBH gBL gG gL gR CV cN cR cP cS cL cM cT cO : Addr} {fd dRf dCB dOB dHa dIW dWr dNu dER dESR dNR dPR dRR dNTR dAR dD dS dW dA dBH dBL dG dL dR : FuncData} (F : Fun K "law" "law" sLaw f fd)
    (DRf : Dfn K mg "readings_of" sRdf gRf dRf ["column"]) (DCB : Dfn K mg "column_back" sCB gCB dCB ["entry", "many", "readings"]) (DOB : Dfn K mg "collation_back" sOB gOB dOB ["entries", "many", "notes"])
    (DHa : Dfn K mg "has_only" sHas gHa dHa ["text", "signs"]) (DIW : Dfn K mg "is_word" sIsW gIW dIW ["text"]) (DWr : Dfn K mg "writes_number" sWr gWr dWr ["text"]) (DNu : Dfn K mg "number_of" sNum gNu dNu ["text", "most"])
    (DER : Dfn K mg "entry_read" sER gER dER ["text"]) (DESR : Dfn K mg "entries_read" sESR gESR dESR ["line"]) (DNR : Dfn K mg "number_read" sNR gNR dNR ["text"]) (DPR : Dfn K mg "parts_read" sPR gPR dPR ["text", "between"]) (DRR : Dfn K mg "reading_read" sRR gRR dRR ["text"]) (DNTR : Dfn K mg "note_read" sNTR gNTR dNTR ["line"]) (DAR : Dfn K mg "apparatus_read" sAR gAR dAR ["text"])
    (DD : Dfn K mg "_law_draw" sDraw gD dD ["cell", "k", "many"]) (DS : Dfn K mg "_law_same" sSame gS dS ["found", "due"]) (DW : Dfn K mg "_law_word_by" sWordBy gW dW ["cell", "k"]) (DA : Dfn K mg "_law_asked" sAsk gA dA ["line"]) (DBH : Dfn K mg "_law_bad_heads" sBH gBH dBH ["word"]) (DBL : Dfn K mg "_law_bad_lines" sBL gBL dBL ["word", "other"]) (DG : Dfn K mg "_law_good" sGd gG dG ["cell", "other"]) (DL : Dfn K mg "_law_line_of" sLO gL dL ["note"]) (DR : Dfn K mg "_law_right" sRight gR dR ["cell"])
    (mlen : mg "len" = none) (mrange : mg "range" = none) (misi : mg "isinstance" = none) (mtup : mg "tuple" = none) (mstr : mg "str" = none) (mint : mg "int" = none) (mbool : mg "bool" = none) (mall : mg "all" = none) (menum : mg "enumerate" = none) (mVE : mg "ValueError" = none)
    (m0 : mg "VellumError" = some (.ref CV)) (m2 : mg "NoRow" = some (.ref cR)) (m3 : mg "NoPrices" = some (.ref cP)) (m4 : mg "NoSlips" = some (.ref cS)) (m1 : mg "NoNotes" = some (.ref cN)) (m5 : mg "NoLine" = some (.ref cL)) (m6 : mg "NoName" = some (.ref cM)) (m7 : mg "TwiceNamed" = some (.ref cT)) (m8 : mg "TooMany" = some (.ref cO))
    {tn tl tg tm tp tr : Tok} (mN : mg "NO_ENTRY" = some (.str (Str.ofString "-") tn)) (mL : mg "LETTERS" = some (.str letters tl)) (mF : mg "FIGURES" = some (.str figures tg)) (mML : mg "MOST_LETTERS" = some (.int 12 tm)) (mMP : mg "MOST_PRICE" = some (.int 1000000000000000000000000000000 tp)) (mMR : mg "MOST_ROWS" = some (.int 30 tr)) (kk : Kinds K) (X : Kx K CV cN cR cP cS cL cM cT cO) :
    FnOk P w K mg base CX0 10 f fd ["script"] (spLaw K) := by
  have xC := X.kx.vx
  have GOB : FnOk P w K mg base (CXv P w) 6 gOB dOB ["entries", "many", "notes"] (spOBX K cN) := (ok_obX DOB.fn DRf DCB m1 xC mlen mtup menum).mono (by decide)
  have GER : FnOk P w K mg base (CXv P w) 3 gER dER ["text"] (spERX cN) := ok_erX DER.fn DIW (ok_isw DIW.fn DHa mall mlen mL mML) mN m1 xC
  have GNR : FnOk P w K mg base (CXv P w) 4 gNR dNR ["text"] (spNRX cN) := ok_nrX DNR.fn DNu (ok_num DNu.fn DWr DHa mall mlen mstr mint mF) mMP m1 xC
  have GPR : FnOk P w K mg base (CXv P w) 1 gPR dPR ["text", "between"] (spPRX cN) := ok_prX DPR.fn mlen m1 xC
  have GRR : FnOk P w K mg base (CXv P w) 5 gRR dRR ["text"] (spRRX cN) := ok_rrX DRR.fn DPR DER DNR (GPR.mono (by decide)) (GER.mono (by decide)) GNR mtup
  have GNTR : FnOk P w K mg base (CXv P w) 6 gNTR dNTR ["line"] (spNTRX cN) := ok_ntrX DNTR.fn DPR DRR DNR (GPR.mono (by decide)) GRR (GNR.mono (by decide)) mtup
  have GESR : FnOk P w K mg base (CXv P w) 6 gESR dESR ["line"] (spESRX cN) := (ok_esrX DESR.fn DER GER mtup).mono (by decide)
  have GAR7 : FnOk P w K mg base (CXv P w) 7 gAR dAR ["text"] (spARX cN) := ok_arX DAR.fn DESR DNTR DOB GESR GNTR GOB mtup mMR
  have GAR : FnOk P w K mg base (CXv P w) 9 gAR dAR ["text"] (spARX cN) := GAR7.mono (by decide)
  have GA8 : FnOk P w K mg base CX0 8 gA dA ["line"] spAsk := ok_ask DA.fn DAR GAR7 misi mint mVE m0 m1 m2 m3 m4 m5 m6 m7 m8 X
  have GA : FnOk P w K mg base CX0 9 gA dA ["line"] spAsk := GA8.mono (by decide)
  have GR : FnOk P w K mg base CX0 9 gR dR ["cell"] spRight := ok_right DR.fn DD DW DA DBH DBL DG DL DS GA8 misi mtup mstr mint mbool mlen mrange mall kk
  have GS : FnOk P w K mg base CX0 9 gS dS ["found", "due"] (spSame 6) := (ok_same DS.fn DS misi mtup mstr mint mbool mlen mrange mall kk 6).mono (by decide)
  refine F.ok scLaw (fun vs H Q E h => ?_) (fun cdv A outer s H vs Q E hr h => ?_)
  · obtain ⟨a, ns, rfl, _⟩ := h
    rfl
  · obtain ⟨a, ns, rfl, hS, hn, hb, q⟩ := h
    refine ⟨_, pss_cons (ps_for PassesOwn.never rfl (pi_list (pe_op op_cat (pe_lst (pa_cons pe_int pa_nil)) (pe_slice sl_lst (pv 0) po_none (po_some pe_int)))) (pg_name (i := 1) scLaw.nd rfl (Or.inl rfl))
      (pss_one (ps_if (pt_not (pt_val (pe_call GR hr (by rfl) DR.at_ DR.fn.kp DR.bn .nil pass0 (pa_cons (pv 1) pa_nil)))) (pss_one (ps_ret pe_bl)) pss_nil)))
      (pss_cons (ps_if (pt_cmpR (op_neS hr.units) (pe_call GA hr (by rfl) DA.at_ DA.fn.kp DA.bn .nil pass0 (pa_cons pe_str pa_nil)) (pe_tup (pa_cons pe_str (pa_cons pe_non pa_nil))) (nomark _)) (pss_one (ps_ret pe_bl)) pss_nil)
      (pss_one (ps_ret (pe_call GS hr (by rfl) DS.at_ DS.fn.kp DS.bn .nil pass0 (pa_cons (pe_call GAR hr (by rfl) DAR.at_ DAR.fn.kp DAR.bn .nil passE (pa_cons pe_str pa_nil)) (pa_cons (pe_tup (pa_cons (pe_tup pa_nil) (pa_cons (pe_tup pa_nil) pa_nil))) pa_nil)))))), ?_⟩
    have z1 : (1 : Nat) ≤ sizeLine := few (by omega)
    have z2 : (2 : Nat) ≤ sizeLine := few (by omega)
    obtain ⟨ms, ecut, hms, hml⟩ := cut_ints ns none (some 60)
    refine ⟨z1, fun l1 hl1 => ?_⟩
    have L1 := same_upd (o := .lst [V.int 0]) hl1
    refine ⟨_, rfl, _, rfl, a, _, rfl, L1.seq hS, fun l2 hl2 => ?_⟩
    rw [ecut]
    have L2' := same_upd (o := .lst (ms.map V.int)) hl2
    refine ⟨l1, l2, _, _, rfl, rfl, L2' _ _ upd_same, upd_same, (by rw [List.length_map]; exact few (by show 1 + _ ≤ _; omega)), fun l3 hl3 => ?_⟩
    have L3' := same_upd (o := .lst ([V.int 0] ++ ms.map V.int)) hl3
    have h3 := upd_same (H := upd (upd H l1 (.lst [V.int 0])) l2 (.lst (ms.map V.int))) (a := l3) (o := .lst ([V.int 0] ++ ms.map V.int))
    generalize upd (upd (upd H l1 (.lst [V.int 0])) l2 (.lst (ms.map V.int))) l3 (.lst ([V.int 0] ++ ms.map V.int)) = H3 at h3
    have h3 : H3 l3 = some (.lst ((0 :: ms).map V.int)) := h3
    have hbit : ∀ c ∈ 0 :: ms, Builtin.Int.intBits c ≤ 1048576 := fun c hcm => by
      rcases List.mem_cons.mp hcm with rfl | hcm
      · decide
      · exact hb c (hms c hcm)
    refine ⟨l3, rfl, ⟨_, SqL.of h3⟩, for_list (K := K) (a := l3) (xs := (0 :: ms).map V.int) (fun i σ H' => ∃ v1 : Option V, σ = [some (.ref a), v1] ∧ Same H3 H') ⟨none, rfl, Same.refl _⟩ (fun i σ H' _ ⟨_, _, S⟩ => SqL.of (S _ _ h3)) ?_ ?_⟩
    · rintro i y σ H4 hi ⟨v1, rfl, S4⟩
      rw [List.getElem?_map] at hi
      obtain ⟨c, hci, rfl⟩ := Option.map_eq_some_iff.mp hi
      exact ⟨_, rfl, c, rfl, hbit c (List.mem_of_getElem? hci), fun H5 S5 => ⟨_, rfl, iteF ⟨_, rfl, S4.trans S5⟩⟩⟩
    · rintro σ H4 ⟨v1, rfl, S4⟩
      have hl0 : (Str.ofString "\n0: a 1").length ≤ 5000 := by decide +kernel
      have hl1 : (Str.ofString "").length ≤ 5000 := by decide +kernel
      refine ⟨_, rfl, hl0, fun es ns hs => ?_, fun _ H5 x S5 hx => ⟨z2, fun tt htt => ⟨0, true, by decide, refd hx htt, _, rfl, iteF ?_⟩⟩⟩
      · rw [end_bad] at hs
        cases hs
      refine ⟨_, rfl, hl1, fun es ns hs H6 t p r ms S6 ht hp hr hms ems => ?_, fun hn => ?_⟩
      · rw [end_good] at hs
        have hs2 := Option.some.inj hs
        have es_eq : [] = es := congrArg Prod.fst hs2
        have ns_eq : [] = ns := congrArg Prod.snd hs2
        subst es_eq ns_eq
        have em : ms = [] := List.map_eq_nil_iff.mp ems
        subst em
        refine ⟨Nat.zero_le _, fun t1 ht1 => ⟨Nat.zero_le _, fun t2 ht2 => ⟨z2, fun t3 ht3 => ?_⟩⟩⟩
        have T1 := same_upd (o := .tup []) ht1
        have T2 := same_upd (o := .tup []) ht2
        have T3 := same_upd (o := .tup [V.ref t1, .ref t2]) ht3
        have S13 := (T1.trans T2).trans T3
        have none' : ∀ {H' : Hp} {u v : Addr}, H' u = some (.tup []) → H' v = some (.tup []) → SameV H' 5 (.ref u) (.ref v) := fun {H' u v} hu hv => .inl (.inl (.inl (.inl (sameV_seq hu hv rfl (Nat.zero_le _) fun i x y hx _ => by simp at hx))))
        refine ⟨.ref t, .ref t3, rfl, sameV_seq (S13 _ _ ht) upd_same rfl (by show 2 ≤ _; omega) fun i u v hu hv => ?_, q _⟩
        match i, hu, hv with
        | 0, hu, hv => cases hu; cases hv; exact none' (S13 _ _ hp) (T3 _ _ (T2 _ _ upd_same))
        | 1, hu, hv => cases hu; cases hv; exact none' (S13 _ _ hr) (T3 _ _ upd_same)
        | n + 2, hu, hv => simp at hu
      · rw [end_good] at hn
        cases hn
end
end
theorem all_mk {l : PySem.W.OpenLaw} {w : World} {K : PySem.W.Frag} {h : Heap} {mg : Str → Option Value} {fa fRdf fCB fOB fHas fIsW fWr fNum fER fESR fNR fPR fRR fNTR fAR fDraw fSame fWordBy fAsk fBH fBL fGd fLO fRight fLaw CVellumError CNoRow CNoPrices CNoSlips CNoNotes CNoLine CNoName CTwiceNamed CTooMany : Addr} (X : K.In h) (G : h.Ns mainGlobals mg) (hfa : mg "law" = some (.ref fa))
    {odRdf anRdf odCB anCB odOB anOB odHas anHas odIsW anIsW odWr anWr odNum anNum odER anER odESR anESR odNR anNR odPR anPR odRR anRR odNTR anNTR odAR anAR odDraw anDraw odSame anSame odWordBy anWordBy odAsk anAsk odBH anBH odBL anBL odGd anGd odLO anLO odRight anRight odLaw anLaw : Option Addr} {slRdf slCB slOB slHas slIsW slWr slNum slER slESR slNR slPR slRR slNTR slAR slDraw slSame slWordBy slAsk slBH slBL slGd slLO slRight slLaw : Array (Option Value)} {ocRdf kVRdf dcRdf pmRdf cdRdf ctRdf ocCB kVCB dcCB pmCB cdCB ctCB ocOB kVOB dcOB pmOB cdOB ctOB ocHas kVHas dcHas pmHas cdHas ctHas ocIsW kVIsW dcIsW pmIsW cdIsW ctIsW ocWr kVWr dcWr pmWr cdWr ctWr ocNum kVNum dcNum pmNum cdNum ctNum ocER kVER dcER pmER cdER ctER ocESR kVESR dcESR pmESR cdESR ctESR ocNR kVNR dcNR pmNR cdNR ctNR ocPR kVPR dcPR pmPR cdPR ctPR ocRR kVRR dcRR pmRR cdRR ctRR ocNTR kVNTR dcNTR pmNTR cdNTR ctNTR ocAR kVAR dcAR pmAR cdAR ctAR ocDraw kVDraw dcDraw pmDraw cdDraw ctDraw ocSame kVSame dcSame pmSame cdSame ctSame ocWordBy kVWordBy dcWordBy pmWordBy cdWordBy ctWordBy ocAsk kVAsk dcAsk pmAsk cdAsk ctAsk ocBH kVBH dcBH pmBH cdBH ctBH ocBL kVBL dcBL pmBL cdBL ctBL ocGd kVGd dcGd pmGd cdGd ctGd ocLO kVLO dcLO pmLO cdLO ctLO ocRight kVRight dcRight pmRight cdRight ctRight ocLaw kVLaw dcLaw pmLaw cdLaw ctLaw : Value} {tkNO_ENTRY tkLETTERS tkFIGURES tkMOST_LETTERS tkMOST_PRICE tkMOST_ROWS : Tok}
    (aRdf : PySem.W.nsIn K mainGlobals "readings_of" = some (some (.ref fRdf))) (lRdf : K.lookup fRdf = some ⟨ocRdf, odRdf, .func (PySem.W.fnOf "readings_of" "readings_of" (defArgs sRdf) (defBody sRdf) (defScope sRdf) .none kVRdf dcRdf pmRdf anRdf cdRdf ctRdf), slRdf⟩) (cRdf : PySem.W.codeIn K cdRdf "readings_of" = true) (kRdf : PySem.W.keepIn K (.ref fRdf) = true)
    (aCB : PySem.W.nsIn K mainGlobals "column_back" = some (some (.ref fCB))) (lCB : K.lookup fCB = some ⟨ocCB, odCB, .func (PySem.W.fnOf "column_back" "column_back" (defArgs sCB) (defBody sCB) (defScope sCB) .none kVCB dcCB pmCB anCB cdCB ctCB), slCB⟩) (cCB : PySem.W.codeIn K cdCB "column_back" = true) (kCB : PySem.W.keepIn K (.ref fCB) = true)
    (aOB : PySem.W.nsIn K mainGlobals "collation_back" = some (some (.ref fOB))) (lOB : K.lookup fOB = some ⟨ocOB, odOB, .func (PySem.W.fnOf "collation_back" "collation_back" (defArgs sOB) (defBody sOB) (defScope sOB) .none kVOB dcOB pmOB anOB cdOB ctOB), slOB⟩) (cOB : PySem.W.codeIn K cdOB "collation_back" = true) (kOB : PySem.W.keepIn K (.ref fOB) = true)
    (aHas : PySem.W.nsIn K mainGlobals "has_only" = some (some (.ref fHas))) (lHas : K.lookup fHas = some ⟨ocHas, odHas, .func (PySem.W.fnOf "has_only" "has_only" (defArgs sHas) (defBody sHas) (defScope sHas) .none kVHas dcHas pmHas anHas cdHas ctHas), slHas⟩) (cHas : PySem.W.codeIn K cdHas "has_only" = true) (kHas : PySem.W.keepIn K (.ref fHas) = true)
    (aIsW : PySem.W.nsIn K mainGlobals "is_word" = some (some (.ref fIsW))) (lIsW : K.lookup fIsW = some ⟨ocIsW, odIsW, .func (PySem.W.fnOf "is_word" "is_word" (defArgs sIsW) (defBody sIsW) (defScope sIsW) .none kVIsW dcIsW pmIsW anIsW cdIsW ctIsW), slIsW⟩) (cIsW : PySem.W.codeIn K cdIsW "is_word" = true) (kIsW : PySem.W.keepIn K (.ref fIsW) = true)
    (aWr : PySem.W.nsIn K mainGlobals "writes_number" = some (some (.ref fWr))) (lWr : K.lookup fWr = some ⟨ocWr, odWr, .func (PySem.W.fnOf "writes_number" "writes_number" (defArgs sWr) (defBody sWr) (defScope sWr) .none kVWr dcWr pmWr anWr cdWr ctWr), slWr⟩) (cWr : PySem.W.codeIn K cdWr "writes_number" = true) (kWr : PySem.W.keepIn K (.ref fWr) = true)
    (aNum : PySem.W.nsIn K mainGlobals "number_of" = some (some (.ref fNum))) (lNum : K.lookup fNum = some ⟨ocNum, odNum, .func (PySem.W.fnOf "number_of" "number_of" (defArgs sNum) (defBody sNum) (defScope sNum) .none kVNum dcNum pmNum anNum cdNum ctNum), slNum⟩) (cNum : PySem.W.codeIn K cdNum "number_of" = true) (kNum : PySem.W.keepIn K (.ref fNum) = true)
    (aER : PySem.W.nsIn K mainGlobals "entry_read" = some (some (.ref fER))) (lER : K.lookup fER = some ⟨ocER, odER, .func (PySem.W.fnOf "entry_read" "entry_read" (defArgs sER) (defBody sER) (defScope sER) .none kVER dcER pmER anER cdER ctER), slER⟩) (cER : PySem.W.codeIn K cdER "entry_read" = true) (kER : PySem.W.keepIn K (.ref fER) = true)
    (aESR : PySem.W.nsIn K mainGlobals "entries_read" = some (some (.ref fESR))) (lESR : K.lookup fESR = some ⟨ocESR, odESR, .func (PySem.W.fnOf "entries_read" "entries_read" (defArgs sESR) (defBody sESR) (defScope sESR) .none kVESR dcESR pmESR anESR cdESR ctESR), slESR⟩) (cESR : PySem.W.codeIn K cdESR "entries_read" = true) (kESR : PySem.W.keepIn K (.ref fESR) = true)
    (aNR : PySem.W.nsIn K mainGlobals "number_read" = some (some (.ref fNR))) (lNR : K.lookup fNR = some ⟨ocNR, odNR, .func (PySem.W.fnOf "number_read" "number_read" (defArgs sNR) (defBody sNR) (defScope sNR) .none kVNR dcNR pmNR anNR cdNR ctNR), slNR⟩) (cNR : PySem.W.codeIn K cdNR "number_read" = true) (kNR : PySem.W.keepIn K (.ref fNR) = true)
    (aPR : PySem.W.nsIn K mainGlobals "parts_read" = some (some (.ref fPR))) (lPR : K.lookup fPR = some ⟨ocPR, odPR, .func (PySem.W.fnOf "parts_read" "parts_read" (defArgs sPR) (defBody sPR) (defScope sPR) .none kVPR dcPR pmPR anPR cdPR ctPR), slPR⟩) (cPR : PySem.W.codeIn K cdPR "parts_read" = true) (kPR : PySem.W.keepIn K (.ref fPR) = true)
    (aRR : PySem.W.nsIn K mainGlobals "reading_read" = some (some (.ref fRR))) (lRR : K.lookup fRR = some ⟨ocRR, odRR, .func (PySem.W.fnOf "reading_read" "reading_read" (defArgs sRR) (defBody sRR) (defScope sRR) .none kVRR dcRR pmRR anRR cdRR ctRR), slRR⟩) (cRR : PySem.W.codeIn K cdRR "reading_read" = true) (kRR : PySem.W.keepIn K (.ref fRR) = true)
    (aNTR : PySem.W.nsIn K mainGlobals "note_read" = some (some (.ref fNTR))) (lNTR : K.lookup fNTR = some ⟨ocNTR, odNTR, .func (PySem.W.fnOf "note_read" "note_read" (defArgs sNTR) (defBody sNTR) (defScope sNTR) .none kVNTR dcNTR pmNTR anNTR cdNTR ctNTR), slNTR⟩) (cNTR : PySem.W.codeIn K cdNTR "note_read" = true) (kNTR : PySem.W.keepIn K (.ref fNTR) = true)
    (aAR : PySem.W.nsIn K mainGlobals "apparatus_read" = some (some (.ref fAR))) (lAR : K.lookup fAR = some ⟨ocAR, odAR, .func (PySem.W.fnOf "apparatus_read" "apparatus_read" (defArgs sAR) (defBody sAR) (defScope sAR) .none kVAR dcAR pmAR anAR cdAR ctAR), slAR⟩) (cAR : PySem.W.codeIn K cdAR "apparatus_read" = true) (kAR : PySem.W.keepIn K (.ref fAR) = true)
    (aDraw : PySem.W.nsIn K mainGlobals "_law_draw" = some (some (.ref fDraw))) (lDraw : K.lookup fDraw = some ⟨ocDraw, odDraw, .func (PySem.W.fnOf "_law_draw" "_law_draw" (defArgs sDraw) (defBody sDraw) (defScope sDraw) .none kVDraw dcDraw pmDraw anDraw cdDraw ctDraw), slDraw⟩) (cDraw : PySem.W.codeIn K cdDraw "_law_draw" = true) (kDraw : PySem.W.keepIn K (.ref fDraw) = true)
    (aSame : PySem.W.nsIn K mainGlobals "_law_same" = some (some (.ref fSame))) (lSame : K.lookup fSame = some ⟨ocSame, odSame, .func (PySem.W.fnOf "_law_same" "_law_same" (defArgs sSame) (defBody sSame) (defScope sSame) .none kVSame dcSame pmSame anSame cdSame ctSame), slSame⟩) (cSame : PySem.W.codeIn K cdSame "_law_same" = true) (kSame : PySem.W.keepIn K (.ref fSame) = true)
    (aWordBy : PySem.W.nsIn K mainGlobals "_law_word_by" = some (some (.ref fWordBy))) (lWordBy : K.lookup fWordBy = some ⟨ocWordBy, odWordBy, .func (PySem.W.fnOf "_law_word_by" "_law_word_by" (defArgs sWordBy) (defBody sWordBy) (defScope sWordBy) .none kVWordBy dcWordBy pmWordBy anWordBy cdWordBy ctWordBy), slWordBy⟩) (cWordBy : PySem.W.codeIn K cdWordBy "_law_word_by" = true) (kWordBy : PySem.W.keepIn K (.ref fWordBy) = true)
    (aAsk : PySem.W.nsIn K mainGlobals "_law_asked" = some (some (.ref fAsk))) (lAsk : K.lookup fAsk = some ⟨ocAsk, odAsk, .func (PySem.W.fnOf "_law_asked" "_law_asked" (defArgs sAsk) (defBody sAsk) (defScope sAsk) .none kVAsk dcAsk pmAsk anAsk cdAsk ctAsk), slAsk⟩) (cAsk : PySem.W.codeIn K cdAsk "_law_asked" = true) (kAsk : PySem.W.keepIn K (.ref fAsk) = true)
    (aBH : PySem.W.nsIn K mainGlobals "_law_bad_heads" = some (some (.ref fBH))) (lBH : K.lookup fBH = some ⟨ocBH, odBH, .func (PySem.W.fnOf "_law_bad_heads" "_law_bad_heads" (defArgs sBH) (defBody sBH) (defScope sBH) .none kVBH dcBH pmBH anBH cdBH ctBH), slBH⟩) (cBH : PySem.W.codeIn K cdBH "_law_bad_heads" = true) (kBH : PySem.W.keepIn K (.ref fBH) = true)
    (aBL : PySem.W.nsIn K mainGlobals "_law_bad_lines" = some (some (.ref fBL))) (lBL : K.lookup fBL = some ⟨ocBL, odBL, .func (PySem.W.fnOf "_law_bad_lines" "_law_bad_lines" (defArgs sBL) (defBody sBL) (defScope sBL) .none kVBL dcBL pmBL anBL cdBL ctBL), slBL⟩) (cBL : PySem.W.codeIn K cdBL "_law_bad_lines" = true) (kBL : PySem.W.keepIn K (.ref fBL) = true)
    (aGd : PySem.W.nsIn K mainGlobals "_law_good" = some (some (.ref fGd))) (lGd : K.lookup fGd = some ⟨ocGd, odGd, .func (PySem.W.fnOf "_law_good" "_law_good" (defArgs sGd) (defBody sGd) (defScope sGd) .none kVGd dcGd pmGd anGd cdGd ctGd), slGd⟩) (cGd : PySem.W.codeIn K cdGd "_law_good" = true) (kGd : PySem.W.keepIn K (.ref fGd) = true)
    (aLO : PySem.W.nsIn K mainGlobals "_law_line_of" = some (some (.ref fLO))) (lLO : K.lookup fLO = some ⟨ocLO, odLO, .func (PySem.W.fnOf "_law_line_of" "_law_line_of" (defArgs sLO) (defBody sLO) (defScope sLO) .none kVLO dcLO pmLO anLO cdLO ctLO), slLO⟩) (cLO : PySem.W.codeIn K cdLO "_law_line_of" = true) (kLO : PySem.W.keepIn K (.ref fLO) = true)
    (aRight : PySem.W.nsIn K mainGlobals "_law_right" = some (some (.ref fRight))) (lRight : K.lookup fRight = some ⟨ocRight, odRight, .func (PySem.W.fnOf "_law_right" "_law_right" (defArgs sRight) (defBody sRight) (defScope sRight) .none kVRight dcRight pmRight anRight cdRight ctRight), slRight⟩) (cRight : PySem.W.codeIn K cdRight "_law_right" = true) (kRight : PySem.W.keepIn K (.ref fRight) = true)
    (aLaw : PySem.W.nsIn K mainGlobals "law" = some (some (.ref fLaw))) (lLaw : K.lookup fLaw = some ⟨ocLaw, odLaw, .func (PySem.W.fnOf "law" "law" (defArgs sLaw) (defBody sLaw) (defScope sLaw) .none kVLaw dcLaw pmLaw anLaw cdLaw ctLaw), slLaw⟩) (cLaw : PySem.W.codeIn K cdLaw "law" = true) (kLaw : PySem.W.keepIn K (.ref fLaw) = true)
    (gVellumError : PySem.W.nsIn K mainGlobals "VellumError" = some (some (.ref CVellumError)))
    (gNoRow : PySem.W.nsIn K mainGlobals "NoRow" = some (some (.ref CNoRow)))
    (gNoPrices : PySem.W.nsIn K mainGlobals "NoPrices" = some (some (.ref CNoPrices)))
    (gNoSlips : PySem.W.nsIn K mainGlobals "NoSlips" = some (some (.ref CNoSlips)))
    (gNoNotes : PySem.W.nsIn K mainGlobals "NoNotes" = some (some (.ref CNoNotes)))
    (gNoLine : PySem.W.nsIn K mainGlobals "NoLine" = some (some (.ref CNoLine)))
    (gNoName : PySem.W.nsIn K mainGlobals "NoName" = some (some (.ref CNoName)))
    (gTwiceNamed : PySem.W.nsIn K mainGlobals "TwiceNamed" = some (some (.ref CTwiceNamed)))
    (gTooMany : PySem.W.nsIn K mainGlobals "TooMany" = some (some (.ref CTooMany)))
    (gNO_ENTRY : PySem.W.nsIn K mainGlobals "NO_ENTRY" = some (some (.str (Str.ofString "-") tkNO_ENTRY)))
    (gLETTERS : PySem.W.nsIn K mainGlobals "LETTERS" = some (some (.str (Str.ofString "abcdefghijklmnopqrstuvwxyz") tkLETTERS)))
    (gFIGURES : PySem.W.nsIn K mainGlobals "FIGURES" = some (some (.str (Str.ofString "0123456789") tkFIGURES)))
    (gMOST_LETTERS : PySem.W.nsIn K mainGlobals "MOST_LETTERS" = some (some (.int 12 tkMOST_LETTERS)))
    (gMOST_PRICE : PySem.W.nsIn K mainGlobals "MOST_PRICE" = some (some (.int 1000000000000000000000000000000 tkMOST_PRICE)))
    (gMOST_ROWS : PySem.W.nsIn K mainGlobals "MOST_ROWS" = some (some (.int 30 tkMOST_ROWS)))
    (blen : PySem.W.nsIn K mainGlobals "len" = some none)
    (brange : PySem.W.nsIn K mainGlobals "range" = some none)
    (bisinstance : PySem.W.nsIn K mainGlobals "isinstance" = some none)
    (btuple : PySem.W.nsIn K mainGlobals "tuple" = some none)
    (bstr : PySem.W.nsIn K mainGlobals "str" = some none)
    (bint : PySem.W.nsIn K mainGlobals "int" = some none)
    (bbool : PySem.W.nsIn K mainGlobals "bool" = some none)
    (ball : PySem.W.nsIn K mainGlobals "all" = some none)
    (benumerate : PySem.W.nsIn K mainGlobals "enumerate" = some none)
    (bValueError : PySem.W.nsIn K mainGlobals "ValueError" = some none)
    (vVellumError : PySem.W.excIn K CVellumError [Value.type "ValueError", Value.type "Exception", Value.type "BaseException", Value.type "object"] "ValueError.__new__" = true)
    (vNoNotes : PySem.W.excIn K CNoNotes [Value.type "ValueError", Value.type "Exception", Value.type "BaseException", Value.type "object"] "ValueError.__new__" = true)
    (pNoNotes : PySem.W.findIn K (.ref CNoNotes) "__getattribute__" = some (some (.builtin "BaseException.__getattribute__")))
    (oNoNotes : PySem.W.findIn K (.ref CNoNotes) "__getattr__" = some none)
    (qNoNotes : PySem.W.findIn K (.ref CNoNotes) "__class__" = some (some (.builtin "object.__class__")))
    (rNoNotes : PySem.W.specialIn K (.builtin "object.__class__") "__get__" = some (some (.builtin "getset_descriptor.__get__")))
    (sNoNotes : PySem.W.takesIn K (.builtin "object.__class__") = some true)
    (tNoNotes : PySem.W.mroIn K CNoNotes (.type "object") = some true)
    (uNoNotes : PySem.W.mroIn K CNoNotes (.type "BaseException") = some true)
    (h1 : PySem.W.mroIn K CNoNotes (.ref CVellumError) = some true)
    (i1 : PySem.W.kitOne K (.ref CNoNotes) (.ref CNoNotes) = some true)
    (i2 : PySem.W.kitOne K (.ref CNoNotes) (.type "ValueError") = some true)
    (i4 : PySem.W.kitAny K (.ref CNoNotes) [.ref CNoLine, .ref CNoName, .ref CNoPrices, .ref CNoRow, .ref CNoSlips, .ref CTooMany, .ref CTwiceNamed] = some false)
    (j1 : PySem.W.kitOne K (.type "str") (.type "tuple") = some false)
    (j2 : PySem.W.kitOne K (.type "int") (.type "tuple") = some false)
    (j3 : PySem.W.kitOne K (.type "int") (.type "str") = some false)
    (i6 : PySem.W.kitOne K (.type "int") (.type "bool") = some false)
    (j4 : PySem.W.kitOne K (.type "NoneType") (.type "tuple") = some false)
    : ∃ fd : FuncData, (∀ (s : Shared) (v : Value), BindsTo s fd ⟨[v], []⟩ [("script", v)]) ∧ ∀ base : Heap, K.In base → base.Ns mainGlobals mg → FnOk l.prog w K mg base CX0 10 fa fd ["script"] (spLaw K) := by
  have e := hfa.symm.trans (PySem.W.mg_of X G aLaw)
  cases e
  have FRdf := fun_mk (st := sRdf) lRdf cRdf kRdf
  have b_Rdf := FRdf.binds (ps := ["column"]) fun _ _ _ _ _ _ us hl => match us, hl with | [_], _ => rfl
  have DRdf : Dfn K mg "readings_of" sRdf fRdf _ ["column"] := ⟨FRdf, PySem.W.mg_of X G aRdf, b_Rdf⟩
  have FCB := fun_mk (st := sCB) lCB cCB kCB
  have b_CB := FCB.binds (ps := ["entry", "many", "readings"]) fun _ _ _ _ _ _ us hl => match us, hl with | [_, _, _], _ => rfl
  have DCB : Dfn K mg "column_back" sCB fCB _ ["entry", "many", "readings"] := ⟨FCB, PySem.W.mg_of X G aCB, b_CB⟩
  have FOB := fun_mk (st := sOB) lOB cOB kOB
  have b_OB := FOB.binds (ps := ["entries", "many", "notes"]) fun _ _ _ _ _ _ us hl => match us, hl with | [_, _, _], _ => rfl
  have DOB : Dfn K mg "collation_back" sOB fOB _ ["entries", "many", "notes"] := ⟨FOB, PySem.W.mg_of X G aOB, b_OB⟩
  have FHas := fun_mk (st := sHas) lHas cHas kHas
  have b_Has := FHas.binds (ps := ["text", "signs"]) fun _ _ _ _ _ _ us hl => match us, hl with | [_, _], _ => rfl
  have DHas : Dfn K mg "has_only" sHas fHas _ ["text", "signs"] := ⟨FHas, PySem.W.mg_of X G aHas, b_Has⟩
  have FIsW := fun_mk (st := sIsW) lIsW cIsW kIsW
  have b_IsW := FIsW.binds (ps := ["text"]) fun _ _ _ _ _ _ us hl => match us, hl with | [_], _ => rfl
  have DIsW : Dfn K mg "is_word" sIsW fIsW _ ["text"] := ⟨FIsW, PySem.W.mg_of X G aIsW, b_IsW⟩
  have FWr := fun_mk (st := sWr) lWr cWr kWr
  have b_Wr := FWr.binds (ps := ["text"]) fun _ _ _ _ _ _ us hl => match us, hl with | [_], _ => rfl
  have DWr : Dfn K mg "writes_number" sWr fWr _ ["text"] := ⟨FWr, PySem.W.mg_of X G aWr, b_Wr⟩
  have FNum := fun_mk (st := sNum) lNum cNum kNum
  have b_Num := FNum.binds (ps := ["text", "most"]) fun _ _ _ _ _ _ us hl => match us, hl with | [_, _], _ => rfl
  have DNum : Dfn K mg "number_of" sNum fNum _ ["text", "most"] := ⟨FNum, PySem.W.mg_of X G aNum, b_Num⟩
  have FER := fun_mk (st := sER) lER cER kER
  have b_ER := FER.binds (ps := ["text"]) fun _ _ _ _ _ _ us hl => match us, hl with | [_], _ => rfl
  have DER : Dfn K mg "entry_read" sER fER _ ["text"] := ⟨FER, PySem.W.mg_of X G aER, b_ER⟩
  have FESR := fun_mk (st := sESR) lESR cESR kESR
  have b_ESR := FESR.binds (ps := ["line"]) fun _ _ _ _ _ _ us hl => match us, hl with | [_], _ => rfl
  have DESR : Dfn K mg "entries_read" sESR fESR _ ["line"] := ⟨FESR, PySem.W.mg_of X G aESR, b_ESR⟩
  have FNR := fun_mk (st := sNR) lNR cNR kNR
  have b_NR := FNR.binds (ps := ["text"]) fun _ _ _ _ _ _ us hl => match us, hl with | [_], _ => rfl
  have DNR : Dfn K mg "number_read" sNR fNR _ ["text"] := ⟨FNR, PySem.W.mg_of X G aNR, b_NR⟩
  have FPR := fun_mk (st := sPR) lPR cPR kPR
  have b_PR := FPR.binds (ps := ["text", "between"]) fun _ _ _ _ _ _ us hl => match us, hl with | [_, _], _ => rfl
  have DPR : Dfn K mg "parts_read" sPR fPR _ ["text", "between"] := ⟨FPR, PySem.W.mg_of X G aPR, b_PR⟩
  have FRR := fun_mk (st := sRR) lRR cRR kRR
  have b_RR := FRR.binds (ps := ["text"]) fun _ _ _ _ _ _ us hl => match us, hl with | [_], _ => rfl
  have DRR : Dfn K mg "reading_read" sRR fRR _ ["text"] := ⟨FRR, PySem.W.mg_of X G aRR, b_RR⟩
  have FNTR := fun_mk (st := sNTR) lNTR cNTR kNTR
  have b_NTR := FNTR.binds (ps := ["line"]) fun _ _ _ _ _ _ us hl => match us, hl with | [_], _ => rfl
  have DNTR : Dfn K mg "note_read" sNTR fNTR _ ["line"] := ⟨FNTR, PySem.W.mg_of X G aNTR, b_NTR⟩
  have FAR := fun_mk (st := sAR) lAR cAR kAR
  have b_AR := FAR.binds (ps := ["text"]) fun _ _ _ _ _ _ us hl => match us, hl with | [_], _ => rfl
  have DAR : Dfn K mg "apparatus_read" sAR fAR _ ["text"] := ⟨FAR, PySem.W.mg_of X G aAR, b_AR⟩
  have FDraw := fun_mk (st := sDraw) lDraw cDraw kDraw
  have b_Draw := FDraw.binds (ps := ["cell", "k", "many"]) fun _ _ _ _ _ _ us hl => match us, hl with | [_, _, _], _ => rfl
  have DDraw : Dfn K mg "_law_draw" sDraw fDraw _ ["cell", "k", "many"] := ⟨FDraw, PySem.W.mg_of X G aDraw, b_Draw⟩
  have FSame := fun_mk (st := sSame) lSame cSame kSame
  have b_Same := FSame.binds (ps := ["found", "due"]) fun _ _ _ _ _ _ us hl => match us, hl with | [_, _], _ => rfl
  have DSame : Dfn K mg "_law_same" sSame fSame _ ["found", "due"] := ⟨FSame, PySem.W.mg_of X G aSame, b_Same⟩
  have FWordBy := fun_mk (st := sWordBy) lWordBy cWordBy kWordBy
  have b_WordBy := FWordBy.binds (ps := ["cell", "k"]) fun _ _ _ _ _ _ us hl => match us, hl with | [_, _], _ => rfl
  have DWordBy : Dfn K mg "_law_word_by" sWordBy fWordBy _ ["cell", "k"] := ⟨FWordBy, PySem.W.mg_of X G aWordBy, b_WordBy⟩
  have FAsk := fun_mk (st := sAsk) lAsk cAsk kAsk
  have b_Ask := FAsk.binds (ps := ["line"]) fun _ _ _ _ _ _ us hl => match us, hl with | [_], _ => rfl
  have DAsk : Dfn K mg "_law_asked" sAsk fAsk _ ["line"] := ⟨FAsk, PySem.W.mg_of X G aAsk, b_Ask⟩
  have FBH := fun_mk (st := sBH) lBH cBH kBH
  have b_BH := FBH.binds (ps := ["word"]) fun _ _ _ _ _ _ us hl => match us, hl with | [_], _ => rfl
  have DBH : Dfn K mg "_law_bad_heads" sBH fBH _ ["word"] := ⟨FBH, PySem.W.mg_of X G aBH, b_BH⟩
  have FBL := fun_mk (st := sBL) lBL cBL kBL
  have b_BL := FBL.binds (ps := ["word", "other"]) fun _ _ _ _ _ _ us hl => match us, hl with | [_, _], _ => rfl
  have DBL : Dfn K mg "_law_bad_lines" sBL fBL _ ["word", "other"] := ⟨FBL, PySem.W.mg_of X G aBL, b_BL⟩
  have FGd := fun_mk (st := sGd) lGd cGd kGd
  have b_Gd := FGd.binds (ps := ["cell", "other"]) fun _ _ _ _ _ _ us hl => match us, hl with | [_, _], _ => rfl
  have DGd : Dfn K mg "_law_good" sGd fGd _ ["cell", "other"] := ⟨FGd, PySem.W.mg_of X G aGd, b_Gd⟩
  have FLO := fun_mk (st := sLO) lLO cLO kLO
  have b_LO := FLO.binds (ps := ["note"]) fun _ _ _ _ _ _ us hl => match us, hl with | [_], _ => rfl
  have DLO : Dfn K mg "_law_line_of" sLO fLO _ ["note"] := ⟨FLO, PySem.W.mg_of X G aLO, b_LO⟩
  have FRight := fun_mk (st := sRight) lRight cRight kRight
  have b_Right := FRight.binds (ps := ["cell"]) fun _ _ _ _ _ _ us hl => match us, hl with | [_], _ => rfl
  have DRight : Dfn K mg "_law_right" sRight fRight _ ["cell"] := ⟨FRight, PySem.W.mg_of X G aRight, b_Right⟩
  have FLaw := fun_mk (st := sLaw) lLaw cLaw kLaw
  have mVellumError := PySem.W.mg_of X G gVellumError
  have mNoRow := PySem.W.mg_of X G gNoRow
  have mNoPrices := PySem.W.mg_of X G gNoPrices
  have mNoSlips := PySem.W.mg_of X G gNoSlips
  have mNoNotes := PySem.W.mg_of X G gNoNotes
  have mNoLine := PySem.W.mg_of X G gNoLine
  have mNoName := PySem.W.mg_of X G gNoName
  have mTwiceNamed := PySem.W.mg_of X G gTwiceNamed
  have mTooMany := PySem.W.mg_of X G gTooMany
  have mNO_ENTRY := PySem.W.mg_of X G gNO_ENTRY
  have mLETTERS := PySem.W.mg_of X G gLETTERS
  have mFIGURES := PySem.W.mg_of X G gFIGURES
  have mMOST_LETTERS := PySem.W.mg_of X G gMOST_LETTERS
  have mMOST_PRICE := PySem.W.mg_of X G gMOST_PRICE
  have mMOST_ROWS := PySem.W.mg_of X G gMOST_ROWS
  have mlen := PySem.W.mg_none_of X G blen
  have mrange := PySem.W.mg_none_of X G brange
  have misinstance := PySem.W.mg_none_of X G bisinstance
  have mtuple := PySem.W.mg_none_of X G btuple
  have mstr := PySem.W.mg_none_of X G bstr
  have mint := PySem.W.mg_none_of X G bint
  have mbool := PySem.W.mg_none_of X G bbool
  have mall := PySem.W.mg_none_of X G ball
  have menumerate := PySem.W.mg_none_of X G benumerate
  have mValueError := PySem.W.mg_none_of X G bValueError
  exact ⟨PySem.W.fnOf "law" "law" (defArgs sLaw) (defBody sLaw) (defScope sLaw) .none kVLaw dcLaw pmLaw anLaw cdLaw ctLaw, fun s v => .of_eq rfl, fun base _ _ => ok_law FLaw DRdf DCB DOB DHas DIsW DWr DNum DER DESR DNR DPR DRR DNTR DAR DDraw DSame DWordBy DAsk DBH DBL DGd DLO DRight mlen mrange misinstance mtuple mstr mint mbool mall menumerate mValueError mVellumError mNoRow mNoPrices mNoSlips mNoNotes mNoLine mNoName mTwiceNamed mTooMany mNO_ENTRY mLETTERS mFIGURES mMOST_LETTERS mMOST_PRICE mMOST_ROWS ⟨j1, j2, j3, i6, j4⟩ ⟨⟨vNoNotes, pNoNotes, oNoNotes, qNoNotes, rNoNotes, sNoNotes, tNoNotes, uNoNotes⟩, Hits.of vNoNotes vVellumError h1, i1, i2, i4⟩⟩
theorem walk {l : PySem.W.OpenLaw} {q : Program} {loose : List Str} {XP : (Str → Option Value) → Heap → Prop} {YP : World → Heap → Prop} {d : DefRec} {K : Params → PySem.W.Frag} (hn : l.most = some 63) (hdf : d.params.defaults = [])
    (hY : ∀ (w : World) (h : Heap), YP w h → (K w.params).In h)
    (F : ∀ (w : World) (mg : Str → Option Value) (fa : Addr) (h : Heap), (K w.params).In h → h.Ns mainGlobals mg → mg d.name = some (.ref fa) →
      ∃ fd : FuncData, (∀ (s : Shared) (u : Value), BindsTo s fd ⟨[u], []⟩ [("script", u)]) ∧ ∀ base : Heap, (K w.params).In base → base.Ns mainGlobals mg → FnOk l.prog w (K w.params) mg base CX0 10 fa fd ["script"] (spLaw (K w.params))) :
    PySem.W.WalkO q loose XP YP l.row.toRowW d [] (fun f vs => PySem.call f vs) :=
  L3.walk_ofB (n := 63) (k := 10) (x := "script") (CX := fun _ => CX0) (sp := fun w => spLaw (K w.params)) hn (by decide) hdf ⟨rfl, by decide, by decide⟩ hY F (fun _ _ a ns hl hb _ hS => ⟨a, ns, rfl, hS, hl, hb, fun _ => rfl⟩) fun _ _ _ _ _ z => z
end K32
open PySem PySem.W PyProof.Rows
set_option maxRecDepth 100000 in
set_option maxHeartbeats 0 in
theorem PySem.Challenge.cw_vellum_k32_texts_that_are_no_apparatus_holds : PySem.Challenge.rw_vellum_k32_texts_that_are_no_apparatus.Holds := by
  w_on
  refine holds_law K32.said0 fun said => ?_
  refine holds_open (q := K32.view) (loose := [Str.ofString "VellumError", Str.ofString "NoRow", Str.ofString "NoPrices", Str.ofString "NoSlips", Str.ofString "NoNotes", Str.ofString "NoLine", Str.ofString "NoName", Str.ofString "TwiceNamed", Str.ofString "TooMany", Str.ofString "readings_of", Str.ofString "column_back", Str.ofString "collation_back", Str.ofString "LETTERS", Str.ofString "FIGURES", Str.ofString "MOST_LETTERS", Str.ofString "MOST_PRICE", Str.ofString "has_only", Str.ofString "is_word", Str.ofString "writes_number", Str.ofString "number_of", Str.ofString "MOST_ROWS", Str.ofString "NO_ENTRY", Str.ofString "entry_read", Str.ofString "entries_read", Str.ofString "number_read", Str.ofString "parts_read", Str.ofString "reading_read", Str.ofString "note_read", Str.ofString "apparatus_read", Str.ofString "_law_cell_at", Str.ofString "_law_draw", Str.ofString "_law_same", Str.ofString "_law_word_by", Str.ofString "_law_asked", Str.ofString "_law_bad_heads", Str.ofString "_law_bad_lines", Str.ofString "_law_good", Str.ofString "_law_line_of", Str.ofString "_law_right"]) (Xt := (fun s => PySem.W.xlAt K32.view [] s && PySem.W.recOk (PySem.W.RowW.records (PySem.W.OpenRow.toRowW PySem.Challenge.rw_vellum_k32_texts_that_are_no_apparatus.row)) s)) (XP := XL K32.view [])
    (YP := Hook.says (PySem.W.kHook K32.hp K32.ad K32.ad_hp)) (N := 5564)
    K32.left (Hook.of _) (Hook.keeps _) (fun s e => xl_of s (Bool.and_eq_true_iff.mp e).1)
    XL.keeps rfl rfl rfl
    (fun s e => recFacts_of (Bool.and_eq_true_iff.mp e).2) rfl said
    (by decide +kernel)
    ⟨rfl, rfl, rfl, rfl, rfl, by decide +kernel⟩ ?hw ?hc
  case hw => w_witness2
  k_fill
  refine K32.walk (l := PySem.Challenge.rw_vellum_k32_texts_that_are_no_apparatus) rfl rfl (fun w h Y => PySem.W.kIn_of Y) ?F
  case F =>
    intro w mg fa h KX G hmg
    refine' K32.all_mk KX G hmg ?aRdf ?lRdf ?cRdf ?kRdf ?aCB ?lCB ?cCB ?kCB ?aOB ?lOB ?cOB ?kOB ?aHas ?lHas ?cHas ?kHas ?aIsW ?lIsW ?cIsW ?kIsW ?aWr ?lWr ?cWr ?kWr ?aNum ?lNum ?cNum ?kNum ?aER ?lER ?cER ?kER ?aESR ?lESR ?cESR ?kESR ?aNR ?lNR ?cNR ?kNR ?aPR ?lPR ?cPR ?kPR ?aRR ?lRR ?cRR ?kRR ?aNTR ?lNTR ?cNTR ?kNTR ?aAR ?lAR ?cAR ?kAR ?aDraw ?lDraw ?cDraw ?kDraw ?aSame ?lSame ?cSame ?kSame ?aWordBy ?lWordBy ?cWordBy ?kWordBy ?aAsk ?lAsk ?cAsk ?kAsk ?aBH ?lBH ?cBH ?kBH ?aBL ?lBL ?cBL ?kBL ?aGd ?lGd ?cGd ?kGd ?aLO ?lLO ?cLO ?kLO ?aRight ?lRight ?cRight ?kRight ?aLaw ?lLaw ?cLaw ?kLaw ?gVellumError ?gNoRow ?gNoPrices ?gNoSlips ?gNoNotes ?gNoLine ?gNoName ?gTwiceNamed ?gTooMany ?gNO_ENTRY ?gLETTERS ?gFIGURES ?gMOST_LETTERS ?gMOST_PRICE ?gMOST_ROWS ?blen ?brange ?bisinstance ?btuple ?bstr ?bint ?bbool ?ball ?benumerate ?bValueError ?vVellumError ?vNoNotes ?pNoNotes ?oNoNotes ?qNoNotes ?rNoNotes ?sNoNotes ?tNoNotes ?uNoNotes ?h1 ?i1 ?i2 ?i4 ?j1 ?j2 ?j3 ?i6 ?j4
    (case aRdf => k_is)
    (case lRdf => k_is)
    (case cRdf => k_is)
    (case kRdf => k_is)
    (case aCB => k_is)
    (case lCB => k_is)
    (case cCB => k_is)
    (case kCB => k_is)
    (case aOB => k_is)
    (case lOB => k_is)
    (case cOB => k_is)
    (case kOB => k_is)
    (case aHas => k_is)
    (case lHas => k_is)
    (case cHas => k_is)
    (case kHas => k_is)
    (case aIsW => k_is)
    (case lIsW => k_is)
    (case cIsW => k_is)
    (case kIsW => k_is)
    (case aWr => k_is)
    (case lWr => k_is)
    (case cWr => k_is)
    (case kWr => k_is)
    (case aNum => k_is)
    (case lNum => k_is)
    (case cNum => k_is)
    (case kNum => k_is)
    (case aER => k_is)
    (case lER => k_is)
    (case cER => k_is)
    (case kER => k_is)
    (case aESR => k_is)
    (case lESR => k_is)
    (case cESR => k_is)
    (case kESR => k_is)
    (case aNR => k_is)
    (case lNR => k_is)
    (case cNR => k_is)
    (case kNR => k_is)
    (case aPR => k_is)
    (case lPR => k_is)
    (case cPR => k_is)
    (case kPR => k_is)
    (case aRR => k_is)
    (case lRR => k_is)
    (case cRR => k_is)
    (case kRR => k_is)
    (case aNTR => k_is)
    (case lNTR => k_is)
    (case cNTR => k_is)
    (case kNTR => k_is)
    (case aAR => k_is)
    (case lAR => k_is)
    (case cAR => k_is)
    (case kAR => k_is)
    (case aDraw => k_is)
    (case lDraw => k_is)
    (case cDraw => k_is)
    (case kDraw => k_is)
    (case aSame => k_is)
    (case lSame => k_is)
    (case cSame => k_is)
    (case kSame => k_is)
    (case aWordBy => k_is)
    (case lWordBy => k_is)
    (case cWordBy => k_is)
    (case kWordBy => k_is)
    (case aAsk => k_is)
    (case lAsk => k_is)
    (case cAsk => k_is)
    (case kAsk => k_is)
    (case aBH => k_is)
    (case lBH => k_is)
    (case cBH => k_is)
    (case kBH => k_is)
    (case aBL => k_is)
    (case lBL => k_is)
    (case cBL => k_is)
    (case kBL => k_is)
    (case aGd => k_is)
    (case lGd => k_is)
    (case cGd => k_is)
    (case kGd => k_is)
    (case aLO => k_is)
    (case lLO => k_is)
    (case cLO => k_is)
    (case kLO => k_is)
    (case aRight => k_is)
    (case lRight => k_is)
    (case cRight => k_is)
    (case kRight => k_is)
    (case aLaw => k_is)
    (case lLaw => k_is)
    (case cLaw => k_is)
    (case kLaw => k_is)
    (case gVellumError => k_is)
    (case gNoRow => k_is)
    (case gNoPrices => k_is)
    (case gNoSlips => k_is)
    (case gNoNotes => k_is)
    (case gNoLine => k_is)
    (case gNoName => k_is)
    (case gTwiceNamed => k_is)
    (case gTooMany => k_is)
    (case gNO_ENTRY => k_is)
    (case gLETTERS => k_is)
    (case gFIGURES => k_is)
    (case gMOST_LETTERS => k_is)
    (case gMOST_PRICE => k_is)
    (case gMOST_ROWS => k_is)
    (case blen => k_is)
    (case brange => k_is)
    (case bisinstance => k_is)
    (case btuple => k_is)
    (case bstr => k_is)
    (case bint => k_is)
    (case bbool => k_is)
    (case ball => k_is)
    (case benumerate => k_is)
    (case bValueError => k_is)
    (case vVellumError => k_exc)
    (case vNoNotes => k_exc)
    (case pNoNotes => k_is)
    (case oNoNotes => k_is)
    (case qNoNotes => k_is)
    (case rNoNotes => k_is)
    (case sNoNotes => k_is)
    (case tNoNotes => k_is)
    (case uNoNotes => k_is)
    (case h1 => k_is)
    (case i1 => kit_is)
    (case i2 => kit_is)
    (case i4 => kit_is)
    (case j1 => kit_is)
    (case j2 => kit_is)
    (case j3 => kit_is)
    (case i6 => kit_is)
    (case j4 => kit_is)
